import PyProof.Rows.All
import Wide.All
import OpenK.AllK
import Wide.FinOn
import HandS.ForMost
import HandS.Wide
import HandS.DictComp
import HandS.Codes
import HandS.IsInst
import HandS.Conv
import HandS.Walk
import HandS.Defaults
import HandS.Nested
import HandS.ExcInit
import HandS.ExcField
import HandS.MakeKw
import KE.KSuper
import KE.KExcSuper
import HandS.ExcOwn
import HandS.TryOnly
import HandS.TryMany
import HandS.WordsExc
import HandS.NoneIn
import HandS.Dict
import PySem.Challenge.RW_longstrike_k02_books_made
set_option Elab.async false
set_option linter.all false
set_option maxRecDepth 100000
set_option maxHeartbeats 4000000
set_option exponentiation.threshold 20000
namespace Ls
open PySem PySem.Spec PyProof.Rows L2

/-! ### calls in short -/
/-- a def of the module that keeps a promise: where it stands, how it is bound -/
structure Own (P : Program) (w : World) (K : PySem.W.Frag) (mg : Str → Option Value) (base : Heap) (CX : CXT) (k : Nat) (x : Str) (ps : List Str) (sp : Sp) : Prop where
  ex : ∃ (f : Addr) (fd : FuncData), FnOk P w K mg base CX k f fd ps sp ∧ mg x = some (.ref f) ∧ PySem.W.keepIn K (.ref f) = true ∧ Binds K fd ps []
/-- a method of the class at C -/
structure OwnM (P : Program) (w : World) (K : PySem.W.Frag) (mg : Str → Option Value) (base : Heap) (CX : CXT) (k : Nat) (C : Addr) (m : Str) (ps : List Str) (sp : Sp) : Prop where
  cl : Cls K C
  ex : ∃ (f : Addr) (fd : FuncData), FnOk P w K mg base CX k f fd ps sp ∧ Meth K C m f ∧ Binds K fd ps []
/-- a class that is called -/
structure OwnC (P : Program) (w : World) (K : PySem.W.Frag) (mg : Str → Option Value) (base : Heap) (CX : CXT) (k : Nat) (C : Addr) (x : Str) (ps : List Str) (sp : Sp) : Prop where
  ex : ∃ (f : Addr) (fd : FuncData), FnOk P w K mg base CX k f fd ps sp ∧ mg x = some (.ref C) ∧ Mk K C f ∧ Binds K fd ps []
section
variable {X : Cx} {k j : Nat} {x m : Str} {ps : List Str} {sp : Sp} {p pos apos : Pos} {e o : Expr} {es : List Expr} {t : TA} {ta : TE} {C : Addr}
theorem own_call (O : Own X.prog X.w X.K X.mg X.base CX0 k x ps sp) (hr : Room j X.A) (hkj : k ≤ j) (ha : PA X (e :: es) t)
    (hg : Gl X x := by rfl) (hdb : (x == ("__debug__" : Str)) = false := by decide) (he : starEach (e :: es) X.env = (false, eval e X.env) :: starEach es X.env := by rfl) (hpl : (backTo pos (starEach es X.env)).any (·.1) = false := by rfl) :
    PE X (.Call (.Name x p) (e :: es) [] pos) (tCall sp [] E0 t) := by
  obtain ⟨f, fd, F, g, kp, b⟩ := O.ex
  exact pe_call F (hr.mono hkj) hg g kp b .nil pass0 ha hdb he hpl
theorem own_call0 (O : Own X.prog X.w X.K X.mg X.base CX0 k x ps sp) (hr : Room j X.A) (hkj : k ≤ j) (hg : Gl X x := by rfl) (hdb : (x == ("__debug__" : Str)) = false := by decide) :
    PE X (.Call (.Name x p) [] [] pos) (tCall sp [] E0 tNil) := by
  obtain ⟨f, fd, F, g, kp, b⟩ := O.ex
  exact pe_call0 F (hr.mono hkj) hg g kp b .nil pass0 hdb
theorem own_meth {pl : Sem Bool} (O : OwnM X.prog X.w X.K X.mg X.base CX0 k C m ps sp) (hr : Room j X.A) (hkj : k ≤ j) (ho : PE X o ta) (ha : PA X (e :: es) t)
    (hst : starEach (e :: es) X.env = (false, eval e X.env) :: starEach es X.env := by rfl) (hpl : (backTo pos (starEach es X.env)).any (·.1) = false := by rfl)
    (ht : eval (.Call (.Attribute o m apos) (e :: es) [] pos) X.env = (do
      let ov ← eval o X.env
      standAt apos.atName
      let (f, first) ← holding [ov] (getMethod ov m pl)
      callWith pos f first (backTo pos (starEach (e :: es) X.env)) (backToKw pos (keywordEach [] X.env))) := by rfl) : PE X (.Call (.Attribute o m apos) (e :: es) [] pos) (tMeth C m sp [] E0 ta t) := by
  obtain ⟨f, fd, F, me, b⟩ := O.ex
  exact pe_meth ho O.cl me F (hr.mono hkj) b .nil pass0 ha hst hpl ht
theorem own_meth0 {pl : Sem Bool} (O : OwnM X.prog X.w X.K X.mg X.base CX0 k C m ps sp) (hr : Room j X.A) (hkj : k ≤ j) (ho : PE X o ta)
    (ht : eval (.Call (.Attribute o m apos) [] [] pos) X.env = (do
      let ov ← eval o X.env
      standAt apos.atName
      let (f, first) ← holding [ov] (getMethod ov m pl)
      callWith pos f first (backTo pos (starEach [] X.env)) (backToKw pos (keywordEach [] X.env))) := by rfl) : PE X (.Call (.Attribute o m apos) [] [] pos) (tMeth C m sp [] E0 ta tNil) := by
  obtain ⟨f, fd, F, me, b⟩ := O.ex
  exact pe_meth0 ho O.cl me F (hr.mono hkj) b .nil pass0 ht
theorem own_make (O : OwnC X.prog X.w X.K X.mg X.base CX0 k C x ps sp) (hr : Room j X.A) (hkj : k + 1 ≤ j) (ha : PA X (e :: es) t)
    (hg : Gl X x := by rfl) (hdb : (x == ("__debug__" : Str)) = false := by decide) (he : starEach (e :: es) X.env = (false, eval e X.env) :: starEach es X.env := by rfl) (hpl : (backTo pos (starEach es X.env)).any (·.1) = false := by rfl) :
    PE X (.Call (.Name x p) (e :: es) [] pos) (tMake C sp [] E0 t) := by
  obtain ⟨f, fd, F, g, M, b⟩ := O.ex
  exact pe_make M F (hr.mono hkj) hg g b .nil pass0 ha hdb he hpl
theorem glob_str {z : Str} {tk : Tok} (hm : X.mg x = some (.str z tk)) (hg : Gl X x := by rfl) (hd : (x == ("__debug__" : Str)) = false := by decide) : PE X (.Name x pos) (tC (.str z)) := pe_glob hg hm ⟨_, rfl⟩ hd
theorem glob_int {i : Int} {tk : Tok} (hm : X.mg x = some (.int i tk)) (hg : Gl X x := by rfl) (hd : (x == ("__debug__" : Str)) = false := by decide) : PE X (.Name x pos) (tC (.int i)) := pe_glob hg hm ⟨_, rfl⟩ hd
theorem glob_ref {a : Addr} (hm : X.mg x = some (.ref a)) (hg : Gl X x := by rfl) (hd : (x == ("__debug__" : Str)) = false := by decide) : PE X (.Name x pos) (tC (.ref a)) := pe_glob hg hm rfl hd
/-- a statement that is never reached -/
theorem ps_dead {st : Stmt} : PS X st (fun _ _ _ => False) := ⟨fun _ _ _ _ _ _ h => h.elim⟩
theorem pss_dead {st : List Stmt} : PSs X st (fun _ _ _ => False) := ⟨fun _ _ _ _ _ _ h => h.elim⟩
end

/-! ### a def of the text, whatever its defaults -/
structure FunE (K : PySem.W.Frag) (x qual : Str) (st : Stmt) (f : Addr) (fd : FuncData) : Prop where
  ex : ∃ (oc : Value) (od : Option Addr) (dV kV doc pm : Value) (an : Option Addr) (cdv ct : Value) (osl : Array (Option Value)),
    fd = PySem.W.fnOf x qual (defArgs st) (defBody st) (defScope st) dV kV doc pm an cdv ct ∧ K.lookup f = some ⟨oc, od, .func fd, osl⟩ ∧ PySem.W.codeIn K cdv qual = true
theorem FunE.ok {P : Program} {w : World} {K : PySem.W.Frag} {mg : Str → Option Value} {base : Heap} {x qual : Str} {st : Stmt} {f : Addr} {fd : FuncData} {N ps : List Str} {k : Nat} {sp : Sp} (F : FunE K x qual st f fd) (S : FnScope N ps (defScope st))
    (len : ∀ vs H Q E, sp vs H Q E → vs.length = ps.length)
    (body : ∀ (cdv : Value) (A : Around) (outer : List Env) (s : Shared) (H : Hp) (vs : List V) (Q : VK) (E : XK), Room k (A.deeper (envOfC qual (defScope st) s.heap.objs.size f cdv)) → sp vs H Q E →
      ∃ t, PSs (cxOf CX0 P w K mg base N qual (defScope st) f cdv A outer s H E).nox (defBody st) t ∧ t { nx := fun _ H' => Q .non H', rt := Q } (start N vs) H) : FnOk P w K mg base CX0 (k + 1) f fd ps sp := by
  obtain ⟨oc, od, dV, kV, doc, pm, an, cdv, ct, osl, rfl, lk, hcd⟩ := F.ex
  refine fn_of lk hcd S len fun A outer s H vs Q E hr hsp => ?_
  obtain ⟨t, ht, hq⟩ := body cdv A outer s H vs Q E hr hsp
  exact ⟨t, ht.nox, hq⟩
/-- two defaults that are not asked for -/
theorem FunE.mk2 {K : PySem.W.Frag} {x qual : Str} {st : Stmt} {f T : Addr} {oc : Value} {od an : Option Addr} {osl : Array (Option Value)} {kV doc pm cdv ct : Value}
    (l : K.lookup f = some ⟨oc, od, .func (PySem.W.fnOf x qual (defArgs st) (defBody st) (defScope st) (.ref T) kV doc pm an cdv ct), osl⟩) (c : PySem.W.codeIn K cdv qual = true) :
    FunE K x qual st f (PySem.W.fnOf x qual (defArgs st) (defBody st) (defScope st) (.ref T) kV doc pm an cdv ct) := ⟨oc, od, .ref T, kV, doc, pm, an, cdv, ct, osl, rfl, l, c⟩

/-! ### tuples of the written part -/
def KTup (K : PySem.W.Frag) (a : Addr) (xs : List V) : Prop := ∃ (its : Array Value) (n : Nat), K.lookup a = some { cls := .type "tuple", dict := none, data := .seq its n, slots := #[] } ∧ its.size ≤ sizeLine ∧ Vals xs its.toList
theorem KTup.sq {K : PySem.W.Frag} {a : Addr} {xs : List V} (h : KTup K a xs) (H : Hp) : SqT K H a xs := by
  obtain ⟨its, n, lk, hz, r⟩ := h
  exact .inr ⟨_, its, n, lk, rfl, rfl, hz, r⟩
def rExtK (K : PySem.W.Frag) : V → List V → Hp → VK → Prop := fun x vs H Q => ∃ l b xs zs, x = .ref l ∧ vs = [.ref b] ∧ H l = some (.lst xs) ∧ KTup K b zs ∧ xs.length + zs.length ≤ sizeLine ∧ Q .non (upd H l (.lst (xs ++ zs)))
theorem mt_extK {X : Cx} (K : PySem.W.Frag) (hK : X.K = K := by rfl) : MtM X "list.extend" (rExtK K) := by
  subst hK
  intro pins s σ H x vs v us Q I rx rv h
  obtain ⟨l, b, xs, zs, rfl, rfl, hH, ⟨its2, n2, lk, z2, r2⟩, hz, q⟩ := h
  cases rx
  obtain ⟨u, rfl, ru⟩ := rv.one
  cases ru
  obtain ⟨z, its, n, r, hl, e⟩ := I.lstM hH
  have e2 := I.kIn _ _ lk
  obtain ⟨m2⟩ := its2
  have l2 : zs.length = m2.length := r2.length
  have hs : its.toArray.size + (Array.mk m2).size ≤ sizeLine := by
    rw [List.size_toArray]
    show its.length + m2.length ≤ sizeLine
    omega
  refine call_meets F.slot_list_extend ⟨_, e, rfl⟩ F.entry_list_extend (F.args_list_extend_2 _ _) (AutoSeq1.list_extend_list_tuple_0 l its.toArray n b (Array.mk m2) n2 (by rw [notLongL hs, Bool.and_false]; exact Bool.false_ne_true) (by omega) (by omega)) ⟨e, e2, ?_⟩
  refine ⟨.non, _, I.lset (its' := its ++ m2) (ys := xs ++ zs) hH e (by simp) (r.append r2) ?len, rfl, q⟩
  rw [List.length_append]
  exact hz

/-! ### rules that name the written part -/
section
variable {X : Cx}
theorem ixL (K : PySem.W.Frag) (h : X.K = K := by rfl) : IxR X (rIxL K) := by subst h; exact ix_list
theorem ixT (K : PySem.W.Frag) (h : X.K = K := by rfl) : IxR X (rIxT K) := by subst h; exact ix_tup
theorem in_seq (K : PySem.W.Frag) (h : X.K = K := by rfl) : OpR X (compareOp .In) (rIn K false) := by subst h; exact op_in_seq
theorem notIn_seq (K : PySem.W.Frag) (h : X.K = K := by rfl) : OpR X (compareOp .NotIn) (rIn K true) := by subst h; exact op_notIn_seq
theorem eqD (K : PySem.W.Frag) {k : Nat} (hr : Room k X.A) (h : X.K = K := by rfl) : OpR X (compareOp .Eq) (rEqD K) := by subst h; exact op_eqD hr.units
theorem neD (K : PySem.W.Frag) {k : Nat} (hr : Room k X.A) (h : X.K = K := by rfl) : OpR X (compareOp .NotEq) (rNeD K) := by subst h; exact op_neD hr.units
theorem list_of (K : PySem.W.Frag) (h : X.K = K := by rfl) : CallR X (.type "list") (fun xs H Q => ∃ p ys, xs = [.ref p] ∧ (SqL K H p ys ∨ SqT K H p ys) ∧ ∀ l, H l = none → Q (.ref l) (upd H l (.lst ys))) := by subst h; exact call_list_of
theorem tuple_of (K : PySem.W.Frag) (h : X.K = K := by rfl) : CallR X (.type "tuple") (fun xs H Q => ∃ p ys, xs = [.ref p] ∧ ((SqL K H p ys ∧ ∀ l, H l = none → Q (.ref l) (upd H l (.tup ys))) ∨ (SqT K H p ys ∧ Q (.ref p) H))) := by subst h; exact call_tuple_of
theorem len_seq (K : PySem.W.Frag) (h : X.K = K := by rfl) : CallR X (.builtin "len") (fun xs H Q => ∃ p ys, xs = [.ref p] ∧ (SqL K H p ys ∨ SqT K H p ys) ∧ Q (.int ys.length) H) := by subst h; exact call_len_seq
end

/-! ### lists of ints as data -/
theorem dp_ints {K : PySem.W.Frag} {H : Hp} : ∀ ns : List Int, DpAll K H (ns.map V.int) (ns.map PyData.int)
  | [] => .nil
  | n :: r => .cons (.int n) (dp_ints r)
theorem lay_ints : ∀ ns : List Int, PyData.canLayAll0 (ns.map PyData.int) = true
  | [] => by simp [PyData.canLayAll0]
  | n :: r => by simp [PyData.canLayAll0, PyData.canLay0, lay_ints r]
theorem depth_ints : ∀ ns : List Int, PyData.depthAll (ns.map PyData.int) = 0
  | [] => by simp [PyData.depthAll]
  | n :: r => by simp [PyData.depthAll, PyData.depth, depth_ints r]
theorem shaped_ints (ns : List Int) : SeqAt.shaped (.list (ns.map PyData.int)) = true := by
  simp [SeqAt.shaped, PyData.canLay0, PyData.depth, lay_ints, depth_ints]
theorem eqv_nil (ns : List Int) : PyData.eqv (.list (ns.map PyData.int)) (.list []) = decide (ns = []) := by
  cases ns with
  | nil => simp [PyData.eqv, PyData.eqvAll]
  | cons n r => simp [PyData.eqv, PyData.eqvAll]
theorem lt_pow {m c : Int} (h0 : 0 ≤ m) (h1 : m < 2147483647) (c0 : 0 ≤ c) (c1 : c ≤ 10000001) : (m + 104729 * c + 17).natAbs < 2 ^ 64 := by omega
theorem emod_lo (a : Int) {n : Int} (h : 0 < n) : 0 ≤ a % n := Int.emod_nonneg _ (by omega)
theorem emod_hi (a : Int) {n : Int} (h : 0 < n) : a % n < n := Int.emod_lt_of_pos _ h
theorem sq_le {c : Int} (c0 : 0 ≤ c) (c1 : c ≤ 10000001) : 0 ≤ 40503 * c * c ∧ 40503 * c * c ≤ 4050300810060040503 := by
  have h1 : c * c ≤ 10000001 * 10000001 := Int.mul_le_mul c1 c1 c0 (by omega)
  have h2 : 0 ≤ c * c := Int.mul_nonneg c0 c0
  have e : 40503 * c * c = 40503 * (c * c) := Int.mul_assoc _ _ _
  rw [e]
  omega
theorem log_lt {k : Int} (h0 : 0 < k) (h : k ≤ 10 ^ 40) : k.natAbs.log2 < 9000 := by
  refine (Nat.log2_lt (by omega)).mpr (Nat.lt_of_le_of_lt (m := 10 ^ 40) (by omega) ?_)
  exact Nat.lt_of_lt_of_le (show 10 ^ 40 < 2 ^ 140 by decide +kernel) (Nat.pow_le_pow_right (by decide) (by decide))

/-! ### heaps -/
/-- all else is as it was -/
def Old (S L : Addr) (H H' : Hp) : Prop := ∀ b o, b ≠ S → b ≠ L → H b = some o → H' b = some o
theorem Old.refl {S L : Addr} (H : Hp) : Old S L H H := fun _ _ _ _ e => e
theorem Old.trans {S L : Addr} {H H1 H2 : Hp} (a : Old S L H H1) (b : Old S L H1 H2) : Old S L H H2 := fun c o h1 h2 e => b c o h1 h2 (a c o h1 h2 e)
theorem Old.same {S L : Addr} {H H1 : Hp} (a : Same H H1) : Old S L H H1 := fun c o _ _ e => a c o e
theorem same_new {H : Hp} {p : Addr} {o : HO} (h : H p = none) : Same H (upd H p o) := fun b x e => by
  rw [upd_ne (ne_of_none e h)]
  exact e
theorem Old.new {S L : Addr} {H : Hp} {p : Addr} {o : HO} (h : H p = none) : Old S L H (upd H p o) := .same (same_new h)
theorem Old.set {S L : Addr} {H H1 : Hp} {p : Addr} {o : HO} (h : Old S L H H1) (hp : H p = none) : Old S L H (upd H1 p o) := fun b u h1 h2 e => by
  rw [upd_ne (ne_of_none e hp)]
  exact h b u h1 h2 e
theorem Old.none {S L : Addr} {H H1 : Hp} {p : Addr} (h : Old S L H H1) (hp : H1 p = none) (n : p ≠ S ∧ p ≠ L) : H p = none := by
  cases e : H p with
  | none => rfl
  | some o => rw [h _ _ n.1 n.2 e] at hp; cases hp
/-- the law's stream at S over the list at L, of which at most n draws were made -/
def Stm (H : Hp) (S L : Addr) (n : Nat) : Prop := ∃ (ns : List Int) (d c m : Int), H S = some (.lst [.ref L, .int d, .int c, .int m]) ∧ H L = some (.lst (ns.map V.int)) ∧ 0 ≤ d ∧ 0 ≤ c ∧ c ≤ (n : Int) ∧ 0 ≤ m ∧ m < 2147483647
theorem Stm.ne {H : Hp} {S L : Addr} {n : Nat} (h : Stm H S L n) : S ≠ L := by
  obtain ⟨ns, d, c, m, h1, h2, _⟩ := h
  refine ne_of h1 h2 fun e => ?_
  have e' := HO.lst.inj e
  cases ns with
  | nil => cases e'
  | cons a r => rw [List.map_cons] at e'; injection e' with e1; cases e1
theorem Stm.mono {H : Hp} {S L : Addr} {n m : Nat} (h : Stm H S L n) (hm : n ≤ m) : Stm H S L m := by
  obtain ⟨ns, d, c, k, h1, h2, h3, h4, h5, h6⟩ := h
  exact ⟨ns, d, c, k, h1, h2, h3, h4, by omega, h6⟩
theorem Stm.keep {H H' : Hp} {S L : Addr} {n : Nat} (h : Stm H S L n) (s : Same H H') : Stm H' S L n := by
  obtain ⟨ns, d, c, k, h1, h2, h3⟩ := h
  exact ⟨ns, d, c, k, s _ _ h1, s _ _ h2, h3⟩
theorem Stm.noneS {H : Hp} {S L p : Addr} {n : Nat} (h : Stm H S L n) (hp : H p = none) : p ≠ S ∧ p ≠ L := by
  obtain ⟨ns, d, c, k, h1, h2, h3⟩ := h
  exact ⟨Ne.symm (ne_of_none h1 hp), Ne.symm (ne_of_none h2 hp)⟩
theorem Stm.upd {H : Hp} {S L p : Addr} {n : Nat} {o : HO} (h : Stm H S L n) (h1 : p ≠ S) (h2 : p ≠ L) : Stm (upd H p o) S L n := by
  obtain ⟨ns, d, c, k, e1, e2, h3⟩ := h
  exact ⟨ns, d, c, k, by rw [upd_ne (Ne.symm h1)]; exact e1, by rw [upd_ne (Ne.symm h2)]; exact e2, h3⟩
/-! ### two tests whose answers are known -/
theorem or2 {t u : TT} {σ : L2.St} {H : Hp} {Q : Bool → Hp → Prop} (c1 c2 : Bool) (h1 : ∀ Q' : Bool → Hp → Prop, Q' c1 H → t σ H Q') (h2 : c1 = false → ∀ Q' : Bool → Hp → Prop, Q' c2 H → u σ H Q') (hq : Q (c1 || c2) H) : tOr t u σ H Q := by
  refine h1 _ ?_
  cases c1 with
  | true => exact hq
  | false => exact h2 rfl _ hq
theorem and2 {t u : TT} {σ : L2.St} {H : Hp} {Q : Bool → Hp → Prop} (c1 c2 : Bool) (h1 : ∀ Q' : Bool → Hp → Prop, Q' c1 H → t σ H Q') (h2 : c1 = true → ∀ Q' : Bool → Hp → Prop, Q' c2 H → u σ H Q') (hq : Q (c1 && c2) H) : tAnd t u σ H Q := by
  refine h1 _ ?_
  cases c1 with
  | true => exact h2 rfl _ hq
  | false => exact hq
/-- what is known of the heap from here on -/
theorem at_heap {P : Hp → Prop} {H0 : Hp} (φ : Hp → Prop) (h1 : φ H0) (h2 : ∀ H1, φ H1 → P H1) : P H0 := h2 H0 h1
/-! ### comprehensions that change nothing else -/
section
variable {J : It} {n : Nat} {G : Hp → Prop} {Y : Nat → Hp → V → Hp → Prop}
/-- the made list behind i turns -/
def made (xs : List V) (f : V → Option V) (i : Nat) : List V := (xs.take i).filterMap f
theorem made_yes {xs : List V} {f : V → Option V} {i : Nat} {x y : V} (hx : xs[i]? = some x) (hf : f x = some y) : made xs f (i + 1) = made xs f i ++ [y] := by
  unfold made
  rw [List.take_add_one, hx, List.filterMap_append]
  simp [hf]
theorem made_no {xs : List V} {f : V → Option V} {i : Nat} {x : V} (hx : xs[i]? = some x) (hf : f x = none) : made xs f (i + 1) = made xs f i := by
  unfold made
  rw [List.take_add_one, hx, List.filterMap_append]
  simp [hf]
theorem made_len (xs : List V) (f : V → Option V) (i : Nat) : (made xs f i).length ≤ i := by
  unfold made
  exact Nat.le_trans (List.length_filterMap_le _ _) (by rw [List.length_take]; exact Nat.min_le_left _ _)
/-- a comprehension whose turns leave the heap as it is: what each item gives is told by f -/
theorem lc_pure (w : Walk J n G Y) (xs : List V) (f : V → Option V) (hn : xs.length = n) (hY : ∀ i H x H', i < n → Y i H x H' → H' = H ∧ xs[i]? = some x) {g : TG} {tt : TT} {te : TE} {vs : List Nat} {σ : L2.St} {H1 : Hp} {D : Addr} {Qd : Hp → Prop}
    (hz : n < sizeLine) (hG : ∀ acc, G (upd H1 D (.lst acc)))
    (hs : ∀ i x, i < n → xs[i]? = some x → g x (wipe σ vs) (upd H1 D (.lst (made xs f i))) fun σ2 H2 => wipe σ2 vs = wipe σ vs ∧ tt σ2 H2 fun b H3 =>
      if b = true then te σ2 H3 fun y H4 => ∃ acc, H4 D = some (.lst acc) ∧ acc.length < sizeLine ∧ upd H4 D (.lst (acc ++ [y])) = upd H1 D (.lst (made xs f (i + 1))) else H3 = upd H1 D (.lst (made xs f (i + 1))))
    (hd : Qd (upd H1 D (.lst (xs.filterMap f)))) :
    ∃ W : Nat → Nat → Hp → Prop, (∃ m, W 0 m (upd H1 D (.lst []))) ∧ ∀ i m H, W i m H →
      (J.stop i H ∧ Qd H) ∨ (J.go i H ∧ ∃ Nx : Hp → Prop, (∀ H', Nx H' → ∃ m', m' < m ∧ W (i + 1) m' H') ∧ ∀ x H', J.yld i H x H' → g x (wipe σ vs) H' fun σ2 H2 => wipe σ2 vs = wipe σ vs ∧ tt σ2 H2 fun b H3 =>
        if b = true then te σ2 H3 fun y H4 => ∃ acc, H4 D = some (.lst acc) ∧ acc.length < sizeLine ∧ Nx (upd H4 D (.lst (acc ++ [y]))) else Nx H3) := by
  refine lc_it w (fun i H => H = upd H1 D (.lst (made xs f i))) rfl (fun i H _ e => by rw [e]; exact hG _) (fun i x H H' hi e y => ?_) (fun H e => ?_)
  · obtain ⟨e2, hx⟩ := hY i H x H' hi y
    rw [e2, e]
    exact hs i x hi hx
  · have : made xs f n = xs.filterMap f := by unfold made; rw [← hn, List.take_length]
    rw [e, this]
    exact hd
theorem lc_yes {xs : List V} {f : V → Option V} {i : Nat} {x y : V} {H1 : Hp} {D : Addr} {n : Nat} (hx : xs[i]? = some x) (hi : i < n) (hz : n < sizeLine) (hf : f x = some y) :
    ∃ acc, (upd H1 D (.lst (made xs f i))) D = some (.lst acc) ∧ acc.length < sizeLine ∧ upd (upd H1 D (.lst (made xs f i))) D (.lst (acc ++ [y])) = upd H1 D (.lst (made xs f (i + 1))) :=
  ⟨_, upd_same, Nat.lt_of_le_of_lt (made_len _ _ _) (Nat.lt_trans hi hz), by rw [upd_upd, made_yes hx hf]⟩
theorem lc_no {xs : List V} {f : V → Option V} {i : Nat} {x : V} {H1 : Hp} {D : Addr} (hx : xs[i]? = some x) (hf : f x = none) : upd H1 D (.lst (made xs f i)) = upd H1 D (.lst (made xs f (i + 1))) := by rw [made_no hx hf]
/-- the signs of a text as texts -/
def signs (z : Str) : List V := z.cps.toList.map fun c => .str ⟨#[c]⟩
theorem signs_len (z : Str) : (signs z).length = z.cps.size := by unfold signs; rw [List.length_map, Array.length_toList]
theorem yld_str {z : Str} : ∀ (i : Nat) (H : Hp) (x : V) (H' : Hp), i < z.cps.size → (H' = H ∧ ∃ c, z.cps[i]? = some c ∧ x = .str ⟨#[c]⟩) → H' = H ∧ (signs z)[i]? = some x := fun i H x H' _ ⟨e, c, hc, ex⟩ =>
  ⟨e, by unfold signs; rw [List.getElem?_map, Array.getElem?_toList, hc, ex]; rfl⟩
end
def spDraw : Sp := fun vs H Q _ => ∃ (S L : Addr) (n : Nat) (k : Int), vs = [.ref S, .int k] ∧ Stm H S L n ∧ n ≤ 10000000 ∧ 0 < k ∧ k ≤ 10 ^ 40 ∧
  ∀ (H' : Hp) (r : Int), 0 ≤ r → r < k → Stm H' S L (n + 1) → Old S L H H' → Q (.int r) H'
end Ls
namespace Ls
open PySem PySem.Spec PyProof.Rows L2
def topS (i : Nat) : Stmt := PySem.Challenge.pw_longstrike_k02_books_made.main.body.getD i (.Pass ⟨0, 0, 0, 0⟩)
/-- the built-in names that are called -/
structure Bt (mg : Str → Option Value) : Prop where
  m_int : mg "int" = none
  m_len : mg "len" = none
  m_range : mg "range" = none
  m_list : mg "list" = none
  m_tuple : mg "tuple" = none
  m_dict : mg "dict" = none
  m_isinstance : mg "isinstance" = none
  m_all : mg "all" = none
  m_any : mg "any" = none
  m_repr : mg "repr" = none
  m_str : mg "str" = none
/-! ### short steps -/
local macro_rules | `(tactic| walk_at "ls_ne") => `(tactic| first | assumption | exact Ne.symm (by assumption) | exact ne_of_none (by assumption) (by assumption) | exact Ne.symm (ne_of_none (by assumption) (by assumption)))
local macro_rules | `(tactic| walk_at "ls_hp") => `(tactic| first
  | with_reducible assumption
  | exact upd_same
  | exact Eq.trans (upd_ne (by walk_at "ls_ne")) (by walk_at "ls_hp"))
local macro_rules | `(tactic| walk_at "ls_st") => `(tactic| first
  | with_reducible assumption
  | exact Stm.upd (by walk_at "ls_st") (by first | walk_at "ls_ne" | exact (Stm.noneS (by assumption) (by assumption)).1) (by first | walk_at "ls_ne" | exact (Stm.noneS (by assumption) (by assumption)).2))
local macro_rules | `(tactic| walk_at "ls1") => `(tactic| first
  | refine ⟨_, rfl, ?_⟩
  | refine ⟨_, _, rfl, rfl, ?_⟩
  | refine ⟨_, _, _, _, rfl, rfl, .inl (.inl (by walk_at "ls_hp")), rfl, ?_⟩
  | refine ⟨_, _, _, _, rfl, rfl, (by walk_at "ls_hp"), rfl, ?_⟩
  | refine ⟨rfl, _, rfl, ?_⟩
  | refine ⟨.inl ⟨rfl, _, .inl (.inl (by walk_at "ls_hp"))⟩, ?_⟩)
local macro_rules | `(tactic| walk_at "ls") => `(tactic| repeat (walk_at "ls1"))

section
variable {P : Program} {w : World} {K : PySem.W.Frag} {mg : Str → Option Value} {base : Heap}
/-! ### _law_draw -/
abbrev s__law_draw : Stmt := topS 28
theorem sc__law_draw : FnScope ["_law_stream", "_law_many", "_law_digit", "_law_mixed_here"] ["_law_stream", "_law_many"] (defScope s__law_draw) := ⟨rfl, rfl, rfl, by decide +kernel, rfl, by decide +kernel, by decide +kernel⟩
abbrev N__law_draw : List Str := ["_law_stream", "_law_many", "_law_digit", "_law_mixed_here"]
theorem ok_draw {f : Addr} {fd : FuncData} {j : Nat} (F : Fun K "_law_draw" "_law_draw" s__law_draw f fd) (T : Bt mg) : FnOk P w K mg base CX0 (j + 1) f fd ["_law_stream", "_law_many"] spDraw := by
  refine F.ok sc__law_draw (fun vs H Q E h => ?_) (fun cdv A outer s H vs Q E hr h => ?_)
  · obtain ⟨S, L, n, k, rfl, _⟩ := h
    rfl
  · obtain ⟨S, L, n, k, rfl, hst, hn, hk, hk2, q⟩ := h
    have hu := hu_of hr
    refine ⟨_, (pss_cons (ps_asg (pe_op op_add (pe_ix (ixL K) (pv 0) pe_int (fun _ _ => rfl)) pe_int) (pg_sub (pv 0) pe_int set_list))
      (C8.pss_cut (ps_if (PW.pt (pw_and (pt_cmpR op_eq (pe_ix (ixL K) (pv 0) pe_int (fun _ _ => rfl)) pe_int (nomark _)) (pw_and1 (pt_cmpR (neD K hr) (pe_ix (ixL K) (pv 0) pe_int (fun _ _ => rfl)) (pe_lst pa_nil) (nomark _))))) (pss_cons (ps_asg (pe_bm PySem.F.plainAttrs_list PySem.F.slot_list_pop PySem.F.type_list_pop mt_popAt (pe_ix (ixL K) (pv 0) pe_int (fun _ _ => rfl)) (pa_cons pe_int pa_nil)) (pg_sub (pv 0) pe_int set_list))
      (pss_one (ps_if (pt_cmpR op_lt (pe_ix (ixL K) (pv 0) pe_int (fun _ _ => rfl)) (pe_op op_pow pe_int pe_int) (nomark _)) (pss_cons (ps_asg (pe_op op_mod (pe_callTy call_int1 (by rfl) T.m_int (by decide +kernel) (pa_cons (pe_op op_add (pe_op op_add (pe_op op_mul (pe_ix (ixL K) (pv 0) pe_int (fun _ _ => rfl)) pe_int) (pe_ix (ixL K) (pv 0) pe_int (fun _ _ => rfl))) pe_int) pa_nil)) pe_int) (pg_sub (pv 0) pe_int set_list))
      (pss_one (ps_asg pe_int (pg_sub (pv 0) pe_int set_list)))) pss_nil))) pss_nil)
      (pss_cons (ps_if (pt_cmpR op_gt (pe_ix (ixL K) (pv 0) pe_int (fun _ _ => rfl)) pe_int (nomark _)) (pss_cons (ps_set (i := 2) sc__law_draw.nd rfl (Or.inl rfl) (pe_op op_mod (pe_callTy call_int1 (by rfl) T.m_int (by decide +kernel) (pa_cons (pe_ix (ixL K) (pv 0) pe_int (fun _ _ => rfl)) pa_nil)) (pv 1)))
      (pss_cons (ps_asg (pe_op op_fdivW (pe_ix (ixL K) (pv 0) pe_int (fun _ _ => rfl)) (pv 1)) (pg_sub (pv 0) pe_int set_list))
      (pss_one (ps_ret (pv 2))))) pss_nil)
      (pss_cons (ps_set (i := 3) sc__law_draw.nd rfl (Or.inl rfl) (pe_op op_mod (pe_op op_pow (pe_op op_add (pe_op op_add (pe_ix (ixL K) (pv 0) pe_int (fun _ _ => rfl)) (pe_op op_mul pe_int (pe_ix (ixL K) (pv 0) pe_int (fun _ _ => rfl)))) pe_int) pe_int) pe_int))
      (pss_one (ps_ret (pe_op op_mod (pe_op op_mod (pe_op op_pow (pe_op op_add (pe_op op_add (pe_op op_mul (pv 3) pe_int) (pe_op op_mul (pe_op op_mul pe_int (pe_ix (ixL K) (pv 0) pe_int (fun _ _ => rfl))) (pe_ix (ixL K) (pv 0) pe_int (fun _ _ => rfl)))) pe_int) pe_int) pe_int) (pv 1)))))))), ?_⟩
    obtain ⟨ns, d, c, m, hS, hL, d0, c0, cn, m0, m1⟩ := id hst
    have nSL := hst.ne
    walk_at "ls"
    refine ⟨fun σ' H' => σ' = [some (.ref S), some (.int k), none, none] ∧ ∃ (ns : List Int) (d m : Int), H' S = some (.lst [.ref L, .int d, .int (c + 1), .int m]) ∧ H' L = some (.lst (ns.map V.int)) ∧ 0 ≤ d ∧ 0 ≤ m ∧ m < 2147483647 ∧ Old S L H H', ?_, ?_⟩
    · walk_at "ls"
      refine ite2 (fun e => ?_) (fun e => ?_)
      · walk_at "ls"
        refine ⟨by decide, fun p hp => ?_⟩
        have hd : d = 0 := V.int.inj (of_decide_eq_true e)
        subst hd
        have nSp : p ≠ S := fun z => by rw [z, upd_same] at hp; cases hp
        have nLp : p ≠ L := fun z => by rw [z, upd_ne nSL.symm, hL] at hp; cases hp
        refine ⟨.list (ns.map .int), .list [], .lst (.inl (.inl (by walk_at "ls_hp"))) (dp_ints _), .lst (.inl (.inl upd_same)) .nil, shaped_ints ns, by decide +kernel, _, rfl, ?_⟩
        rw [eqv_nil]
        cases ns with
        | nil =>
          rw [decide_eq_true rfl]
          refine iteF ?_
          exact ⟨rfl, [], 0, m, (by walk_at "ls_hp"), (by walk_at "ls_hp"), d0, m0, m1, fun b o h1 h2 e => by rw [upd_ne (ne_of_none (by rw [upd_ne h1]; exact e) hp), upd_ne h1]; exact e⟩
        | cons x r =>
          rw [decide_eq_false (by simp)]
          refine iteT ?_
          walk_at "ls"
          refine ⟨_, _, _, 0, .int x, rfl, rfl, (by walk_at "ls_hp"), by decide, by decide, (ixN_seq (by show ixN ((List.map V.int (x :: r)).length) 0 = some 0; unfold ixN; rw [if_pos (by decide), if_pos (by rw [List.length_map, List.length_cons]; omega)]; rfl)).1, rfl, ?_⟩
          walk_at "ls"
          refine ⟨⟨by decide, by decide, by decide⟩, ?_⟩
          walk_at "ls"
          refine ite2 (fun e => ?_) (fun e => ?_)
          · walk_at "ls"
            refine ⟨.inr ⟨by decide, by decide⟩, ?_⟩
            walk_at "ls"
            refine .inl ⟨_, rfl, ?_⟩
            walk_at "ls"
            refine ⟨(by show (0 : Int) < 2147483647; decide), ?_⟩
            walk_at "ls"
            refine ⟨rfl, r, 0, _, upd_same, (by walk_at "ls_hp"), by decide, emod_lo _ (by decide), emod_hi _ (by decide), fun b o h1 h2 e => ?_⟩
            have np : b ≠ p := ne_of_none (by rw [upd_ne h1]; exact e) hp
            rw [upd_ne h1, upd_ne h1, upd_ne h1, upd_ne h2, upd_ne np, upd_ne h1]
            exact e
          · refine ⟨rfl, r, x, m, upd_same, (by walk_at "ls_hp"), ?_, m0, m1, fun b o h1 h2 e => ?_⟩
            · have hx : ¬ x < 10 ^ (18 : Int).toNat := fun z => e (decide_eq_true z)
              have h18 : (0 : Int) ≤ 10 ^ (18 : Int).toNat := by decide
              omega
            have np : b ≠ p := ne_of_none (by rw [upd_ne h1]; exact e) hp
            rw [upd_ne h1, upd_ne h2, upd_ne np, upd_ne h1]
            exact e
      · exact ⟨rfl, ns, d, m, upd_same, (by walk_at "ls_hp"), d0, m0, m1, fun b o h1 h2 e => by rw [upd_ne h1]; exact e⟩
    · rintro σ' H' ⟨rfl, ns, d, m, hS, hL, d0, m0, m1, hO⟩
      walk_at "ls"
      refine ite2 (fun e => ?_) (fun e => ?_)
      · have hd : 0 < d := of_decide_eq_true e
        walk_at "ls"
        refine .inl ⟨_, rfl, ?_⟩
        walk_at "ls"
        refine ⟨hk, ?_⟩
        walk_at "ls"
        refine ⟨⟨hk, log_lt hk hk2⟩, ?_⟩
        walk_at "ls"
        refine q _ _ (emod_lo _ hk) (emod_hi _ hk) ⟨ns, d / k, c + 1, m, upd_same, (by walk_at "ls_hp"), Int.ediv_nonneg (by omega) (by omega), by omega, by omega, m0, m1⟩ fun b o h1 h2 e => ?_
        rw [upd_ne h1]
        exact hO b o h1 h2 e
      · walk_at "ls"
        refine ⟨.inl ⟨by decide, by decide⟩, ?_⟩
        walk_at "ls"
        refine ⟨⟨by decide, by decide, lt_pow m0 m1 (by omega) (by omega)⟩, ?_⟩
        walk_at "ls"
        refine ⟨(by show (0 : Int) < 2147483629; decide), ?_⟩
        walk_at "ls"
        refine ⟨.inr ⟨by decide, by decide⟩, ?_⟩
        walk_at "ls"
        refine ⟨.inl ⟨by decide, by decide⟩, ?_⟩
        walk_at "ls"
        refine ⟨.inr ⟨by omega, by omega⟩, ?_⟩
        walk_at "ls"
        have hx := emod_hi ((m + 104729 * (c + 1) + 17) ^ Int.toNat 5) (show (0 : Int) < 2147483629 by decide)
        have hx0 := emod_lo ((m + 104729 * (c + 1) + 17) ^ Int.toNat 5) (show (0 : Int) < 2147483629 by decide)
        have hsq := sq_le (c := c + 1) (by omega) (by omega)
        refine ⟨⟨by decide, by decide, ?_⟩, ?_⟩
        · show Int.natAbs ((m + 104729 * (c + 1) + 17) ^ Int.toNat 5 % 2147483629 * 48271 + 40503 * (c + 1) * (c + 1) + 13) < 2 ^ 64
          omega
        walk_at "ls"
        refine ⟨(by show (0 : Int) < 1000000007; decide), ?_⟩
        walk_at "ls"
        refine ⟨hk, ?_⟩
        refine q _ _ (emod_lo _ hk) (emod_hi _ hk) ⟨ns, d, c + 1, m, hS, hL, d0, by omega, by omega, m0, m1⟩ hO
end
end Ls
namespace Ls
open PySem PySem.Spec PyProof.Rows L2
/-! ### short steps -/
local macro_rules | `(tactic| walk_at "ls_ne") => `(tactic| first | assumption | exact Ne.symm (by assumption) | exact ne_of_none (by assumption) (by assumption) | exact Ne.symm (ne_of_none (by assumption) (by assumption)))
local macro_rules | `(tactic| walk_at "ls_hp") => `(tactic| first
  | with_reducible assumption
  | exact upd_same
  | exact Eq.trans (upd_ne (by walk_at "ls_ne")) (by walk_at "ls_hp"))
local macro_rules | `(tactic| walk_at "ls_st") => `(tactic| first
  | with_reducible assumption
  | exact Stm.upd (by walk_at "ls_st") (by first | walk_at "ls_ne" | exact (Stm.noneS (by assumption) (by assumption)).1) (by first | walk_at "ls_ne" | exact (Stm.noneS (by assumption) (by assumption)).2))
local macro_rules | `(tactic| walk_at "ls1") => `(tactic| first
  | refine ⟨_, rfl, ?_⟩
  | refine ⟨_, _, rfl, rfl, ?_⟩
  | refine ⟨_, _, _, _, rfl, rfl, .inl (.inl (by walk_at "ls_hp")), rfl, ?_⟩
  | refine ⟨_, _, _, _, rfl, rfl, (by walk_at "ls_hp"), rfl, ?_⟩
  | refine ⟨rfl, _, rfl, ?_⟩
  | refine ⟨.inl ⟨rfl, _, .inl (.inl (by walk_at "ls_hp"))⟩, ?_⟩)
local macro_rules | `(tactic| walk_at "ls") => `(tactic| repeat (walk_at "ls1"))

/-! ### texts -/
theorem abc_cps : (("abcdefghijklmnopqrstuvwxyz" : Str)).cps.toList = List.range' 97 26 := by decide +kernel
theorem abc_at {i : Int} (h0 : 0 ≤ i) (h1 : i < 26) : ∃ c : Nat, atI (("abcdefghijklmnopqrstuvwxyz" : Str)).cps.toList i = some c ∧ 97 ≤ c ∧ c ≤ 122 := by
  obtain ⟨n, rfl⟩ := Int.eq_ofNat_of_zero_le h0
  refine ⟨97 + n, ?_, by omega, by omega⟩
  rw [atI_nat (j := n) (v := 97 + n)]
  rw [abc_cps, List.getElem?_range' (by omega)]
  simp
/-- one to eight small letters -/
def Nm' (z : Str) : Prop := 1 ≤ z.length ∧ z.length ≤ 8 ∧ ∀ c ∈ z.cps.toList, 97 ≤ c ∧ c ≤ 122
def Nm (z : Str) : Prop := Nm' z ∧ z ≠ "strike"
def words : List Str := ["kind", "open", "column", "from", "to", "check", "fall", "clear", "lone", "fresh", "put", "turn", "fell", "spread", "stuck", "again", "bare", "hold"]
theorem words_nm : ∀ y ∈ words, Nm' y := by
  intro y hy
  have h : words.all (fun y => decide (1 ≤ y.length) && decide (y.length ≤ 8) && y.cps.toList.all fun c => decide (97 ≤ c) && decide (c ≤ 122)) = true := by decide +kernel
  have h2 := List.all_eq_true.mp h y hy
  simp only [Bool.and_eq_true, decide_eq_true_eq, List.all_eq_true] at h2
  exact ⟨h2.1.1, h2.1.2, fun c hc => h2.2 c hc⟩
theorem words_at {i : Int} (h0 : 0 ≤ i) (h1 : i < 18) : ∃ y, atI (words.map V.str) i = some (.str y) ∧ y ∈ words := by
  obtain ⟨n, rfl⟩ := Int.eq_ofNat_of_zero_le h0
  have hl : words.length = 18 := by decide +kernel
  have hn : n < words.length := by omega
  refine ⟨words[n], atI_nat ?_, List.getElem_mem hn⟩
  rw [List.getElem?_map, List.getElem?_eq_getElem hn]
  rfl
theorem all_flat : ∀ ts : List Str, (ts.map V.str).all flatV = true
  | [] => rfl
  | t :: r => by rw [List.map_cons, List.all_cons, all_flat r]; rfl
theorem in_strs (z : Str) : ∀ ts : List Str, inV (.str z) (ts.map V.str) = decide (z ∈ ts)
  | [] => rfl
  | t :: r => by
    have ih := in_strs z r
    unfold inV at ih ⊢
    rw [List.map_cons, List.any_cons, ih]
    by_cases h : t = z
    · subst h
      simp [eqV]
    · have h2 : ¬ z = t := fun e => h e.symm
      simp [eqV, h, h2]
theorem signs_at {z : Str} {i : Nat} {x : V} (h : (signs z)[i]? = some x) : ∃ c, x = .str ⟨#[c]⟩ := by
  unfold signs at h
  rw [List.getElem?_map] at h
  cases e : z.cps.toList[i]? with
  | none => rw [e] at h; cases h
  | some c => rw [e] at h; exact ⟨c, (Option.some.inj h).symm⟩
theorem str_at {ts : List Str} {i : Nat} {x : V} (h : (ts.map V.str)[i]? = some x) : ∃ y, x = .str y := by
  rw [List.getElem?_map] at h
  cases e : ts[i]? with
  | none => rw [e] at h; cases h
  | some c => rw [e] at h; exact ⟨c, (Option.some.inj h).symm⟩
def addQ : V → Option V
  | .str c => some (.str ("q" ++ c))
  | _ => none
def qs : List Str := (List.range' 97 26).map fun c => ("q" : Str) ++ (⟨#[c]⟩ : Str)
theorem addQ_all : (signs "abcdefghijklmnopqrstuvwxyz").filterMap addQ = qs.map V.str := by decide +kernel
theorem qs_nm : ∀ y ∈ qs, Nm y := by
  intro y hy
  have h : qs.all (fun y => decide (1 ≤ y.length) && decide (y.length ≤ 8) && (y.cps.toList.all fun c => decide (97 ≤ c) && decide (c ≤ 122)) && !decide (y = "strike")) = true := by decide +kernel
  have h2 := List.all_eq_true.mp h y hy
  simp only [Bool.and_eq_true, decide_eq_true_eq, List.all_eq_true, Bool.not_eq_true', decide_eq_false_iff_not] at h2
  exact ⟨⟨h2.1.1.1, h2.1.1.2, fun c hc => h2.1.2 c hc⟩, h2.2⟩
def notIn (ts : List Str) (v : V) : Option V := if inV v (ts.map V.str) = true then none else some v
theorem notIn_all (ts : List Str) : ∀ ys : List Str, (ys.map V.str).filterMap (notIn ts) = (ys.filter fun z => !decide (z ∈ ts)).map V.str
  | [] => rfl
  | y :: r => by
    rw [List.map_cons, List.filterMap_cons, List.filter_cons, notIn_all ts r]
    unfold notIn
    rw [in_strs]
    by_cases h : y ∈ ts
    · simp [h]
    · simp [h]
theorem sub_len : ∀ (l : List Str), l.Nodup → ∀ ts : List Str, (∀ x ∈ l, x ∈ ts) → l.length ≤ ts.length
  | [], _, ts, _ => Nat.zero_le _
  | a :: r, nd, ts, h => by
    have ha : a ∈ ts := h a (List.mem_cons_self ..)
    have nd' := List.nodup_cons.mp nd
    have ih := sub_len r nd'.2 (ts.erase a) fun x hx => (List.mem_erase_of_ne (fun e => nd'.1 (by rw [← e]; exact hx))).mpr (h x (List.mem_cons_of_mem _ hx))
    rw [List.length_erase_of_mem ha] at ih
    have : 0 < ts.length := List.length_pos_of_mem ha
    rw [List.length_cons]
    omega
theorem some_q {ts : List Str} (h : ts.length < 26) : ∃ y r, (qs.filter fun z => !decide (z ∈ ts)) = y :: r ∧ y ∈ qs ∧ y ∉ ts := by
  cases e : qs.filter fun z => !decide (z ∈ ts) with
  | nil =>
    have h2 : ∀ x ∈ qs, x ∈ ts := fun x hx => by
      have := List.filter_eq_nil_iff.mp e x hx
      simpa using this
    have h3 := sub_len qs (by decide +kernel) ts h2
    have h4 : qs.length = 26 := by decide +kernel
    omega
  | cons y r =>
    have hm : y ∈ qs.filter fun z => !decide (z ∈ ts) := by rw [e]; exact List.mem_cons_self ..
    have h2 := List.mem_filter.mp hm
    exact ⟨y, r, rfl, h2.1, by simpa using h2.2⟩
/-- a text of one sign -/
def one (c : Nat) : Str := ⟨#[c]⟩
theorem joinL_nil : ∀ ps : List (List Nat), TL.joinL [] ps = ps.flatten
  | [] => rfl
  | [p] => by simp [TL.joinL]
  | p :: q :: r => by
    show p ++ ([] ++ TL.joinL [] (q :: r)) = _
    rw [joinL_nil (q :: r)]
    simp
theorem join_ones (cs : List Nat) : Txt.join "" (cs.map one) = ⟨cs.toArray⟩ := by
  have e : cs.map one = (cs.map fun c => [c]).map SX.S := by rw [List.map_map]; rfl
  have e2 : (("" : Str)) = SX.S [] := by decide +kernel
  rw [e, e2, SX.join_S, joinL_nil]
  have : (cs.map fun c => [c]).flatten = cs := by
    clear e e2
    induction cs with
    | nil => rfl
    | cons a r ih =>
      rw [List.map_cons, List.flatten_cons, ih]
      rfl
  rw [this]
theorem ones_len (cs : List Nat) : ((cs.map one).map (·.length)).sum = cs.length := by
  induction cs with
  | nil => rfl
  | cons a r ih =>
    rw [List.map_cons, List.map_cons, List.sum_cons, ih]
    show (1 : Nat) + _ = _
    rw [List.length_cons]
    omega
section
variable {P : Program} {w : World} {K : PySem.W.Frag} {mg : Str → Option Value} {base : Heap}
theorem Old.sq {S L a : Addr} {H H' : Hp} {xs : List V} (h : Old S L H H') (h1 : a ≠ S) (h2 : a ≠ L) (q : SqL K H a xs) : SqL K H' a xs := by
  rcases q with (q | ⟨o, q⟩) | q
  · exact .inl (.inl (h _ _ h1 h2 q))
  · exact .inl (.inr ⟨o, h _ _ h1 h2 q⟩)
  · exact .inr q
/-! ### _law_pick -/
abbrev s__law_pick : Stmt := topS 29
theorem sc__law_pick : FnScope ["_law_stream", "_law_things"] ["_law_stream", "_law_things"] (defScope s__law_pick) := ⟨rfl, rfl, rfl, by decide +kernel, rfl, by decide +kernel, by decide +kernel⟩
abbrev N__law_pick : List Str := ["_law_stream", "_law_things"]
def spPick (K : PySem.W.Frag) : Sp := fun vs H Q _ => ∃ (S L a : Addr) (n : Nat) (xs : List V), vs = [.ref S, .ref a] ∧ Stm H S L n ∧ n ≤ 10000000 ∧ SqL K H a xs ∧ a ≠ S ∧ a ≠ L ∧ 0 < xs.length ∧ xs.length ≤ 1000000 ∧
  ∀ (H' : Hp) (v : V), v ∈ xs → Stm H' S L (n + 1) → Old S L H H' → Q v H'
theorem atI_mem {xs : List V} {i : Int} (h0 : 0 ≤ i) (h1 : i < (xs.length : Int)) : ∃ v, atI xs i = some v ∧ v ∈ xs := by
  obtain ⟨n, rfl⟩ := Int.eq_ofNat_of_zero_le h0
  have hn : n < xs.length := by omega
  exact ⟨xs[n], atI_nat (List.getElem?_eq_getElem hn), List.getElem_mem hn⟩
theorem ok_pick {f : Addr} {fd : FuncData} (F : Fun K "_law_pick" "_law_pick" s__law_pick f fd) (T : Bt mg) (O__law_draw : Own P w K mg base CX0 1 "_law_draw" ["_law_stream", "_law_many"] spDraw) : FnOk P w K mg base CX0 2 f fd ["_law_stream", "_law_things"] (spPick K) := by
  refine F.ok sc__law_pick (fun vs H Q E h => ?_) (fun cdv A outer s H vs Q E hr h => ?_)
  · obtain ⟨S, L, a, n, xs, rfl, _⟩ := h
    rfl
  · obtain ⟨S, L, a, n, xs, rfl, hst, hn, hq, aS, aL, x0, x1, q⟩ := h
    have hu := hu_of hr
    refine ⟨_, (pss_one (ps_ret (pe_ix (ixL K) (pv 1) (own_call O__law_draw hr (by first | decide | omega) (pa_cons (pv 0) (pa_cons (pe_callB (len_seq K) (by rfl) T.m_len (by decide +kernel) (pa_cons (pv 1) pa_nil)) pa_nil))) (fun _ _ => rfl)))), ?_⟩
    walk_at "ls"
    refine ⟨_, _, rfl, .inl hq, ?_⟩
    refine ⟨S, L, n, _, rfl, hst, hn, by omega, by omega, fun H' r r0 r1 hst' hO => ?_⟩
    obtain ⟨v, hv, hm⟩ := atI_mem r0 r1
    exact ⟨_, _, _, v, rfl, rfl, hO.sq aS aL hq, hv, q H' v hm hst' hO⟩
/-! ### _law_fresh -/
abbrev s__law_fresh : Stmt := topS 32
theorem sc__law_fresh : FnScope ["_law_stream", "_law_taken", "_law_letters", "_law_words", "_law_name", "_law_k", "_law_one", "_law_sign"] ["_law_stream", "_law_taken"] (defScope s__law_fresh) := ⟨rfl, rfl, rfl, by decide +kernel, rfl, by decide +kernel, by decide +kernel⟩
abbrev N__law_fresh : List Str := ["_law_stream", "_law_taken", "_law_letters", "_law_words", "_law_name", "_law_k", "_law_one", "_law_sign"]
def spFresh : Sp := fun vs H Q _ => ∃ (S L a : Addr) (n : Nat) (ts : List Str), vs = [.ref S, .ref a] ∧ Stm H S L n ∧ n ≤ 9999900 ∧ H a = some (.lst (ts.map V.str)) ∧ a ≠ S ∧ a ≠ L ∧ ts.length < 26 ∧
  ∀ (H' : Hp) (z : Str), Nm z → z ∉ ts → Stm H' S L (n + 12) → Old S L H H' → Q (.str z) H'
theorem ok_fresh {f : Addr} {fd : FuncData} (F : Fun K "_law_fresh" "_law_fresh" s__law_fresh f fd) (T : Bt mg) (O__law_draw : Own P w K mg base CX0 1 "_law_draw" ["_law_stream", "_law_many"] spDraw) : FnOk P w K mg base CX0 2 f fd ["_law_stream", "_law_taken"] spFresh := by
  refine F.ok sc__law_fresh (fun vs H Q E h => ?_) (fun cdv A outer s H vs Q E hr h => ?_)
  · obtain ⟨S, L, a, n, ts, rfl, _⟩ := h
    rfl
  · obtain ⟨S, L, a, n, ts, rfl, hst, hn, ha, aS, aL, tl, q⟩ := h
    have hu := hu_of hr
    refine ⟨_, (pss_cons (ps_asg (pe_tup (pa_cons pe_str (pa_cons (pe_lst (pa_cons pe_str (pa_cons pe_str (pa_cons pe_str (pa_cons pe_str (pa_cons pe_str (pa_cons pe_str (pa_cons pe_str pa_nil)))))))) pa_nil))) (pg_tup rfl (pgs_cons (pg_name (i := 2) sc__law_fresh.nd rfl (Or.inr rfl)) (pgs_cons (pg_name (i := 3) sc__law_fresh.nd rfl (Or.inl rfl)) pgs_nil))))
      (pss_cons (ps_set (i := 3) sc__law_fresh.nd rfl (Or.inl rfl) (pe_op op_cat (pv 3) (pe_lst (pa_cons pe_str (pa_cons pe_str (pa_cons pe_str (pa_cons pe_str (pa_cons pe_str (pa_cons pe_str (pa_cons pe_str (pa_cons pe_str (pa_cons pe_str (pa_cons pe_str (pa_cons pe_str pa_nil))))))))))))))
      (pss_cons (ps_set (i := 4) sc__law_fresh.nd rfl (Or.inl rfl) (pe_join pe_str (pe_lc (own := [("_law_k", 5)]) (g := gName 5) (by rfl) sc__law_fresh.nd (pi_range1 rfl T.m_range (pa_cons (pe_op op_add pe_int (own_call O__law_draw hr (by first | decide | omega) (pa_cons (pv 0) (pa_cons pe_int pa_nil)))) pa_nil)) (blkOk_by (own := [("_law_k", 5)]) (N := N__law_fresh) (sc := defScope s__law_fresh) (by decide +kernel)) (fun _ _ _ _ _ => (pg_name (i := 5) sc__law_fresh.nd rfl (Or.inl rfl) (Or.inr rfl))) (fun _ _ _ _ _ => pts_nil) (fun _ _ _ _ _ => (pe_ix ix_str (pv 2) (own_call O__law_draw hr (by first | decide | omega) (pa_cons (pv 0) (pa_cons pe_int pa_nil))) (fun _ _ => rfl))))))
      (C8.pss_cut (ps_set (i := 4) sc__law_fresh.nd rfl (Or.inl rfl) (pe_ifExp (pt_cmpR op_eq (own_call O__law_draw hr (by first | decide | omega) (pa_cons (pv 0) (pa_cons pe_int pa_nil))) pe_int (nomark _)) (pe_ix (ixL K) (pv 3) (own_call O__law_draw hr (by first | decide | omega) (pa_cons (pv 0) (pa_cons pe_int pa_nil))) (fun _ _ => rfl)) (pv 4)))
      (pss_cons (ps_if (PW.pt (pw_or (pt_cmpR (in_seq K) (pv 4) (pv 1) (by rfl)) (pw_or1 (pt_cmpR op_eq (pv 4) pe_str (nomark _))))) (pss_one (ps_ret (pe_ix (ixL K) (pe_lc (own := [("_law_one", 6)]) (g := gName 6) (by rfl) sc__law_fresh.nd (pi_list (pe_lc (own := [("_law_sign", 7)]) (g := gName 7) (by rfl) sc__law_fresh.nd (pi_str (pv 2)) (blkOk_by (own := [("_law_sign", 7)]) (N := N__law_fresh) (sc := defScope s__law_fresh) (by decide +kernel)) (fun _ _ _ _ _ => (pg_name (i := 7) sc__law_fresh.nd rfl (Or.inl rfl) (Or.inr rfl))) (fun _ _ _ _ _ => pts_nil) (fun _ _ _ _ _ => (pe_op op_add_str pe_str (pv 7))))) (blkOk_by (own := [("_law_one", 6)]) (N := N__law_fresh) (sc := defScope s__law_fresh) (by decide +kernel)) (fun _ _ _ _ _ => (pg_name (i := 6) sc__law_fresh.nd rfl (Or.inl rfl) (Or.inr rfl))) (fun _ _ _ _ _ => (pts_one (pt_cmpR (notIn_seq K) (pv 6) (pv 1) (by rfl)))) (fun _ _ _ _ _ => (pv 6))) pe_int (fun _ _ => rfl)))) pss_nil)
      (pss_one (ps_ret (pv 4)))))))), ?_⟩
    refine ⟨(by show 7 ≤ sizeLine; decide), fun w0 hw0 => ⟨(by show 2 ≤ sizeLine; decide), fun t0 ht0 => ?_⟩⟩
    have nw0 := hst.noneS hw0
    have nt0 : t0 ≠ w0 := fun e => by rw [e, upd_same] at ht0; cases ht0
    refine ⟨_, _, rfl, .inl (.inl upd_same), rfl, _, _, rfl, _, _, rfl, rfl, ?_⟩
    walk_at "ls"
    refine ⟨(by show 11 ≤ sizeLine; decide), fun w1 hw1 => ?_⟩
    have n10 : w1 ≠ w0 := fun e => by rw [e, upd_ne nt0.symm, upd_same] at hw1; cases hw1
    refine ⟨_, _, _, _, rfl, rfl, (by rw [upd_ne n10.symm, upd_ne nt0.symm]; exact upd_same), upd_same, (by show 7 + 11 ≤ sizeLine; decide), fun w2 hw2 => ?_⟩
    have mt := (Stm.upd hst nw0.1 nw0.2).noneS ht0
    have m1 := (Stm.upd (Stm.upd hst nw0.1 nw0.2) mt.1 mt.2).noneS hw1
    have m2 := (Stm.upd (Stm.upd (Stm.upd hst nw0.1 nw0.2) mt.1 mt.2) m1.1 m1.2).noneS hw2
    refine at_heap (φ := fun H1 => Stm H1 S L n ∧ Old S L H H1 ∧ H1 w2 = some (.lst (words.map V.str)) ∧ w2 ≠ S ∧ w2 ≠ L) ⟨?_, ?_, upd_same, m2⟩ ?_
    · exact (((hst.upd nw0.1 nw0.2).upd mt.1 mt.2).upd m1.1 m1.2).upd m2.1 m2.2
    · exact (((Old.new hw0).trans (.new ht0)).trans (.new hw1)).trans (.new hw2)
    rintro H1 ⟨st1, od1, h2, nw2⟩
    walk_at "ls"
    refine ⟨⟨_, rfl⟩, ?_⟩
    walk_at "ls"
    refine ⟨S, L, n, 8, rfl, st1, by omega, by decide, by decide, fun H2 r r0 r1 st2 od2 => ?_⟩
    walk_at "ls"
    refine ⟨by omega, by omega, fun D hD => ?_⟩
    have nD := st2.noneS hD
    refine lc_it walk_range (fun i H3 => ∃ cs : List Nat, cs.length = i ∧ (∀ c ∈ cs, 97 ≤ c ∧ c ≤ 122) ∧ H3 D = some (.lst ((cs.map one).map V.str)) ∧ Stm H3 S L (n + 1 + i) ∧ Old S L H2 H3) ⟨[], rfl, (fun _ h => nomatch h), upd_same, st2.upd nD.1 nD.2, .new hD⟩ (fun _ _ _ _ => trivial) (fun i x H3 H4 hi hP hy => ?_) (fun H3 hP => ?_)
    · obtain ⟨cs, hl, hc, h3, st3, od3⟩ := hP
      obtain ⟨rfl, rfl⟩ := hy
      refine ⟨rfl, ?_⟩
      walk_at "ls"
      refine ⟨S, L, n + 1 + i, 26, rfl, st3, by omega, by decide, by decide, fun H5 q0 q1 q2 st5 od5 => ?_⟩
      obtain ⟨c, hcat, hc1, hc2⟩ := abc_at q1 q2
      refine ⟨_, _, c, rfl, rfl, (by decide +kernel), hcat, _, od5 D _ nD.1 nD.2 h3, ?_, cs ++ [c], ?_, ?_, ?_, ?_, ?_⟩
      · rw [List.length_map, List.length_map, hl]
        exact small1000 (by omega)
      · rw [List.length_append, hl]
        rfl
      · intro d hd
        rcases List.mem_append.mp hd with h | h
        · exact hc d h
        · rw [List.mem_singleton.mp h]
          exact ⟨hc1, hc2⟩
      · rw [upd_same, List.map_append, List.map_append]
        rfl
      · exact (st5.mono (by omega)).upd nD.1 nD.2
      · intro b o h1 h2 e
        rw [upd_ne (ne_of_none e hD)]
        exact od5 b o h1 h2 (od3 b o h1 h2 e)
    · obtain ⟨cs, hl, hc, h3, st3, od3⟩ := hP
      refine ⟨_, D, cs.map one, rfl, rfl, .inl (.inl (.inl h3)), ?_, ?_⟩
      · rw [ones_len, List.length_map]
        show cs.length + cs.length * 0 ≤ 16777216
        omega
      rw [join_ones]
      refine at_heap (φ := fun H4 => Stm H4 S L (n + 10) ∧ Old S L H H4 ∧ H4 w2 = some (.lst (words.map V.str))) ⟨st3.mono (by omega), (od1.trans od2).trans od3, od3 _ _ nw2.1 nw2.2 (od2 _ _ nw2.1 nw2.2 h2)⟩ ?_
      rintro H4 ⟨st4, od4, h4⟩
      refine ⟨fun σ' H' => ∃ z, Nm' z ∧ σ' = [some (.ref S), some (.ref a), some (.str "abcdefghijklmnopqrstuvwxyz"), some (.ref w2), some (.str z), none, none, none] ∧ Stm H' S L (n + 12) ∧ Old S L H H', ?_, ?_⟩
      · walk_at "ls"
        refine ⟨S, L, n + 10, 8, rfl, st4, by omega, by decide, by decide, fun H5 q0 q1 q2 st5 od5 => ?_⟩
        walk_at "ls"
        refine ite2 (fun e => ?_) (fun e => ?_)
        · walk_at "ls"
          refine ⟨S, L, n + 11, 18, rfl, st5, by omega, by decide, by decide, fun H6 u0 u1 u2 st6 od6 => ?_⟩
          obtain ⟨y, hy, hm⟩ := words_at u1 u2
          exact ⟨_, _, _, _, rfl, rfl, .inl (.inl (od6 _ _ nw2.1 nw2.2 (od5 _ _ nw2.1 nw2.2 h4))), hy, y, words_nm y hm, rfl, st6, (od4.trans od5).trans od6⟩
        · walk_at "ls"
          exact ⟨_, ⟨(by show 1 ≤ cs.toArray.size; rw [List.size_toArray]; omega), (by show cs.toArray.size ≤ 8; rw [List.size_toArray]; omega), fun c h => hc c h⟩, rfl, st5.mono (by omega), od4.trans od5⟩
      · rintro σ' H6 ⟨z, hz, rfl, st6, od6⟩
        have ha6 : H6 a = some (.lst (ts.map V.str)) := od6 _ _ aS aL ha
        refine or2 (decide (z ∈ ts)) (decide (V.str z = V.str "strike")) (fun Q' q' => ?_) (fun _ Q' q' => ?_) ?_
        · walk_at "ls"
          refine ⟨_, _, rfl, .inl (.inl (.inl ha6)), rfl, all_flat ts, _, rfl, ?_⟩
          rw [in_strs]
          exact q'
        · walk_at "ls"
          exact q'
        refine ite2 (fun e => ?_) (fun e => ?_)
        · -- some name that is not taken
          walk_at "ls"
          intro D1 hD1
          refine lc_pure walk_str (signs "abcdefghijklmnopqrstuvwxyz") addQ (signs_len _) yld_str (by decide +kernel) (fun _ => trivial) (fun i x hi hx => ?_) ?_
          · obtain ⟨c, rfl⟩ := signs_at hx
            refine ⟨rfl, ?_⟩
            walk_at "ls"
            exact ⟨(by show 1 + 1 ≤ sizeLine; decide), lc_yes hx hi (by decide +kernel) rfl⟩
          have nd1 := st6.noneS hD1
          refine ⟨_, rfl, ⟨_, .inl (.inl upd_same)⟩, fun D2 hD2 => ?_⟩
          rw [addQ_all] at hD2 ⊢
          have n12 : D1 ≠ D2 := fun e => by rw [← e, upd_same] at hD2; cases hD2
          have naD : a ≠ D1 := ne_of_none ha6 hD1
          have ha7 : ∀ acc, (upd (upd H6 D1 (.lst (qs.map V.str))) D2 (.lst acc)) a = some (.lst (ts.map V.str)) := fun acc => by
            have naD2 : a ≠ D2 := ne_of_none (show (upd H6 D1 (.lst (qs.map V.str))) a = some _ by rw [upd_ne naD]; exact ha6) hD2
            rw [upd_ne naD2, upd_ne naD]
            exact ha6
          refine lc_pure (walk_list (xs := qs.map V.str)) (qs.map V.str) (notIn ts) rfl (fun i H x H' hi hy => hy) (by decide +kernel) (fun acc => .inl (.inl (by rw [upd_ne n12]; exact upd_same))) (fun i x hi hx => ?_) ?_
          · obtain ⟨y, rfl⟩ := str_at hx
            refine ⟨rfl, ?_⟩
            walk_at "ls"
            refine ⟨_, _, rfl, .inl (.inl (.inl (ha7 _))), rfl, all_flat ts, _, rfl, ?_⟩
            show if (!inV (V.str y) (ts.map V.str)) = true then _ else _
            rw [in_strs]
            refine ite2 (fun e => ?_) (fun e => ?_)
            · walk_at "ls"
              exact lc_yes hx hi (by decide +kernel) (by unfold notIn; rw [in_strs]; simpa using e)
            · exact lc_no hx (by unfold notIn; rw [in_strs]; simpa using e)
          · rw [notIn_all]
            obtain ⟨y, r, hy, hq, hn⟩ := some_q tl
            rw [hy]
            walk_at "ls"
            refine ⟨_, _, _, _, rfl, rfl, .inl (.inl upd_same), atI_nat (j := 0) rfl, q _ y (qs_nm y hq) hn ?_ ?_⟩
            · have nd2 := (st6.upd nd1.1 nd1.2).noneS hD2
              exact (st6.upd nd1.1 nd1.2).upd nd2.1 nd2.2
            · exact (od6.trans (.new hD1)).trans (.new hD2)
        · walk_at "ls"
          rw [Bool.or_eq_true, not_or, decide_eq_true_eq, decide_eq_true_eq] at e
          exact q H6 z ⟨hz, fun h => e.2 (congrArg V.str h)⟩ e.1 st6 od6
end
end Ls
namespace Ls
open PySem PySem.Spec PyProof.Rows L2
/-! ### short steps -/
local macro_rules | `(tactic| walk_at "ls_ne") => `(tactic| first | assumption | exact Ne.symm (by assumption) | exact ne_of_none (by assumption) (by assumption) | exact Ne.symm (ne_of_none (by assumption) (by assumption)))
local macro_rules | `(tactic| walk_at "ls_hp") => `(tactic| first
  | with_reducible assumption
  | exact upd_same
  | exact Eq.trans (upd_ne (by walk_at "ls_ne")) (by walk_at "ls_hp"))
local macro_rules | `(tactic| walk_at "ls_st") => `(tactic| first
  | with_reducible assumption
  | exact Stm.upd (by walk_at "ls_st") (by first | walk_at "ls_ne" | exact (Stm.noneS (by assumption) (by assumption)).1) (by first | walk_at "ls_ne" | exact (Stm.noneS (by assumption) (by assumption)).2))
local macro_rules | `(tactic| walk_at "ls1") => `(tactic| first
  | refine ⟨_, rfl, ?_⟩
  | refine ⟨_, _, rfl, rfl, ?_⟩
  | refine ⟨_, _, _, _, rfl, rfl, .inl (.inl (by walk_at "ls_hp")), rfl, ?_⟩
  | refine ⟨_, _, _, _, rfl, rfl, (by walk_at "ls_hp"), rfl, ?_⟩
  | refine ⟨rfl, _, rfl, ?_⟩
  | refine ⟨.inl ⟨rfl, _, .inl (.inl (by walk_at "ls_hp"))⟩, ?_⟩)
local macro_rules | `(tactic| walk_at "ls") => `(tactic| repeat (walk_at "ls1"))

section
variable {P : Program} {w : World} {K : PySem.W.Frag} {mg : Str → Option Value} {base : Heap}
theorem nodup_snoc {α : Type} {l : List α} {x : α} (h : l.Nodup) (hx : x ∉ l) : (l ++ [x]).Nodup := by
  rw [List.nodup_append]
  refine ⟨h, by simp, fun a ha b hb e => ?_⟩
  rw [List.mem_singleton.mp hb] at e
  exact hx (e ▸ ha)
theorem all_snoc {α : Type} {p : α → Prop} {l : List α} {x : α} (h : ∀ y ∈ l, p y) (hx : p x) : ∀ y ∈ l ++ [x], p y := fun y hy => by
  rcases List.mem_append.mp hy with h1 | h1
  · exact h y h1
  · rw [List.mem_singleton.mp h1]
    exact hx
/-! ### _law_names -/
abbrev s__law_names : Stmt := topS 33
theorem sc__law_names : FnScope ["_law_stream", "_law_many", "_law_found", "_law_k"] ["_law_stream", "_law_many"] (defScope s__law_names) := ⟨rfl, rfl, rfl, by decide +kernel, rfl, by decide +kernel, by decide +kernel⟩
abbrev N__law_names : List Str := ["_law_stream", "_law_many", "_law_found", "_law_k"]
/-- names, all unlike -/
def NmsOk (ts : List Str) : Prop := ts.Nodup ∧ ∀ z ∈ ts, Nm z
def spNames : Sp := fun vs H Q _ => ∃ (S L : Addr) (n m : Nat), vs = [.ref S, .int (m : Int)] ∧ Stm H S L n ∧ n ≤ 9999000 ∧ m ≤ 20 ∧
  ∀ (H' : Hp) (p : Addr) (ts : List Str), ts.length = m → NmsOk ts → H p = none → H' p = some (.lst (ts.map V.str)) → Stm H' S L (n + 12 * m) → Old S L H H' → Q (.ref p) H'
theorem ok_names {f : Addr} {fd : FuncData} (F : Fun K "_law_names" "_law_names" s__law_names f fd) (T : Bt mg) (O__law_fresh : Own P w K mg base CX0 2 "_law_fresh" ["_law_stream", "_law_taken"] spFresh) : FnOk P w K mg base CX0 3 f fd ["_law_stream", "_law_many"] spNames := by
  refine F.ok sc__law_names (fun vs H Q E h => ?_) (fun cdv A outer s H vs Q E hr h => ?_)
  · obtain ⟨S, L, n, m, rfl, _⟩ := h
    rfl
  · obtain ⟨S, L, n, m, rfl, hst, hn, hm, q⟩ := h
    have hu := hu_of hr
    refine ⟨_, (pss_cons (ps_set (i := 2) sc__law_names.nd rfl (Or.inl rfl) (pe_lst pa_nil))
      (pss_cons (ps_for PassesOwn.never rfl (pi_range1 rfl T.m_range (pa_cons (pv 1) pa_nil)) (pg_name (i := 3) sc__law_names.nd rfl (Or.inl rfl)) (pss_one (ps_expr (pe_bm PySem.F.plainAttrs_list PySem.F.slot_list_append PySem.F.type_list_append mt_append (pv 2) (pa_cons (own_call O__law_fresh hr (by first | decide | omega) (pa_cons (pv 0) (pa_cons (pv 2) pa_nil))) pa_nil)))))
      (pss_one (ps_ret (pv 2))))), ?_⟩
    refine ⟨Nat.zero_le _, fun p hp => ?_⟩
    have np := hst.noneS hp
    walk_at "ls"
    refine ⟨by omega, by omega, ?_⟩
    refine for_it walk_range (fun i σ H1 => ∃ (ts : List Str) (v : Option V), σ = [some (.ref S), some (.int (m : Int)), some (.ref p), v] ∧ ts.length = i ∧ NmsOk ts ∧ H1 p = some (.lst (ts.map V.str)) ∧ Stm H1 S L (n + 12 * i) ∧ Old S L H H1)
      ⟨[], none, rfl, rfl, ⟨List.nodup_nil, fun _ h => nomatch h⟩, upd_same, hst.upd np.1 np.2, .new hp⟩ (fun _ _ _ _ _ => trivial) ?_ ?_
    · rintro i x σ H1 H2 hi ⟨ts, v, rfl, hl, hok, h1, st1, od1⟩ ⟨rfl, rfl⟩
      walk_at "ls"
      refine ⟨S, L, p, n + 12 * i, ts, rfl, st1, by omega, h1, np.1, np.2, by omega, fun H3 z hz hn2 st3 od3 => ?_⟩
      refine ⟨_, _, _, rfl, rfl, od3 _ _ np.1 np.2 h1, ?_, ts ++ [z], _, rfl, ?_, ⟨?_, ?_⟩, ?_, ?_, ?_⟩
      · rw [List.length_map]
        exact small1000 (by omega)
      · rw [List.length_append, hl]
        rfl
      · exact nodup_snoc hok.1 hn2
      · exact all_snoc hok.2 hz
      · rw [upd_same, List.map_append]
        rfl
      · exact (st3.mono (by omega)).upd np.1 np.2
      · exact (od1.trans od3).set hp
    · rintro σ H1 ⟨ts, v, rfl, hl, hok, h1, st1, od1⟩
      walk_at "ls"
      exact q H1 p ts hl hok hp h1 st1 od1
/-! ### _law_shape -/
abbrev s__law_shape : Stmt := topS 34
theorem sc__law_shape : FnScope ["_law_stream", "_law_many", "_law_most", "_law_words", "_law_columns", "_law_name", "_law_home", "_law_goal", "_law_kinds"] ["_law_stream", "_law_many", "_law_most"] (defScope s__law_shape) := ⟨rfl, rfl, rfl, by decide +kernel, rfl, by decide +kernel, by decide +kernel⟩
abbrev N__law_shape : List Str := ["_law_stream", "_law_many", "_law_most", "_law_words", "_law_columns", "_law_name", "_law_home", "_law_goal", "_law_kinds"]
/-- what a book is made of: kinds, columns (a name, its home, its goal, does it fall) -/
structure Shp where
  ks : List (Str × Bool)
  cs : List (Str × Str × Str × Bool)
abbrev ruleS (b : Bool) : Str := if b then "fall" else "clear"
def kindV (k : Str × Bool) : List V := [.str k.1, .bl k.2]
def colV (c : Str × Str × Str × Bool) : List V := [.str c.1, .str c.2.1, .str c.2.2.1, .str (ruleS c.2.2.2)]
/-- v is a tuple of these values -/
def TupOf (H : Hp) (v : V) (ys : List V) : Prop := ∃ t, v = .ref t ∧ H t = some (.tup ys)
/-- a list of tuples stands at a -/
def TupsAt (H : Hp) (xs : List V) (yss : List (List V)) : Prop := Paired (TupOf H) xs yss
structure Shp.Ok (B : Shp) : Prop where
  nk : 0 < B.ks.length
  nk3 : B.ks.length ≤ 3
  nc : B.cs.length ≤ 8
  nd : (B.ks.map (·.1) ++ B.cs.map (·.1)).Nodup
  nm : ∀ z ∈ B.ks.map (·.1) ++ B.cs.map (·.1), Nm z
  home : ∀ c ∈ B.cs, c.2.1 ∈ B.ks.map (·.1)
  goal : ∀ c ∈ B.cs, c.2.2.1 ∈ B.ks.map (·.1)
  nc0 : 0 < B.cs.length
/-- the law's own record of a shape at b -/
structure ShpAt (S L : Addr) (H : Hp) (b : Addr) (B : Shp) (ck : List Str) : Prop where
  ex : ∃ (ka ca ea : Addr) (kx cx : List V), H b = some (.dK [(.inr "kinds", .ref ka), (.inr "columns", .ref ca), (.inr "checks", .ref ea)]) ∧
    H ka = some (.lst kx) ∧ TupsAt H kx (B.ks.map kindV) ∧ H ca = some (.lst cx) ∧ TupsAt H cx (B.cs.map colV) ∧ H ea = some (.lst (ck.map V.str)) ∧ (ka ≠ S ∧ ka ≠ L) ∧ (ca ≠ S ∧ ca ≠ L) ∧ (ea ≠ S ∧ ea ≠ L)
/-! ### what stays of tuples -/
def TK (H H' : Hp) : Prop := ∀ t ys, H t = some (.tup ys) → H' t = some (.tup ys)
theorem TK.refl (H : Hp) : TK H H := fun _ _ h => h
theorem TK.trans {H H1 H2 : Hp} (a : TK H H1) (b : TK H1 H2) : TK H H2 := fun t ys h => b t ys (a t ys h)
theorem TK.same {H H1 : Hp} (s : Same H H1) : TK H H1 := fun t ys h => s t _ h
theorem TK.new {H : Hp} {p : Addr} {o : HO} (h : H p = none) : TK H (upd H p o) := .same (same_new h)
theorem TK.lst {H : Hp} {p : Addr} {o : HO} {xs : List V} (h : H p = some (.lst xs)) : TK H (upd H p o) := fun t ys e => by
  rw [upd_ne (ne_of e h fun z => nomatch z)]
  exact e
theorem TK.dK {H : Hp} {p : Addr} {o : HO} {xs : List (Key × V)} (h : H p = some (.dK xs)) : TK H (upd H p o) := fun t ys e => by
  rw [upd_ne (ne_of e h fun z => nomatch z)]
  exact e
theorem TK.old {S L : Addr} {H H' : Hp} {n : Nat} (st : Stm H S L n) (od : Old S L H H') : TK H H' := fun t ys e => by
  obtain ⟨ns, d, c, k, h1, h2, _⟩ := st
  exact od _ _ (ne_of e h1 fun z => nomatch z) (ne_of e h2 fun z => nomatch z) e
theorem TupOf.keep {H H' : Hp} {v : V} {ys : List V} (h : TupOf H v ys) (k : TK H H') : TupOf H' v ys := by
  obtain ⟨t, e, h⟩ := h
  exact ⟨t, e, k _ _ h⟩
theorem TupsAt.keep {H H' : Hp} : ∀ {xs : List V} {yss : List (List V)}, TupsAt H xs yss → TK H H' → TupsAt H' xs yss
  | _, _, .nil, _ => .nil
  | _, _, .cons r t, k => .cons (r.keep k) (TupsAt.keep t k)
theorem TupsAt.snoc {H : Hp} : ∀ {xs : List V} {yss : List (List V)} {v : V} {ys : List V}, TupsAt H xs yss → TupOf H v ys → TupsAt H (xs ++ [v]) (yss ++ [ys])
  | _, _, _, _, .nil, r => .cons r .nil
  | _, _, _, _, .cons a t, r => .cons a (TupsAt.snoc t r)
theorem TupsAt.len {H : Hp} {xs : List V} {yss : List (List V)} (h : TupsAt H xs yss) : xs.length = yss.length := Paired.length h
theorem rule_at {i : Int} (h0 : 0 ≤ i) (h1 : i < 3) : ∃ b, atI [V.str "fall", V.str "fall", V.str "clear"] i = some (.str (ruleS b)) := by
  obtain ⟨n, rfl⟩ := Int.eq_ofNat_of_zero_le h0
  match n, h1 with
  | 0, _ => exact ⟨true, rfl⟩
  | 1, _ => exact ⟨true, rfl⟩
  | 2, _ => exact ⟨false, rfl⟩
  | k + 3, h => omega
theorem ShpAt.old {S L : Addr} {H H' : Hp} {b : Addr} {B : Shp} {ck : List Str} {n : Nat} (h : ShpAt S L H b B ck) (st : Stm H S L n) (od : Old S L H H') : ShpAt S L H' b B ck := by
  obtain ⟨ka, ca, ea, kx, cx, hb, hk, hkt, hc, hct, he, n1, n2, n3⟩ := h
  have k := TK.old st od
  have nb : b ≠ S ∧ b ≠ L := by
    obtain ⟨ns, d, c, k, h1, h2, _⟩ := st
    exact ⟨ne_of hb h1 (fun z => nomatch z), ne_of hb h2 (fun z => nomatch z)⟩
  exact ⟨ka, ca, ea, kx, cx, od _ _ nb.1 nb.2 hb, od _ _ n1.1 n1.2 hk, hkt.keep k, od _ _ n2.1 n2.2 hc, hct.keep k, od _ _ n3.1 n3.2 he, n1, n2, n3⟩
theorem ShpAt.same {S L : Addr} {H H' : Hp} {b : Addr} {B : Shp} {ck : List Str} (h : ShpAt S L H b B ck) (s : Same H H') : ShpAt S L H' b B ck := by
  obtain ⟨ka, ca, ea, kx, cx, hb, hk, hkt, hc, hct, he, n1, n2, n3⟩ := h
  exact ⟨ka, ca, ea, kx, cx, s _ _ hb, s _ _ hk, hkt.keep (.same s), s _ _ hc, hct.keep (.same s), s _ _ he, n1, n2, n3⟩
theorem cut_take (xs : List V) (n : Nat) : cutV xs none (some (n : Int)) = xs.take n := by
  unfold cutV
  rw [HT.sIx_nat, HT.sIx_none, List.drop_zero, Nat.sub_zero]
  by_cases h : n ≤ xs.length
  · rw [Nat.min_eq_left h]
  · rw [Nat.min_eq_right (by omega), List.take_of_length_le (Nat.le_refl _), List.take_of_length_le (by omega)]
theorem cut_mid (xs : List V) (m k : Nat) (hm : m ≤ xs.length) : cutV xs (some (m : Int)) (some ((m + k : Nat) : Int)) = (xs.drop m).take k := by
  unfold cutV
  rw [HT.sIx_nat, HT.sIx_nat, Nat.min_eq_left hm]
  by_cases h : m + k ≤ xs.length
  · rw [Nat.min_eq_left h, Nat.add_sub_cancel_left]
  · rw [Nat.min_eq_right (by omega), List.take_of_length_le (by rw [List.length_drop]; omega), List.take_of_length_le (by rw [List.length_drop]; omega)]
end
section
variable {P : Program} {w : World} {K : PySem.W.Frag} {mg : Str → Option Value} {base : Heap}
def spShape : Sp := fun vs H Q _ => ∃ (S L : Addr) (n m c : Nat), vs = [.ref S, .int (m : Int), .int (c : Int)] ∧ Stm H S L n ∧ n ≤ 9990000 ∧ 0 < m ∧ m ≤ 3 ∧ 0 < c ∧ c ≤ 8 ∧
  ∀ (H' : Hp) (b : Addr) (B : Shp), B.Ok → B.ks.length = m → B.cs.length ≤ c → H b = none → ShpAt S L H' b B [] → Stm H' S L (n + 200) → Old S L H H' → Q (.ref b) H'
theorem ok_shape {f : Addr} {fd : FuncData} (F : Fun K "_law_shape" "_law_shape" s__law_shape f fd) (T : Bt mg) (O__law_draw : Own P w K mg base CX0 1 "_law_draw" ["_law_stream", "_law_many"] spDraw)
    (O__law_pick : Own P w K mg base CX0 2 "_law_pick" ["_law_stream", "_law_things"] (spPick K)) (O__law_names : Own P w K mg base CX0 3 "_law_names" ["_law_stream", "_law_many"] spNames) :
    FnOk P w K mg base CX0 4 f fd ["_law_stream", "_law_many", "_law_most"] spShape := by
  refine F.ok sc__law_shape (fun vs H Q E h => ?_) (fun cdv A outer s H vs Q E hr h => ?_)
  · obtain ⟨S, L, n, m, c, rfl, _⟩ := h
    rfl
  · obtain ⟨S, L, n, m, c, rfl, hst, hn, m0, m3, c0, c8, q⟩ := h
    have hu := hu_of hr
    refine ⟨_, (pss_cons (ps_par (i := 3) (j := 4) (by rfl) sc__law_shape.nd rfl rfl (by decide) rfl rfl (pa_cons (own_call O__law_names hr (by first | decide | omega) (pa_cons (pv 0) (pa_cons (pe_op op_add (pv 1) (pv 2)) pa_nil))) (pa_cons (pe_lst pa_nil) pa_nil)) (by rfl))
      (pss_cons (ps_for PassesOwn.never rfl (pi_list (pe_slice sl_list (pv 3) (po_some (pv 1)) (po_some (pe_op op_add (pe_op op_add (pv 1) pe_int) (own_call O__law_draw hr (by first | decide | omega) (pa_cons (pv 0) (pa_cons (pv 2) pa_nil))))))) (pg_name (i := 5) sc__law_shape.nd rfl (Or.inl rfl)) (pss_cons (ps_par (i := 6) (j := 7) (by rfl) sc__law_shape.nd rfl rfl (by decide) rfl rfl (pa_cons (own_call O__law_pick hr (by first | decide | omega) (pa_cons (pv 0) (pa_cons (pe_slice sl_list (pv 3) po_none (po_some (pv 1))) pa_nil))) (pa_cons (own_call O__law_pick hr (by first | decide | omega) (pa_cons (pv 0) (pa_cons (pe_slice sl_list (pv 3) po_none (po_some (pv 1))) pa_nil))) pa_nil)) (by rfl))
      (pss_one (ps_expr (pe_bm PySem.F.plainAttrs_list PySem.F.slot_list_append PySem.F.type_list_append mt_append (pv 4) (pa_cons (pe_tup (pa_cons (pv 5) (pa_cons (pv 6) (pa_cons (pv 7) (pa_cons (pe_ix (ixL K) (pe_lst (pa_cons pe_str (pa_cons pe_str (pa_cons pe_str pa_nil)))) (own_call O__law_draw hr (by first | decide | omega) (pa_cons (pv 0) (pa_cons pe_int pa_nil))) (fun _ _ => rfl)) pa_nil))))) pa_nil))))))
      (pss_cons (ps_setLc (i := 8) (own := [("_law_name", 5)]) (g := gName 5) (by rfl) sc__law_shape.nd rfl rfl (sw_true rfl rfl rfl (by decide +kernel)) (pi_list (pe_slice sl_list (pv 3) po_none (po_some (pv 1)))) (blkOk_by (own := [("_law_name", 5)]) (N := N__law_shape) (sc := defScope s__law_shape) (by decide +kernel)) (fun _ _ _ _ _ => (pg_name (i := 5) sc__law_shape.nd rfl (Or.inl rfl) (Or.inr rfl))) (fun _ _ _ _ _ => pts_nil) (fun _ _ _ _ _ => (pe_tup (pa_cons (pv 5) (pa_cons (pe_cmpR op_gt (own_call O__law_draw hr (by first | decide | omega) (pa_cons (pv 0) (pa_cons pe_int pa_nil))) pe_int (nomark _)) pa_nil)))))
      (pss_one (ps_ret (pe_disp (pps_cons pe_str (pv 8) (pps_cons pe_str (pv 4) (pps_cons pe_str (pe_lst pa_nil) pps_nil))) (by rfl) (by rfl) (fun z => by cases z) (by decide))))))), ?_⟩
    walk_at "ls"
    refine ⟨S, L, n, m + c, rfl, hst, by omega, by omega, fun H1 pw ts tl tok hpw h1 st1 od1 => ?_⟩
    refine ⟨Nat.zero_le _, fun ca hca => ?_⟩
    refine ⟨_, _, rfl, ?_⟩
    have npw := hst.noneS hpw
    have hca0 : H ca = none := by
      cases e : H ca with
      | none => rfl
      | some o => rw [od1 _ _ (st1.noneS hca).1 (st1.noneS hca).2 e] at hca; cases hca
    have nca := st1.noneS hca
    have ncw : pw ≠ ca := ne_of_none h1 hca
    -- the slice of the columns' names
    walk_at "ls"
    refine ⟨S, L, n + 12 * (m + c), (c : Int), rfl, st1.upd nca.1 nca.2, by omega, by omega, by omega, fun H2 r r0 r1 st2 od2 => ?_⟩
    walk_at "ls"
    have h2 : H2 pw = some (.lst (ts.map V.str)) := od2 _ _ npw.1 npw.2 (by rw [upd_ne ncw]; exact h1)
    have h2c : H2 ca = some (.lst []) := od2 _ _ nca.1 nca.2 upd_same
    refine ⟨pw, _, rfl, .inl (.inl h2), fun sa hsa => ?_⟩
    have nsa := st2.noneS hsa
    have nsw : pw ≠ sa := ne_of_none h2 hsa
    have nsc : ca ≠ sa := ne_of_none h2c hsa
    obtain ⟨r, rfl⟩ := Int.eq_ofNat_of_zero_le r0
    have ecut : cutV (ts.map V.str) (some (m : Int)) (some ((m : Int) + 1 + (r : Int))) = (((ts.drop m).take (1 + r)).map V.str) := by
      have := cut_mid (ts.map V.str) m (1 + r) (by rw [List.length_map]; omega)
      rw [show ((m : Int) + 1 + (r : Int)) = ((m + (1 + r) : Nat) : Int) by omega, this, List.map_take, List.map_drop]
    refine at_heap (φ := fun H3 => Stm H3 S L (n + 12 * (m + c) + 1) ∧ Old S L H H3 ∧ H3 pw = some (.lst (ts.map V.str)) ∧ H3 ca = some (.lst []) ∧ H3 sa = some (.lst (((ts.drop m).take (1 + r)).map V.str)))
      ⟨st2.upd nsa.1 nsa.2, ((od1.trans (.new hca)).trans od2).trans (.new hsa), (by rw [upd_ne nsw]; exact h2), (by rw [upd_ne nsc]; exact h2c), (by rw [← ecut]; exact upd_same)⟩ ?_
    rintro H3 ⟨st3, od3, h3, h3c, h3s⟩
    refine ⟨sa, rfl, ⟨_, .inl (.inl h3s)⟩, ?_⟩
    have lC : ((ts.drop m).take (1 + r)).length ≤ c := by rw [List.length_take, List.length_drop]; omega
    refine for_it (walk_list (xs := (((ts.drop m).take (1 + r)).map V.str))) (fun i σ H4 => ∃ (cs : List (Str × Str × Str × Bool)) (cx : List V) (v5 v6 v7 : Option V), σ = [some (.ref S), some (.int (m : Int)), some (.int (c : Int)), some (.ref pw), some (.ref ca), v5, v6, v7, none] ∧
        cs.map (·.1) = ((ts.drop m).take (1 + r)).take i ∧ (∀ d ∈ cs, d.2.1 ∈ ts.take m ∧ d.2.2.1 ∈ ts.take m) ∧ H4 ca = some (.lst cx) ∧ TupsAt H4 cx (cs.map colV) ∧ Stm H4 S L (n + 12 * (m + c) + 1 + 3 * i) ∧ Old S L H H4 ∧
        H4 pw = some (.lst (ts.map V.str)) ∧ H4 sa = some (.lst (((ts.drop m).take (1 + r)).map V.str)))
      ⟨[], [], none, none, none, rfl, rfl, (fun _ h => nomatch h), h3c, .nil, st3, od3, h3, h3s⟩ (fun i σ H4 _ ⟨_, _, _, _, _, _, _, _, _, _, _, _, _, hs⟩ => .inl (.inl hs)) ?_ ?_
    · rintro i x σ Hz H4 hi ⟨cs, cx, v5, v6, v7, rfl, ecs, hcs, h4c, h4t, st4, od4, h4, h4s⟩ ⟨rfl, hx⟩
      obtain ⟨z, rfl⟩ := str_at hx
      rw [List.length_map] at hi
      walk_at "ls"
      -- home
      refine ⟨pw, _, rfl, .inl (.inl h4), fun p1 hp1 => ?_⟩
      have n1 := st4.noneS hp1
      have n1w : pw ≠ p1 := ne_of_none h4 hp1
      rw [cut_take, ← List.map_take]
      refine ⟨S, L, p1, _, _, rfl, st4.upd n1.1 n1.2, by omega, .inl (.inl upd_same), n1.1, n1.2, ?_, ?_, fun H5 v hv st5 od5 => ?_⟩
      · rw [List.length_map, List.length_take]
        omega
      · rw [List.length_map, List.length_take]
        omega
      obtain ⟨hm, hhm, rfl⟩ := List.mem_map.mp hv
      have h5 : H5 pw = some (.lst (ts.map V.str)) := od5 _ _ npw.1 npw.2 (by rw [upd_ne n1w]; exact h4)
      walk_at "ls"
      -- goal
      refine ⟨pw, _, rfl, .inl (.inl h5), fun p2 hp2 => ?_⟩
      have n2 := st5.noneS hp2
      have n2w : pw ≠ p2 := ne_of_none h5 hp2
      rw [cut_take, ← List.map_take]
      refine ⟨S, L, p2, _, _, rfl, st5.upd n2.1 n2.2, by omega, .inl (.inl upd_same), n2.1, n2.2, ?_, ?_, fun H6 v2 hv2 st6 od6 => ?_⟩
      · rw [List.length_map, List.length_take]
        omega
      · rw [List.length_map, List.length_take]
        omega
      obtain ⟨gl, hgl, rfl⟩ := List.mem_map.mp hv2
      have k46 : Old S L H4 H6 := (((Old.new hp1).trans od5).trans (.new hp2)).trans od6
      have h6c := k46 _ _ nca.1 nca.2 h4c
      refine ⟨_, _, rfl, ?_⟩
      walk_at "ls"
      refine ⟨(by show 3 ≤ sizeLine; decide), fun p3 hp3 => ?_⟩
      have n3 := st6.noneS hp3
      walk_at "ls"
      refine ⟨S, L, _, 3, rfl, st6.upd n3.1 n3.2, by omega, by decide, by decide, fun H7 q0 q1 q2 st7 od7 => ?_⟩
      obtain ⟨b, hb⟩ := rule_at q1 q2
      refine ⟨_, _, _, _, rfl, rfl, .inl (.inl (od7 _ _ n3.1 n3.2 upd_same)), hb, ?_⟩
      refine ⟨(by show 4 ≤ sizeLine; decide), fun t ht => ?_⟩
      have k47 : Old S L H4 H7 := (k46.trans (.new hp3)).trans od7
      have h7c := k47 _ _ nca.1 nca.2 h4c
      have nct : ca ≠ t := ne_of_none h7c ht
      have nt := st7.noneS ht
      refine ⟨_, _, _, rfl, rfl, (by rw [upd_ne nct]; exact h7c), ?_, ?_⟩
      · have := h4t.len
        have e2 : cs.length = i := by
          have := congrArg List.length ecs
          rw [List.length_map, List.length_take, Nat.min_eq_left (by omega)] at this
          exact this
        rw [List.length_map] at this
        exact small1000 (by omega)
      · have kt : TK H4 (upd (upd H7 t (.tup [.str z, .str hm, .str gl, .str (ruleS b)])) ca (.lst (cx ++ [.ref t]))) := ((TK.old st4 k47).trans (.new ht)).trans (.lst (by rw [upd_ne nct]; exact h7c))
        refine ⟨cs ++ [(z, hm, gl, b)], cx ++ [.ref t], _, _, _, rfl, ?_, ?_, upd_same, ?_, ?_, ?_, ?_, ?_⟩
        · have hz : ((ts.drop m).take (1 + r))[i]? = some z := by
            rw [List.getElem?_map] at hx
            cases e : ((ts.drop m).take (1 + r))[i]? with
            | none => rw [e] at hx; cases hx
            | some y => rw [e] at hx; cases hx; rfl
          rw [List.map_append, ecs, List.take_add_one, hz]
          rfl
        · exact all_snoc hcs ⟨hhm, hgl⟩
        · rw [List.map_append]
          exact (h4t.keep kt).snoc ⟨t, rfl, by rw [upd_ne nct.symm]; exact upd_same⟩
        · exact ((st7.mono (by omega)).upd nt.1 nt.2).upd nca.1 nca.2
        · exact ((od4.trans k47).trans (.new ht)).set hca0
        · rw [upd_ne ncw, upd_ne (ne_of_none (k47 _ _ npw.1 npw.2 h4) ht)]
          exact k47 _ _ npw.1 npw.2 h4
        · rw [upd_ne nsc.symm, upd_ne (ne_of_none (k47 _ _ nsa.1 nsa.2 h4s) ht)]
          exact k47 _ _ nsa.1 nsa.2 h4s
    · rintro σ H4 ⟨cs, cx, v5, v6, v7, rfl, ecs, hcs, h4c, h4t, st4, od4, h4, h4s⟩
      rw [List.length_map, List.take_length] at ecs
      rw [List.length_map] at st4
      walk_at "ls"
      refine ⟨pw, _, rfl, .inl (.inl h4), fun sk hsk => ?_⟩
      have nsk := st4.noneS hsk
      rw [cut_take, ← List.map_take]
      have nskw : pw ≠ sk := ne_of_none h4 hsk
      have nskc : ca ≠ sk := ne_of_none h4c hsk
      refine ⟨sk, rfl, ⟨_, .inl (.inl upd_same)⟩, fun D hD => ?_⟩
      have st5 := st4.upd (o := .lst ((ts.take m).map V.str)) nsk.1 nsk.2
      have nD := st5.noneS hD
      have nDk : sk ≠ D := ne_of_none upd_same hD
      have od4s : Old S L H (upd H4 sk (.lst ((ts.take m).map V.str))) := od4.trans (.new hsk)
      have h5c : (upd H4 sk (.lst ((ts.take m).map V.str))) ca = some (.lst cx) := by rw [upd_ne nskc]; exact h4c
      have nDc : ca ≠ D := ne_of_none h5c hD
      refine lc_it (walk_list (xs := (ts.take m).map V.str)) (fun i H5 => ∃ (ks : List (Str × Bool)) (kx : List V), ks.map (·.1) = (ts.take m).take i ∧ H5 D = some (.lst kx) ∧ TupsAt H5 kx (ks.map kindV) ∧ H5 sk = some (.lst ((ts.take m).map V.str)) ∧ H5 ca = some (.lst cx) ∧
          TupsAt H5 cx (cs.map colV) ∧ Stm H5 S L (n + 12 * (m + c) + 1 + 3 * ((ts.drop m).take (1 + r)).length + i) ∧ Old S L H H5)
        ⟨[], [], rfl, upd_same, .nil, (by rw [upd_ne nDk]; exact upd_same), (by rw [upd_ne nDc]; exact h5c), (h4t.keep (.new hsk)).keep (.new hD), st5.upd nD.1 nD.2, (od4.trans (.new hsk)).trans (.new hD)⟩
        (fun i H5 _ ⟨_, _, _, _, _, h, _⟩ => .inl (.inl h)) ?_ ?_
      · rintro i x Hz H5 hi ⟨ks, kx, eks, h5D, h5t, h5s, h5c, h5ct, st5, od5⟩ ⟨rfl, hx⟩
        obtain ⟨z, rfl⟩ := str_at hx
        rw [List.length_map] at hi
        refine ⟨rfl, ?_⟩
        walk_at "ls"
        have lm : (ts.take m).length ≤ m := by rw [List.length_take]; omega
        refine ⟨S, L, _, 3, rfl, st5, by omega, by decide, by decide, fun H6 q0 q1 q2 st6 od6 => ?_⟩
        walk_at "ls"
        refine ⟨(by show 2 ≤ sizeLine; decide), fun t ht => ?_⟩
        have nt := st6.noneS ht
        have h6D := od6 _ _ nD.1 nD.2 h5D
        have nDt : D ≠ t := ne_of_none h6D ht
        have h6D' : (upd H6 t (.tup [V.str z, V.bl (decide (0 < q0))])) D = some (.lst kx) := by rw [upd_ne nDt]; exact h6D
        have kt : TK H5 (upd (upd H6 t (.tup [V.str z, V.bl (decide (0 < q0))])) D (.lst (kx ++ [.ref t]))) := ((TK.old st5 od6).trans (.new ht)).trans (.lst h6D')
        have ek : ks.length = i := by
          have := congrArg List.length eks
          rw [List.length_map, List.length_take, Nat.min_eq_left (by omega)] at this
          exact this
        have hkl : kx.length = i := by rw [h5t.len, List.length_map, ek]
        have hz : (ts.take m)[i]? = some z := by
          rw [List.getElem?_map] at hx
          cases e : (ts.take m)[i]? with
          | none => rw [e] at hx; cases hx
          | some y => rw [e] at hx; cases hx; rfl
        have h6s := od6 _ _ nsk.1 nsk.2 h5s
        have h6c := od6 _ _ nca.1 nca.2 h5c
        have lm : (ts.take m).length ≤ m := by rw [List.length_take]; omega
        refine ⟨kx, h6D', small1000 (by omega), ks ++ [(z, decide (0 < q0))], kx ++ [.ref t], ?_, upd_same, ?_, ?_, ?_, h5ct.keep kt, ?_, ?_⟩
        · rw [List.map_append, eks, List.take_add_one, hz]
          rfl
        · rw [List.map_append]
          exact (h5t.keep kt).snoc ⟨t, rfl, by rw [upd_ne nDt.symm]; exact upd_same⟩
        · rw [upd_ne nDk, upd_ne (ne_of_none h6s ht)]
          exact h6s
        · rw [upd_ne nDc, upd_ne (ne_of_none h6c ht)]
          exact h6c
        · exact ((st6.mono (by omega)).upd nt.1 nt.2).upd nD.1 nD.2
        · exact ((od5.trans od6).trans (.new ht)).set (od4s.none hD nD)
      · rintro H5 ⟨ks, kx, eks, h5D, h5t, h5s, h5c, h5ct, st5, od5⟩
        rw [List.length_map, List.take_length] at eks
        rw [List.length_map] at st5
        intro b hb
        have nb := st5.noneS hb
        have nDb : D ≠ b := ne_of_none h5D hb
        have ncb : ca ≠ b := ne_of_none h5c hb
        walk_at "ls"
        refine ⟨Nat.zero_le _, fun ea hea => ?_⟩
        have neb : b ≠ ea := ne_of_none upd_same hea
        have nea := (st5.upd nb.1 nb.2).noneS hea
        have nDe : D ≠ ea := ne_of_none (show (upd H5 b (.dK [])) D = _ by rw [upd_ne nDb]; exact h5D) hea
        have nce : ca ≠ ea := ne_of_none (show (upd H5 b (.dK [])) ca = _ by rw [upd_ne ncb]; exact h5c) hea
        refine ⟨(by rw [upd_ne neb]; exact upd_same), [(.inr "kinds", .ref D), (.inr "columns", .ref ca), (.inr "checks", .ref ea)], rfl, (by show 3 ≤ 15; decide), ?_⟩
        have lm : (ts.take m).length = m := by rw [List.length_take]; omega
        have elk : ks.length = m := by
          have := congrArg List.length eks
          rw [List.length_map, lm] at this
          exact this
        have elc : cs.length ≤ c := by
          have := congrArg List.length ecs
          rw [List.length_map] at this
          omega
        have elc0 : 0 < cs.length := by
          have := congrArg List.length ecs
          rw [List.length_map, List.length_take, List.length_drop] at this
          omega
        have emb : ∀ z ∈ (ks.map (·.1) ++ cs.map (·.1)), z ∈ ts := by
          rw [eks, ecs]
          intro z hz
          rcases List.mem_append.mp hz with h | h
          · exact List.mem_of_mem_take h
          · exact List.mem_of_mem_drop (List.mem_of_mem_take h)
        have kt : TK H5 (upd (upd (upd H5 b (.dK [])) ea (.lst [])) b (.dK (mergeK [] [(.inr "kinds", .ref D), (.inr "columns", .ref ca), (.inr "checks", .ref ea)]))) :=
          ((TK.new hb).trans (.new hea)).trans (.dK (by rw [upd_ne neb]; exact upd_same))
        refine q _ b ⟨ks, cs⟩ ⟨by show 0 < ks.length; omega, by show ks.length ≤ 3; omega, by show cs.length ≤ 8; omega, ?_, fun z hz => tok.2 z (emb z hz), fun d hd => by show d.2.1 ∈ ks.map (·.1); rw [eks]; exact (hcs d hd).1, fun d hd => by show d.2.2.1 ∈ ks.map (·.1); rw [eks]; exact (hcs d hd).2, elc0⟩
          elk elc (od5.none hb nb) ⟨D, ca, ea, kx, cx, upd_same, ?_, h5t.keep kt, ?_, h5ct.keep kt, ?_, nD, nca, nea⟩ ?_ ?_
        · show (ks.map (·.1) ++ cs.map (·.1)).Nodup
          rw [eks, ecs]
          have nd := tok.1
          rw [← List.take_append_drop m ts] at nd
          have h1 := List.nodup_append.mp nd
          refine List.nodup_append.mpr ⟨h1.1, h1.2.1.sublist (List.take_sublist _ _), fun x hx y hy => h1.2.2 x hx y (List.mem_of_mem_take hy)⟩
        · rw [upd_ne nDb, upd_ne nDe, upd_ne nDb]
          exact h5D
        · rw [upd_ne ncb, upd_ne nce, upd_ne ncb]
          exact h5c
        · rw [upd_ne neb.symm]
          exact upd_same
        · exact (((st5.mono (by omega)).upd nb.1 nb.2).upd nea.1 nea.2).upd nb.1 nb.2
        · exact ((od5.trans (.new hb)).trans (.new hea)).set (od5.none hb nb)
end
end Ls
namespace Ls
open PySem PySem.Spec PyProof.Rows L2
/-! ### short steps -/
local macro_rules | `(tactic| walk_at "ls_ne") => `(tactic| first | assumption | exact Ne.symm (by assumption) | exact ne_of_none (by assumption) (by assumption) | exact Ne.symm (ne_of_none (by assumption) (by assumption)))
local macro_rules | `(tactic| walk_at "ls_hp") => `(tactic| first
  | with_reducible assumption
  | exact upd_same
  | exact Eq.trans (upd_ne (by walk_at "ls_ne")) (by walk_at "ls_hp"))
local macro_rules | `(tactic| walk_at "ls_st") => `(tactic| first
  | with_reducible assumption
  | exact Stm.upd (by walk_at "ls_st") (by first | walk_at "ls_ne" | exact (Stm.noneS (by assumption) (by assumption)).1) (by first | walk_at "ls_ne" | exact (Stm.noneS (by assumption) (by assumption)).2))
local macro_rules | `(tactic| walk_at "ls1") => `(tactic| first
  | refine ⟨_, rfl, ?_⟩
  | refine ⟨_, _, rfl, rfl, ?_⟩
  | refine ⟨_, _, _, _, rfl, rfl, .inl (.inl (by walk_at "ls_hp")), rfl, ?_⟩
  | refine ⟨_, _, _, _, rfl, rfl, (by walk_at "ls_hp"), rfl, ?_⟩
  | refine ⟨rfl, _, rfl, ?_⟩
  | refine ⟨.inl ⟨rfl, _, .inl (.inl (by walk_at "ls_hp"))⟩, ?_⟩)
local macro_rules | `(tactic| walk_at "ls") => `(tactic| repeat (walk_at "ls1"))

/-! ### the menu -/
def colW : List Str := ["put", "turn", "keep", "hold", "again"]
def kindW : List Str := ["bare", "calm", "again"]
def bookW : List Str := ["lone", "fresh"]
def withN (ws : List Str) (z : Str) : List Str := ws.map fun a => a ++ " " ++ z
def menu (B : Shp) : List Str := ((B.cs.flatMap fun c => withN colW c.1) ++ B.ks.flatMap fun k => withN kindW k.1) ++ bookW
def addN (z : Str) : V → Option V
  | .str a => some (.str (a ++ " " ++ z))
  | _ => none
theorem addN_all (z : Str) : ∀ ws : List Str, (ws.map V.str).filterMap (addN z) = (withN ws z).map V.str
  | [] => rfl
  | a :: r => by
    rw [List.map_cons, List.filterMap_cons]
    show V.str (a ++ " " ++ z) :: (r.map V.str).filterMap (addN z) = _
    rw [addN_all z r]
    rfl
theorem cat_len (a b : Str) : (a ++ b).length = a.length + b.length := Array.size_append
theorem flat_len {α : Type} (f : α → List Str) (k : Nat) (h : ∀ x, (f x).length = k) : ∀ l : List α, (l.flatMap f).length = k * l.length
  | [] => by simp
  | a :: r => by rw [List.flatMap_cons, List.length_append, flat_len f k h r, h, List.length_cons, Nat.mul_succ]; omega
theorem menu_len (B : Shp) : (menu B).length = 5 * B.cs.length + 3 * B.ks.length + 2 := by
  unfold menu
  rw [List.length_append, List.length_append, flat_len _ 5 (fun c => by rw [withN, List.length_map]; rfl), flat_len _ 3 (fun c => by rw [withN, List.length_map]; rfl)]
  rfl
theorem TupsAt.get {H : Hp} : ∀ {xs : List V} {yss : List (List V)} {i : Nat} {x : V}, TupsAt H xs yss → xs[i]? = some x → ∃ ys, yss[i]? = some ys ∧ TupOf H x ys
  | _, _, _, _, .nil, e => by simp at e
  | _, _, 0, x, .cons r _, e => by simp at e; subst e; exact ⟨_, rfl, r⟩
  | _, _, i + 1, x, .cons _ t, e => by
    obtain ⟨u, h1, h2⟩ := TupsAt.get (i := i) (x := x) t (by simpa using e)
    exact ⟨u, by simpa using h1, h2⟩
theorem map_get {α β : Type} {f : α → β} {l : List α} {i : Nat} {y : β} (h : (l.map f)[i]? = some y) : ∃ x, l[i]? = some x ∧ y = f x := by
  rw [List.getElem?_map] at h
  cases e : l[i]? with
  | none => rw [e] at h; cases h
  | some x => rw [e] at h; exact ⟨x, rfl, (Option.some.inj h).symm⟩
theorem colW_len : ∀ a ∈ colW, a.length ≤ 5 := by decide +kernel
theorem kindW_len : ∀ a ∈ kindW, a.length ≤ 5 := by decide +kernel
theorem room_str {a b : Str} {n m : Nat} (h1 : a.length ≤ n) (h2 : b.length ≤ m) (h3 : n + m ≤ 1000) : a.length + b.length ≤ sizeLine := Nat.le_trans (by omega) (show 1000 ≤ sizeLine by decide)
theorem word_len {a : Str} (h : a.length ≤ 5) : (a ++ " ").length ≤ 6 := by
  rw [cat_len]
  have : (" " : Str).length = 1 := by decide +kernel
  omega
theorem flat_snoc {α : Type} {f : α → List Str} {l : List α} {i : Nat} {c : α} (h : l[i]? = some c) : ((l.take (i + 1)).flatMap f) = (l.take i).flatMap f ++ f c := by
  rw [List.take_add_one, h, List.flatMap_append]
  simp
/-! ### the record's three lists -/
theorem nkc : ¬ ((Sum.inr ("kinds" : Str) : Key) = Sum.inr ("columns" : Str)) := by decide +kernel
theorem nkh : ¬ ((Sum.inr ("kinds" : Str) : Key) = Sum.inr ("checks" : Str)) := by decide +kernel
theorem nch : ¬ ((Sum.inr ("columns" : Str) : Key) = Sum.inr ("checks" : Str)) := by decide +kernel
section
variable {H : Hp} {b : Addr} {x y z : V}
theorem dg {k : Key} {v : V} {kvs : List (Key × V)} (h : H b = some (.dK kvs)) (e : valV kvs k = some v) : DGet H b (kV k) (some v) := by rw [← e]; exact DGet.k h
theorem dg_kinds (h : H b = some (.dK [(.inr "kinds", x), (.inr "columns", y), (.inr "checks", z)])) : DGet H b (.str "kinds") (some x) := dg (k := .inr "kinds") h (valV_pos rfl)
theorem dg_columns (h : H b = some (.dK [(.inr "kinds", x), (.inr "columns", y), (.inr "checks", z)])) : DGet H b (.str "columns") (some y) := dg (k := .inr "columns") h (by rw [valV_neg nkc]; exact valV_pos rfl)
theorem dg_checks (h : H b = some (.dK [(.inr "kinds", x), (.inr "columns", y), (.inr "checks", z)])) : DGet H b (.str "checks") (some z) := dg (k := .inr "checks") h (by rw [valV_neg nkh, valV_neg nch]; exact valV_pos rfl)
end
section
variable {P : Program} {w : World} {K : PySem.W.Frag} {mg : Str → Option Value} {base : Heap}
abbrev s__law_all_checks : Stmt := topS 35
theorem sc__law_all_checks : FnScope ["_law_b", "_law_found", "_law_column", "_law_kind", "_law_word"] ["_law_b"] (defScope s__law_all_checks) := ⟨rfl, rfl, rfl, by decide +kernel, rfl, by decide +kernel, by decide +kernel⟩
abbrev N__law_all_checks : List Str := ["_law_b", "_law_found", "_law_column", "_law_kind", "_law_word"]
def spAll : Sp := fun vs H Q _ => ∃ (S L b : Addr) (B : Shp) (ck : List Str), vs = [.ref b] ∧ ShpAt S L H b B ck ∧ B.Ok ∧
  ∀ (H' : Hp) (p : Addr), H p = none → H' p = some (.lst ((menu B).map V.str)) → Same H H' → Q (.ref p) H'
theorem ok_all {f : Addr} {fd : FuncData} (F : Fun K "_law_all_checks" "_law_all_checks" s__law_all_checks f fd) (T : Bt mg) : FnOk P w K mg base CX0 1 f fd ["_law_b"] spAll := by
  refine F.ok sc__law_all_checks (fun vs H Q E h => ?_) (fun cdv A outer s H vs Q E hr h => ?_)
  · obtain ⟨S, L, b, B, ck, rfl, _⟩ := h
    rfl
  · obtain ⟨S, L, b, B, ck, rfl, ⟨ka, ca, ea, kx, cx, hb, hka, hkt, hca, hct, hea, _⟩, hB, q⟩ := h
    have hu := hu_of hr
    refine ⟨_, (pss_cons (ps_set (i := 1) sc__law_all_checks.nd rfl (Or.inl rfl) (pe_lst pa_nil))
      (pss_cons (ps_for PassesOwn.never rfl (pi_list (pe_dget hu (pv 0) pe_str (fun _ _ => rfl))) (pg_name (i := 2) sc__law_all_checks.nd rfl (Or.inr rfl)) (pss_one (ps_expr (pe_bm PySem.F.plainAttrs_list PySem.F.slot_list_extend PySem.F.type_list_extend mt_extend (pv 1) (pa_cons (pe_lc (own := [("_law_word", 4)]) (g := gName 4) (by rfl) sc__law_all_checks.nd (pi_list (pe_lst (pa_cons pe_str (pa_cons pe_str (pa_cons pe_str (pa_cons pe_str (pa_cons pe_str pa_nil))))))) (blkOk_by (own := [("_law_word", 4)]) (N := N__law_all_checks) (sc := defScope s__law_all_checks) (by decide +kernel)) (fun _ _ _ _ _ => (pg_name (i := 4) sc__law_all_checks.nd rfl (Or.inl rfl) (Or.inr rfl))) (fun _ _ _ _ _ => pts_nil) (fun _ _ _ _ _ => (pe_op op_add_str (pe_op op_add_str (pv 4) pe_str) (pe_ix (ixT K) (pv 2) pe_int (fun _ _ => rfl))))) pa_nil)))))
      (pss_cons (ps_for PassesOwn.never rfl (pi_list (pe_dget hu (pv 0) pe_str (fun _ _ => rfl))) (pg_name (i := 3) sc__law_all_checks.nd rfl (Or.inr rfl)) (pss_one (ps_expr (pe_bm PySem.F.plainAttrs_list PySem.F.slot_list_extend PySem.F.type_list_extend mt_extend (pv 1) (pa_cons (pe_lc (own := [("_law_word", 4)]) (g := gName 4) (by rfl) sc__law_all_checks.nd (pi_list (pe_lst (pa_cons pe_str (pa_cons pe_str (pa_cons pe_str pa_nil))))) (blkOk_by (own := [("_law_word", 4)]) (N := N__law_all_checks) (sc := defScope s__law_all_checks) (by decide +kernel)) (fun _ _ _ _ _ => (pg_name (i := 4) sc__law_all_checks.nd rfl (Or.inl rfl) (Or.inr rfl))) (fun _ _ _ _ _ => pts_nil) (fun _ _ _ _ _ => (pe_op op_add_str (pe_op op_add_str (pv 4) pe_str) (pe_ix (ixT K) (pv 3) pe_int (fun _ _ => rfl))))) pa_nil)))))
      (pss_one (ps_ret (pe_op op_cat (pv 1) (pe_lst (pa_cons pe_str (pa_cons pe_str pa_nil))))))))), ?_⟩
    refine ⟨Nat.zero_le _, fun p hp => ?_⟩
    walk_at "ls"
    have nbp : b ≠ p := ne_of_none hb hp
    have nca : ca ≠ p := ne_of_none hca hp
    have s0 : Same H (upd H p (.lst [])) := same_new hp
    refine ⟨b, _, rfl, dg_columns (s0 _ _ hb), ca, rfl, ⟨_, .inl (.inl (s0 _ _ hca))⟩, ?_⟩
    refine for_it (walk_list (xs := cx)) (fun i σ H1 => ∃ v : Option V, σ = [some (.ref b), some (.ref p), v, none, none] ∧ H1 p = some (.lst (((B.cs.take i).flatMap fun c => withN colW c.1).map V.str)) ∧ Same H H1)
      ⟨none, rfl, upd_same, s0⟩ (fun i σ H1 _ ⟨_, _, _, s1⟩ => .inl (.inl (s1 _ _ hca))) ?_ ?_
    · rintro i x σ Hz H1 hi ⟨v, rfl, h1, s1⟩ ⟨rfl, hx⟩
      obtain ⟨ys, hys, t, rfl, ht⟩ := TupsAt.get (hct.keep (.same s1)) hx
      obtain ⟨c, hc, rfl⟩ := map_get hys
      have hci : i < B.cs.length := (List.getElem?_eq_some_iff.mp hc).1
      have hnm : c.1.length ≤ 8 := (hB.nm _ (List.mem_append_right _ (List.mem_map_of_mem (List.mem_of_getElem? hc)))).1.2.1
      walk_at "ls"
      refine ⟨(by show 5 ≤ sizeLine; decide), fun w1 hw1 => ?_⟩
      refine ⟨w1, rfl, ⟨_, .inl (.inl upd_same)⟩, fun D hD => ?_⟩
      have nwD : w1 ≠ D := ne_of_none upd_same hD
      have npw : p ≠ w1 := ne_of_none h1 hw1
      have npD : p ≠ D := ne_of_none (by rw [upd_ne npw]; exact h1) hD
      have ntw : t ≠ w1 := ne_of_none ht hw1
      have ntD : t ≠ D := ne_of_none (by rw [upd_ne ntw]; exact ht) hD
      refine lc_pure (walk_list (xs := colW.map V.str)) (colW.map V.str) (addN c.1) rfl (fun i H x H' hi hy => hy) (by decide +kernel) (fun acc => .inl (.inl (by rw [upd_ne nwD]; exact upd_same))) (fun k y hk hy => ?_) ?_
      · obtain ⟨a, ha, rfl⟩ := map_get hy
        have hal : a.length ≤ 5 := colW_len a (List.mem_of_getElem? ha)
        refine ⟨rfl, ?_⟩
        walk_at "ls"
        refine ⟨room_str (m := 1) hal (by decide +kernel) (by decide), ?_⟩
        walk_at "ls"
        refine ⟨room_str (n := 6) (m := 8) (word_len hal) hnm (by decide), ?_⟩
        exact lc_yes hy hk (by decide +kernel) rfl
      rw [addN_all]
      refine ⟨_, _, _, _, rfl, rfl, (by rw [upd_ne npD, upd_ne npw]; exact h1), upd_same, ?_, ?_⟩
      · rw [List.length_map, List.length_map, flat_len _ 5 (fun c => by rw [withN, List.length_map]; rfl), withN, List.length_map, List.length_take]
        have := hB.nc
        show 5 * _ + 5 ≤ sizeLine
        exact Nat.le_trans (by omega) (show 1000 ≤ sizeLine by decide)
      · refine ⟨_, rfl, ?_, ?_⟩
        · rw [upd_same, flat_snoc hc, List.map_append]
        · intro u o e
          have nup : u ≠ p := ne_of_none e hp
          have e1 := s1 _ _ e
          have nuw : u ≠ w1 := ne_of_none e1 hw1
          rw [upd_ne nup, upd_ne (ne_of_none (by rw [upd_ne nuw]; exact e1) hD), upd_ne nuw]
          exact e1
    · rintro σ H1 ⟨v, rfl, h1, s1⟩
      have e1 : B.cs.take cx.length = B.cs := by
        have := hct.len
        rw [List.length_map] at this
        rw [this, List.take_length]
      rw [e1] at h1
      walk_at "ls"
      refine ⟨b, _, rfl, dg_kinds (s1 _ _ hb), ka, rfl, ⟨_, .inl (.inl (s1 _ _ hka))⟩, ?_⟩
      refine for_it (walk_list (xs := kx)) (fun i σ H1 => ∃ v v3 : Option V, σ = [some (.ref b), some (.ref p), v, v3, none] ∧ H1 p = some (.lst (((B.cs.flatMap fun c => withN colW c.1) ++ (B.ks.take i).flatMap fun c => withN kindW c.1).map V.str)) ∧ Same H H1)
        ⟨v, none, rfl, (by rw [List.take_zero, List.flatMap_nil, List.append_nil]; exact h1), s1⟩ (fun i σ H1 _ ⟨_, _, _, _, s1⟩ => .inl (.inl (s1 _ _ hka))) ?_ ?_
      · clear h1 s1 v
        rintro i x σ Hz H1 hi ⟨v, v3, rfl, h1, s1⟩ ⟨rfl, hx⟩
        obtain ⟨ys, hys, t, rfl, ht⟩ := TupsAt.get (hkt.keep (.same s1)) hx
        obtain ⟨c, hc, rfl⟩ := map_get hys
        have hci : i < B.ks.length := (List.getElem?_eq_some_iff.mp hc).1
        have hnm : c.1.length ≤ 8 := (hB.nm _ (List.mem_append_left _ (List.mem_map_of_mem (List.mem_of_getElem? hc)))).1.2.1
        walk_at "ls"
        refine ⟨(by show 3 ≤ sizeLine; decide), fun w1 hw1 => ?_⟩
        refine ⟨w1, rfl, ⟨_, .inl (.inl upd_same)⟩, fun D hD => ?_⟩
        have nwD : w1 ≠ D := ne_of_none upd_same hD
        have npw : p ≠ w1 := ne_of_none h1 hw1
        have npD : p ≠ D := ne_of_none (by rw [upd_ne npw]; exact h1) hD
        have ntw : t ≠ w1 := ne_of_none ht hw1
        have ntD : t ≠ D := ne_of_none (by rw [upd_ne ntw]; exact ht) hD
        refine lc_pure (walk_list (xs := kindW.map V.str)) (kindW.map V.str) (addN c.1) rfl (fun i H x H' hi hy => hy) (by decide +kernel) (fun acc => .inl (.inl (by rw [upd_ne nwD]; exact upd_same))) (fun k y hk hy => ?_) ?_
        · obtain ⟨a, ha, rfl⟩ := map_get hy
          have hal : a.length ≤ 5 := kindW_len a (List.mem_of_getElem? ha)
          refine ⟨rfl, ?_⟩
          walk_at "ls"
          refine ⟨room_str (m := 1) hal (by decide +kernel) (by decide), ?_⟩
          walk_at "ls"
          refine ⟨room_str (n := 6) (m := 8) (word_len hal) hnm (by decide), ?_⟩
          exact lc_yes hy hk (by decide +kernel) rfl
        rw [addN_all]
        refine ⟨_, _, _, _, rfl, rfl, (by rw [upd_ne npD, upd_ne npw]; exact h1), upd_same, ?_, ?_⟩
        · rw [List.length_map, List.length_append, List.length_map, flat_len _ 5 (fun c => by rw [withN, List.length_map]; rfl), flat_len _ 3 (fun c => by rw [withN, List.length_map]; rfl), withN, List.length_map, List.length_take]
          have := hB.nc
          have := hB.nk3
          show 5 * _ + 3 * _ + 3 ≤ sizeLine
          exact Nat.le_trans (by omega) (show 1000 ≤ sizeLine by decide)
        · refine ⟨_, _, rfl, ?_, ?_⟩
          · rw [upd_same, flat_snoc hc, List.map_append, List.map_append, List.map_append, List.append_assoc]
          · intro u o e
            have nup : u ≠ p := ne_of_none e hp
            have e1 := s1 _ _ e
            have nuw : u ≠ w1 := ne_of_none e1 hw1
            rw [upd_ne nup, upd_ne (ne_of_none (by rw [upd_ne nuw]; exact e1) hD), upd_ne nuw]
            exact e1
      · clear h1 s1 v
        rintro σ H1 ⟨v, v3, rfl, h1, s1⟩
        have e2 : B.ks.take kx.length = B.ks := by
          have := hkt.len
          rw [List.length_map] at this
          rw [this, List.take_length]
        rw [e2] at h1
        walk_at "ls"
        refine ⟨(by show 2 ≤ sizeLine; decide), fun p2 hp2 => ?_⟩
        have np2 : p ≠ p2 := ne_of_none h1 hp2
        refine ⟨_, _, _, _, rfl, rfl, (by rw [upd_ne np2]; exact h1), upd_same, ?_, fun p3 hp3 => ?_⟩
        · have l1 := flat_len (fun c : Str × Str × Str × Bool => withN colW c.1) 5 (fun c => by show (withN colW c.1).length = 5; rw [withN, List.length_map]; rfl) B.cs
          have l2 := flat_len (fun c : Str × Bool => withN kindW c.1) 3 (fun c => by show (withN kindW c.1).length = 3; rw [withN, List.length_map]; rfl) B.ks
          have := hB.nc
          have := hB.nk3
          rw [List.length_map, List.length_append, l1, l2]
          refine Nat.le_trans ?_ (show 1000 ≤ sizeLine by decide)
          show _ + 2 ≤ 1000
          omega
        · have s2 : Same H (upd H1 p2 (.lst [.str "lone", .str "fresh"])) := s1.trans (same_new hp2)
          refine q _ p3 (s2.free hp3) ?_ (s2.trans (same_new hp3))
          rw [upd_same]
          unfold menu
          rw [List.map_append (l₂ := bookW)]
          rfl
/-! ### _law_checked -/
abbrev s__law_checked : Stmt := topS 36
theorem sc__law_checked : FnScope ["_law_stream", "_law_b", "_law_share", "_law_checks", "_law_check"] ["_law_stream", "_law_b"] (defScope s__law_checked) := ⟨rfl, rfl, rfl, by decide +kernel, rfl, by decide +kernel, by decide +kernel⟩
abbrev N__law_checked : List Str := ["_law_stream", "_law_b", "_law_share", "_law_checks", "_law_check"]
def spChecked : Sp := fun vs H Q _ => ∃ (S L b : Addr) (n : Nat) (B : Shp) (ck : List Str), vs = [.ref S, .ref b] ∧ Stm H S L n ∧ n ≤ 9990000 ∧ ShpAt S L H b B ck ∧ B.Ok ∧
  ∀ (H' : Hp) (p : Addr) (ck' : List Str), H p = none → ck'.Sublist (menu B) → ShpAt S L H' p B ck' → Stm H' S L (n + 60) → Old S L H H' → Q (.ref p) H'
theorem share_at {i : Int} (h0 : 0 ≤ i) (h1 : i < 6) : ∃ k : Int, atI [V.int 0, V.int 2, V.int 4, V.int 6, V.int 9, V.int 12] i = some (.int k) := by
  obtain ⟨n, rfl⟩ := Int.eq_ofNat_of_zero_le h0
  match n, h1 with
  | 0, _ => exact ⟨0, rfl⟩
  | 1, _ => exact ⟨2, rfl⟩
  | 2, _ => exact ⟨4, rfl⟩
  | 3, _ => exact ⟨6, rfl⟩
  | 4, _ => exact ⟨9, rfl⟩
  | 5, _ => exact ⟨12, rfl⟩
  | k + 6, h => omega
theorem sub_snoc {α : Type} {l m : List α} {x : α} (h : l.Sublist m) : (l ++ [x]).Sublist (m ++ [x]) := List.Sublist.append h (List.Sublist.refl _)
theorem sub_skip {α : Type} {l m : List α} {x : α} (h : l.Sublist m) : l.Sublist (m ++ [x]) := h.trans (List.sublist_append_left _ _)
theorem ok_checked {f : Addr} {fd : FuncData} (F : Fun K "_law_checked" "_law_checked" s__law_checked f fd) (T : Bt mg) (O__law_draw : Own P w K mg base CX0 1 "_law_draw" ["_law_stream", "_law_many"] spDraw)
    (O__law_all_checks : Own P w K mg base CX0 1 "_law_all_checks" ["_law_b"] spAll) : FnOk P w K mg base CX0 2 f fd ["_law_stream", "_law_b"] spChecked := by
  refine F.ok sc__law_checked (fun vs H Q E h => ?_) (fun cdv A outer s H vs Q E hr h => ?_)
  · obtain ⟨S, L, b, n, B, ck, rfl, _⟩ := h
    rfl
  · obtain ⟨S, L, b, n, B, ck, rfl, hst, hn, hs, hB, q⟩ := h
    have hu := hu_of hr
    refine ⟨_, (pss_cons (ps_set (i := 2) sc__law_checked.nd rfl (Or.inr rfl) (pe_ix (ixL K) (pe_lst (pa_cons pe_int (pa_cons pe_int (pa_cons pe_int (pa_cons pe_int (pa_cons pe_int (pa_cons pe_int pa_nil))))))) (own_call O__law_draw hr (by first | decide | omega) (pa_cons (pv 0) (pa_cons pe_int pa_nil))) (fun _ _ => rfl)))
      (pss_cons (ps_setLc (i := 3) (own := [("_law_check", 4)]) (g := gName 4) (by rfl) sc__law_checked.nd rfl rfl (sw_true rfl rfl rfl (by decide +kernel)) (pi_list (own_call O__law_all_checks hr (by first | decide | omega) (pa_cons (pv 1) pa_nil))) (blkOk_by (own := [("_law_check", 4)]) (N := N__law_checked) (sc := defScope s__law_checked) (by decide +kernel)) (fun _ _ _ _ _ => (pg_name (i := 4) sc__law_checked.nd rfl (Or.inl rfl) (Or.inr rfl))) (fun _ _ _ _ _ => (pts_one (pt_cmpR op_lt (own_call O__law_draw hr (by first | decide | omega) (pa_cons (pv 0) (pa_cons pe_int pa_nil))) (pv 2) (nomark _)))) (fun _ _ _ _ _ => (pv 4)))
      (pss_one (ps_ret (pe_disp (pps_cons pe_str (pe_dget hu (pv 1) pe_str (fun _ _ => rfl)) (pps_cons pe_str (pe_dget hu (pv 1) pe_str (fun _ _ => rfl)) (pps_cons pe_str (pv 3) pps_nil))) (by rfl) (by rfl) (fun z => by cases z) (by decide)))))), ?_⟩
    refine ⟨(by show 6 ≤ sizeLine; decide), fun p0 hp0 => ?_⟩
    have n0 := hst.noneS hp0
    walk_at "ls"
    refine ⟨S, L, n, 6, rfl, hst.upd n0.1 n0.2, by omega, by decide, by decide, fun H1 r r0 r1 st1 od1 => ?_⟩
    obtain ⟨k, hk⟩ := share_at r0 r1
    refine ⟨_, _, _, _, rfl, rfl, .inl (.inl (od1 _ _ n0.1 n0.2 upd_same)), hk, ?_⟩
    have od1' : Old S L H H1 := (Old.new hp0).trans od1
    have hs1 := hs.old hst od1'
    walk_at "ls"
    refine ⟨S, L, b, B, ck, rfl, hs1, hB, fun H2 pm hpm h2 s2 => ?_⟩
    have hs2 := hs1.same s2
    have st2 := st1.keep s2
    have nm := st1.noneS hpm
    refine ⟨pm, rfl, ⟨_, .inl (.inl h2)⟩, fun D hD => ?_⟩
    have nD := st2.noneS hD
    have nmD : pm ≠ D := ne_of_none h2 hD
    have od2 : Old S L H H2 := od1'.trans (.same s2)
    have lm : (menu B).length ≤ 51 := by have := menu_len B; have := hB.nc; have := hB.nk3; omega
    refine lc_it (walk_list (xs := (menu B).map V.str)) (fun i H3 => ∃ cs : List Str, cs.Sublist ((menu B).take i) ∧ H3 D = some (.lst (cs.map V.str)) ∧ H3 pm = some (.lst ((menu B).map V.str)) ∧ Stm H3 S L (n + 1 + i) ∧ Old S L H H3)
      ⟨[], List.Sublist.refl _, upd_same, (by rw [upd_ne nmD]; exact h2), st2.upd nD.1 nD.2, od2.trans (.new hD)⟩ (fun i H3 _ ⟨_, _, _, h, _⟩ => .inl (.inl h)) ?_ ?_
    · rintro i x Hz H3 hi ⟨cs, hcs, h3D, h3m, st3, od3⟩ ⟨rfl, hx⟩
      obtain ⟨z, hz, rfl⟩ := map_get hx
      rw [List.length_map] at hi
      refine ⟨rfl, ?_⟩
      walk_at "ls"
      refine ⟨S, L, _, 12, rfl, st3, by omega, by decide, by decide, fun H4 u u0 u1 st4 od4 => ?_⟩
      have h4D := od4 _ _ nD.1 nD.2 h3D
      have h4m := od4 _ _ nm.1 nm.2 h3m
      walk_at "ls"
      have et : (menu B).take (i + 1) = (menu B).take i ++ [z] := by rw [List.take_add_one, hz]; rfl
      refine ite2 (fun e => ?_) (fun e => ?_)
      · walk_at "ls"
        have lcs : cs.length ≤ i := by have := hcs.length_le; rw [List.length_take] at this; omega
        refine ⟨_, h4D, (by rw [List.length_map]; exact small1000 (by omega)), cs ++ [z], ?_, ?_, ?_, (st4.mono (by omega)).upd nD.1 nD.2, (od3.trans od4).set (od2.none hD nD)⟩
        · rw [et]
          exact sub_snoc hcs
        · rw [upd_same, List.map_append]
          rfl
        · rw [upd_ne nmD]
          exact h4m
      · exact ⟨cs, (by rw [et]; exact sub_skip hcs), h4D, h4m, st4.mono (by omega), od3.trans od4⟩
    · rintro H3 ⟨cs, hcs, h3D, h3m, st3, od3⟩
      rw [List.length_map, List.take_length] at hcs
      obtain ⟨ka, ca, ea, kx, cx, hb, hka, hkt, hca, hct, hea, nk, nc, ne⟩ := hs.old hst od3
      intro p hp
      have np := st3.noneS hp
      have nbp : b ≠ p := ne_of_none hb hp
      have nDp : D ≠ p := ne_of_none h3D hp
      have hb' : (upd H3 p (.dK [])) b = _ := (upd_ne nbp).trans hb
      walk_at "ls"
      refine ⟨b, _, rfl, dg_kinds hb', ?_⟩
      walk_at "ls"
      refine ⟨b, _, rfl, dg_columns hb', ?_⟩
      walk_at "ls"
      refine ⟨upd_same, [(.inr "kinds", .ref ka), (.inr "columns", .ref ca), (.inr "checks", .ref D)], rfl, (by show 3 ≤ 15; decide), ?_⟩
      have kt : TK H3 (upd (upd H3 p (.dK [])) p (.dK (mergeK [] [(.inr "kinds", .ref ka), (.inr "columns", .ref ca), (.inr "checks", .ref D)]))) := (TK.new hp).trans (.dK upd_same)
      have hpn := od3.none hp np
      refine q _ p cs hpn hcs ⟨ka, ca, D, kx, cx, upd_same, ?_, hkt.keep kt, ?_, hct.keep kt, ?_, nk, nc, nD⟩ ((st3.mono (by rw [List.length_map]; omega)).upd np.1 np.2 |>.upd np.1 np.2) ((od3.trans (.new hp)).set hpn)
      · rw [upd_upd, upd_ne (ne_of_none hka hp)]
        exact hka
      · rw [upd_upd, upd_ne (ne_of_none hca hp)]
        exact hca
      · rw [upd_upd, upd_ne nDp]
        exact h3D
end
end Ls
namespace Ls
open PySem PySem.Spec PyProof.Rows L2 NdefX
open PySem.W (InstAt ks_superObj ksEnv mg_none_of)

/-! ### an own error over ValueError whose __init__ says super().__init__('..') ahead -/
abbrev bmVE : List Value := [.type "ValueError", .type "Exception", .type "BaseException", .type "object"]
/-- the class at C, the cell of its name, the code object of its __init__ -/
structure SupC (P : Program) (K : PySem.W.Frag) (C cc cda : Addr) : Prop where
  ox : OexC K C
  code : ∃ ccl cdd vs ccs file tf, K.lookup cda = some ⟨ccl, cdd, .fields vs, ccs⟩ ∧ vs[2]? = some (.str file tf) ∧ ((P.main.file : Str) == file) = true
  cell : ∃ cl cld csl, K.lookup cc = some ⟨cl, cld, .cell (some (.ref C)), csl⟩
  sub : PySem.W.mroIn K C (.ref C) = some true
  nsup : PySem.W.nsIn K mainGlobals "super" = some none
  opq : PySem.W.nsIn K cStatics "thirdparty.any" = some none
  sup : PySem.W.ks_superIn K C C "__init__" = some (some (.builtin "ValueError.__init__"))
  subV : PySem.W.subIn K (.ref C) (.type "ValueError") = some true
  ini : PySem.W.excInitIn K C bmVE "ValueError.__new__" = true
  top : (P.main.scope.names.lookup ("super" : Str)).isSome = false

section
variable {prog : Program} {w : World} {A : Around} {E : Value → Shared → Prop} {s : Shared} {h₀ : Heap} {L : Addr} {m mg : Str → Option Value} {K : PySem.W.Frag} {news : List (Addr × Obj)} {x C f cc cda : Addr} {ox : Obj} {odx : Option Obj}
  {body : List Stmt} {q : Str} {scope : Scope} {p0 p1 p2 p3 p4 p5 : Pos} {fd : FuncData} {ar : Arg} {oc : Value} {od : Option Addr} {osl : Array (Option Value)}
theorem sup_node {whole : Sem Value} {Q : Value → Shared → Prop} (T : SupC prog K C cc cda) (F : Fr h₀ L s.heap m) (M : Mod K mg h₀) (N : News h₀ L s.heap news)
    (hf : K.lookup f = some ⟨oc, od, .func fd, osl⟩) (hp : (fd.params.posonlyargs ++ fd.params.args).head? = some ar) (hv : m ar.arg = some (.ref x)) (I : InstAt s.heap x ox C odx)
    (hks : scope.names.lookup ("super" : Str) = some .globalImplicit) (hkc : scope.names.lookup ("__class__" : Str) = some .free) (hka : scope.names.lookup ar.arg = some .local) (hk : scope.kind = .function)
    (h : ∀ so h', Fr h₀ L h' m → News h₀ L h' ((so, ks_superObj C x C) :: news) → (∀ p ∈ news, p.1 < so) → Q (.ref so) { s with heap := h' }) :
    _root_.PySem.wpAt (model prog w) A (.func body (ksEnv q scope L f (.ref cda) cc)) (attributeBase (.Call (.Name "super" p0) [] [] p1) "__init__" (ksEnv q scope L f (.ref cda) cc) whole) Q E s := by
  have KH : K.In s.heap := M.kin.keeps F.keep
  obtain ⟨ccl, cdd, vs, ccs, file, tf, hcode, hvs, hfile⟩ := T.code
  obtain ⟨cl, cld, csl, hcell⟩ := T.cell
  obtain ⟨nm, qn, N', bs, bm, sn, sub, ab, col, dd, k0, k1, k2, k3, k5, hC, _⟩ := T.ox.cls
  obtain ⟨mb, hb, hbt⟩ := M.blt
  obtain ⟨hh, g, d, t, os⟩ := s
  have oC := KH _ _ hC
  refine ks_wpAt_super_base (env := ksEnv q scope L f (.ref cda) cc) hks hkc (by decide) rfl (KH _ _ hf) rfl hp rfl (KH _ _ hcode) rfl hvs hfile T.top ?_
  refine PySem.W.ks_loadName_global hk hks ?_
  refine Calls.loadGlobal_builtin (env := ksEnv q scope L f (.ref cda) cc) (M.glob.keeps F.keep) (mg_none_of M.kin M.glob T.nsup) (hb.keeps F.keep) ((hbt _ (by decide +kernel)).trans PyProof.Rows.Boot.«super») ⟨rfl, ?_⟩
  refine wpAny_loadName_free hk hkc rfl ⟨_, KH _ _ hcell, rfl⟩ ?_
  refine wpAny_loadName_local hk hka F.ns hv ?_
  refine ks_wpAny_isType_cls oC rfl ⟨rfl, ?_⟩
  have nc : ∀ c, ox.data ≠ .cls c := fun c e => by
    have z := I.no
    unfold PySem.W.notCls at z
    rw [e] at z
    exact Bool.noConfusion z
  refine ks_wpAny_call_super oC rfl I.at_ I.cls nc (PySem.W.looks_mroIn KH T.sub) fun h' e k => ?_
  obtain ⟨F', N', l'⟩ := PySem.W.ks_newsPush (s := ⟨hh, g, d, t, os⟩) F N rfl e k
  exact h _ _ F' N' l'
/-- how that call reads in its frame -/
def SupEv (q : Str) (scope : Scope) (f cc cda : Addr) (txt : Str) (j : Nat) (p0 p1 p2 p3 p4 : Pos) : Prop := ∀ L, ∃ pl : Sem Bool, eval (.Call (.Attribute (.Call (.Name "super" p0) [] [] p1) "__init__" p2) [.Constant (.str txt) j p3] [] p4) (ksEnv q scope L f (.ref cda) cc) = (do
  let ov ← attributeBase (.Call (.Name "super" p0) [] [] p1) "__init__" (ksEnv q scope L f (.ref cda) cc) (eval (.Call (.Name "super" p0) [] [] p1) (ksEnv q scope L f (.ref cda) cc))
  standAt p2.atName
  let (f', first) ← holding [ov] (getMethod ov "__init__" pl)
  callWith p4 f' first (backTo p4 (starEach [.Constant (.str txt) j p3] (ksEnv q scope L f (.ref cda) cc))) [])
/-- the statement super().__init__('..') -/
theorem sup_first {txt : Str} {j : Nat} {t0 : Addr} {Q : Flow → Shared → Prop} (T : SupC prog K C cc cda) (F : Fr h₀ L s.heap m) (M : Mod K mg h₀) (hx : s.heap.get? x = some (PySem.W.excObj C t0 none .none)) (xL : x ≠ L) (x0 : h₀.get? x = none)
    (hf : K.lookup f = some ⟨oc, od, .func fd, osl⟩) (hp : (fd.params.posonlyargs ++ fd.params.args).head? = some ar) (hv : m ar.arg = some (.ref x))
    (hks : scope.names.lookup ("super" : Str) = some .globalImplicit) (hkc : scope.names.lookup ("__class__" : Str) = some .free) (hka : scope.names.lookup ar.arg = some .local) (hk : scope.kind = .function)
    (hev : SupEv q scope f cc cda txt j p0 p1 p2 p3 p4) (h : ∀ h' tk t1, Fr h₀ L h' m → h'.get? x = some (PySem.W.excObj C t1 none .none) → Q .next { s with heap := h', toks := tk }) :
    _root_.PySem.wpAt (model prog w) A (.func body (ksEnv q scope L f (.ref cda) cc)) (exec (.Expr (.Call (.Attribute (.Call (.Name "super" p0) [] [] p1) "__init__" p2) [.Constant (.str txt) j p3] [] p4) p5) (ksEnv q scope L f (.ref cda) cc)) Q E s := by
  have N : News h₀ L s.heap [(x, PySem.W.excObj C t0 none .none)] := fun p hp => by
    rcases List.mem_singleton.mp hp with rfl
    exact ⟨hx, xL, x0⟩
  obtain ⟨pl, hcl⟩ := hev L
  refine ks_wpAt_Expr_any (ks_wpAt_MethodCall (pl := pl) ?_ hcl) (hi := by show (scope.kind == .module && _) = false; rw [hk]; rfl)
  refine sup_node (ox := PySem.W.excObj C t0 none .none) (odx := none) T F M N hf hp hv ⟨hx, rfl, rfl, trivial⟩ hks hkc hka hk fun so h1 F1 N1 l1 => ?_
  refine PySem.W.kxs_method PySem.W.kxs_ValueError F1 M.kin N1 (List.mem_cons_self ..) (ox := PySem.W.excObj C t0 none .none) (odx := none) ⟨(N1 _ (.tail _ (.head _))).1, rfl, rfl, trivial⟩ T.opq T.sup T.subV rfl fun u h2 F2 N2 l2 => ?_
  have xs : x ≠ so := Nat.ne_of_lt (l1 (x, PySem.W.excObj C t0 none .none) (.head _))
  have xu : x ≠ u := Nat.ne_of_lt (l2 (x, PySem.W.excObj C t0 none .none) (.tail _ (.head _)))
  refine PySem.W.kxs_callWith1 N2 (.head _) ?_
  refine Calls.spliced_cons (Calls.Constant_str (k := j) (pos := p3) (Calls.spliced_nil ⟨PySem.W.kxs_at N2 (.head _), ?_⟩))
  refine PySem.W.kxs_call F2 M.kin N2 PySem.F.excBase_ValueError T.ini (.head _) (PySem.W.UpdF.tail (Ne.symm xu) (PySem.W.UpdF.tail (Ne.symm xs) (PySem.W.UpdF.head fun p hp => nomatch hp))) (by show 1 ≤ sizeLine; rw [sizeLine_eq]; omega) fun t' h3 F3 N3 l3 => ?_
  exact h h3 _ t' F3 (N3 _ (.tail _ (.tail _ (.tail _ (.head _))))).1
end

/-- no error leaves -/
abbrev CXN : CXT := fun _ _ _ _ _ _ => False
/-- THE RULE: such an __init__ by what stands behind super().__init__('..') -/
theorem sup_fn {CX : CXT} {P : Program} {w : World} {K : PySem.W.Frag} {mg : Str → Option Value} {base : Heap} {k : Nat} {fI C cc cda : Addr} {name qual : Str} {params : Arguments} {body rest : List Stmt} {scope : Scope} {doc pm ct oc : Value}
    {od : Option Addr} {osl : Array (Option Value)} {N ps : List Str} {sp : Sp} {txt : Str} {j : Nat} {p0 p1 p2 p3 p4 p5 : Pos} {ar : Arg} (T : SupC P K C cc cda)
    (lk : K.lookup fI = some ⟨oc, od, .func (PySem.W.fnX name qual params body scope [("__class__", cc)] .none .none doc pm none (.ref cda) ct), osl⟩) (hcd : PySem.W.codeIn K (.ref cda) qual = true) (S : NScope N ps ["__class__"] scope)
    (hbd : body = .Expr (.Call (.Attribute (.Call (.Name "super" p0) [] [] p1) "__init__" p2) [.Constant (.str txt) j p3] [] p4) p5 :: rest)
    (hp : (params.posonlyargs ++ params.args).head? = some ar) (ha : ps[0]? = some ar.arg) (hks : scope.names.lookup ("super" : Str) = some .globalImplicit) (hev : SupEv qual scope fI cc cda txt j p0 p1 p2 p3 p4)
    (len : ∀ vs H Q E, sp vs H Q E → vs.length = ps.length)
    (self : ∀ vs H Q E, sp vs H Q E → ∃ a, vs[0]? = some (.ref a) ∧ H a = some (exo a C none))
    (hbody : ∀ (A : Around) (outer : List Env) (s : Shared) (H : Hp) (vs : List V) (Q : VK) (E : XK), sp vs H Q E →
      ∃ t, PSs (ncx CXN P w K mg base N ⟨name, qual, params, body, scope, [("__class__", cc)], cda⟩ fI A outer s H E) rest t ∧ t { nx := fun _ H' => Q .non H', rt := Q } (startF N vs [some (.ref C)]) H) :
    FnOk P w K mg base CX (k + 1) fI (PySem.W.fnX name qual params body scope [("__class__", cc)] .none .none doc pm none (.ref cda) ct) ps sp := by
  refine ⟨len, fun A outer s H args us vs Q E hr e0 hb r hsp => ?_⟩
  have hl := len _ _ _ _ hsp
  obtain ⟨a, hv0, hHa⟩ := self _ _ _ _ hsp
  obtain ⟨u0, hu0, ru0⟩ := r.get hv0
  obtain rfl : u0 = Value.ref a := ru0
  have bk : ∀ b o, base.get? b = some o → s.heap.get? b = some o := fun b o e => (e0.bs b o e).1
  have KX : K.In s.heap := e0.mod.kin.keeps bk
  have lim : s.heap.NoLimit := e0.mod.nolimit.keeps bk
  obtain ⟨t1, hoa⟩ := exo_at e0.hok hHa
  obtain ⟨cl, cld, csl, hcell⟩ := T.cell
  have C0 : CellsAt [("__class__", cc)] ["__class__"] [some (.ref C)] s.heap H := {
    len := rfl
    all := fun y c e => by
      have z : y = "__class__" ∧ c = cc := by
        by_cases hy : y = ("__class__" : Str)
        · subst hy
          simp [List.lookup] at e
          exact ⟨rfl, e.symm⟩
        · have e2 : (y == ("__class__" : Str)) = false := by simpa using hy
          simp [List.lookup, e2] at e
      obtain ⟨_, rfl⟩ := z
      refine ⟨?_, _, _, KX _ _ hcell, rfl⟩
      exact (e0.bs _ _ (e0.mod.kin _ _ hcell)).2
    inj := fun x y c e1 e2 => by
      have one : ∀ {y : Str}, List.lookup y [(("__class__" : Str), cc)] = some c → y = "__class__" := fun {y} e => by
        by_cases hy : y = ("__class__" : Str)
        · exact hy
        · have e2 : (y == ("__class__" : Str)) = false := by simpa using hy
          simp [List.lookup, e2] at e
      rw [one e1, one e2]
    has := fun i y e => by
      cases i with
      | succ i => simp at e
      | zero =>
        simp at e
        subst e
        refine ⟨cc, by simp [List.lookup], fun v hv => ?_⟩
        simp at hv
        subst hv
        exact ⟨.ref C, rfl, _, KX _ _ hcell, rfl⟩ }
  refine codeAny_call_function hr.depth (KX _ _ lk) rfl S.co S.gen rfl (PySem.W.codeRec_of KX hcd) (hb _ _ _ _ ?_)
  refine wpAny_newFunctionEnv S.nocell (fun ⟨n, _⟩ hy => S.par n (List.of_mem_zip hy).1) (fun h₁ hns hsb => ⟨lim.fresh _ hsb, ?_⟩) S.kind
  have kp : ∀ b o, s.heap.get? b = some o → h₁.get? b = some o := fun b o e => hsb.extBut b o (Nat.ne_of_lt (Heap.lt_size e)) (Heap.get?_push_of_some _ e)
  obtain ⟨t, ht, hq⟩ := hbody A outer s H vs Q E hsp
  have I1 : Inv (ncx CXN P w K mg base N ⟨name, qual, params, body, scope, [("__class__", cc)], cda⟩ fI A outer s H E) [] (startF N vs [some (.ref C)]) H { s with heap := h₁, toks := s.toks + (ps.zip us).length } := inv_startN S hr.hd e0 hl r C0 hns kp
  have aL : a ≠ s.heap.objs.size := Nat.ne_of_lt (Heap.lt_size hoa)
  have hid : ∀ b o, (PySem.W.hideAll s.heap [a]).get? b = some o → s.heap.get? b = some o := fun b o e => PySem.W.of_hideAll _ e
  have G0 : ∀ b o, base.get? b = some o → (PySem.W.hideAll s.heap [a]).get? b = some o := fun b o e => PySem.W.hideAll_get _ (bk b o e) fun z => by
    have z' := List.mem_singleton.mp z
    subst z'
    rw [(e0.bs _ _ e).2] at hHa
    cases hHa
  have M0 : Mod K mg (PySem.W.hideAll s.heap [a]) := ⟨e0.mod.kin.keeps G0, e0.mod.glob.keeps G0, by
    obtain ⟨mb, hb, hbt⟩ := e0.mod.blt
    exact ⟨mb, hb.keeps G0, hbt⟩, e0.mod.nolimit.keeps G0⟩
  have ndP : ps.Nodup := by
    have q := S.nd.sublist (List.take_sublist (ps.length + [("__class__" : Str)].length) N)
    rw [S.pre] at q
    exact (List.nodup_append.mp q).1
  have F1 : Fr (PySem.W.hideAll s.heap [a]) s.heap.objs.size h₁ (fun y => (ps.zip us).reverse.lookup y) := ⟨hns, fun b o e => kp _ _ (hid _ _ e), Nat.le_of_eq (PySem.W.hideAll_size _ _)⟩
  show codeAny _ _ (.func body (envF ⟨name, qual, params, body, scope, [("__class__", cc)], cda⟩ fI s.heap.objs.size)) _ _
  refine ks_codeAny_funcAt ?_
  show _root_.PySem.wpAt _ _ (.func body (ksEnv qual scope s.heap.objs.size fI (.ref cda) cc)) (execs body (ksEnv qual scope s.heap.objs.size fI (.ref cda) cc)) _ _ _
  have hbx : execs body (ksEnv qual scope s.heap.objs.size fI (.ref cda) cc) = execs (.Expr (.Call (.Attribute (.Call (.Name "super" p0) [] [] p1) "__init__" p2) [.Constant (.str txt) j p3] [] p4) p5 :: rest) (ksEnv qual scope s.heap.objs.size fI (.ref cda) cc) := by rw [hbd]
  rw [hbx]
  refine ks_wpAt_execs_cons ?_
  refine sup_first (x := a) T F1 M0 (kp _ _ hoa) aL (PySem.W.hideAll_none _ (List.mem_singleton.mpr rfl)) lk hp (zip_look ndP ha hu0) hks (S.frk _ (List.mem_singleton.mpr rfl)) (S.par _ (List.mem_of_getElem? ha)) S.kind hev fun h3 tk t3 F3 hx3 => ?_
  have k3 : ∀ b o, b ≠ a → s.heap.get? b = some o → h3.get? b = some o := fun b o hb e => F3.keep _ _ (PySem.W.hideAll_get _ e fun z => hb (List.mem_singleton.mp z))
  have old : ∀ b o, b ≠ s.heap.objs.size → h₁.get? b = some o → s.heap.get? b = some o := fun b o hb e => by
    exact (Heap.get?_push_ne _ _ _ hb).symm.trans ((hsb.2 b hb).symm.trans e)
  have na : ∀ {b : Addr}, H b = none → b ≠ a := fun {b} n z => by
    rw [z, hHa] at n
    cases n
  have eu : upd H a (exo a C none) = H := by
    funext b
    by_cases hb : b = a
    · rw [hb, upd_same, hHa]
    · rw [upd_ne hb]
  have hok3 : HOk P w H h3 := by
    have z := e0.hok.write (x := a) (e := a) (o' := exo a C none) (h' := h3) (by rw [hHa]; exact True.intro) (.inl rfl) k3 ⟨_, hx3⟩ (exo_ok hx3)
    rw [eu] at z
    exact z
  have I3 : Inv (ncx CXN P w K mg base N ⟨name, qual, params, body, scope, [("__class__", cc)], cda⟩ fI A outer s H E) [] (startF N vs [some (.ref C)]) H { s with heap := h3, toks := tk } := by
    refine Inv.step (s := { s with heap := h₁, toks := s.toks + (ps.zip us).length }) (h' := h3) I1 (g' := s.gens) (d' := s.drawn) (t' := tk) (ch := []) (fun _ z => nomatch z) (fun b o hL _ _ e n => k3 b o (na n) (old b o hL e)) (fun b o hL _ _ e n => ⟨o.slots, k3 b o (na n) (old b o hL e)⟩) (fun _ _ _ _ n => n) (fun b o _ e => ?_)
      (fun _ _ z => z) (fun _ _ _ z => z) (fun b ps z => ⟨#[], by rw [z]; simp⟩) (fun m hm => ?_) hok3 e0.bare
    · by_cases hL : b = s.heap.objs.size
      · obtain ⟨o', _, _, q, _⟩ := F3.ns
        exact ⟨o', by rw [hL]; exact q⟩
      · by_cases hb : b = a
        · exact ⟨_, by rw [hb]; exact hx3⟩
        · exact ⟨o, k3 b o hb (old b o hL e)⟩
    · have q : m = fun y => (ps.zip us).reverse.lookup y := funext fun y => Heap.Ns.agree (show h₁.Ns s.heap.objs.size m from hm) hns y
      rw [q]
      exact F3.ns
  refine wpAt_of_wpAny ?_
  refine wpAny_mono (ht.run [] _ (startF N vs [some (.ref C)]) H _ I3 hq) (fun fl s' hs => ?_) fun e s' hs => ?_
  · have fin : ∀ {σ' : L2.St} {H' : Hp} {v : V} {u : Value}, Inv (ncx CXN P w K mg base N ⟨name, qual, params, body, scope, [("__class__", cc)], cda⟩ fI A outer s H E) [] σ' H' s' → L2.RelV v u → Q v H' → CE outer P w H s Q u s' :=
      fun {σ' H' v u} J rv q => ⟨v, H', J.os, J.bare, J.base, J.hok, rv, q⟩
    cases fl with
    | ret u =>
      obtain ⟨v, σ', H', J, rv, q⟩ := hs
      exact fin J rv q
    | next =>
      obtain ⟨σ', H', J, q⟩ := hs
      exact fin (v := V.non) (u := Value.none) J rfl q
    | brk =>
      obtain ⟨_, _, _, q⟩ := hs
      exact False.elim q
    | cont =>
      obtain ⟨_, _, _, q⟩ := hs
      exact False.elim q
  · exact wpAny_mono hs (fun _ _ z => z.elim) fun _ _ z => z.elim
end Ls
namespace Ls
open PySem PySem.Spec PyProof.Rows L2 NdefX
open PySem.W (ksEnv)

/-! ### the texts of such __init__ -/
/-- self.f = f -/
def StoreSt (f : Str) (st : Stmt) : Prop := (∃ p p' p'' pos, st = .Assign [.Attribute (.Name "self" p) f p'] (.Name f p'') pos) ∧ (f == ("__debug__" : Str)) = false ∧ (f == ("__classdict__" : Str)) = false
def Stores : List Str → List Stmt → Prop
  | [], [] => True
  | f :: fs, st :: r => StoreSt f st ∧ Stores fs r
  | _, _ => False
/-- what is asked of the text st of an own error's __init__ with the fields fs -/
structure ErrTx (st : Stmt) (qual : Str) (fs : List Str) : Prop where
  nsc : NScope (("self" : Str) :: (fs ++ [("__class__" : Str)])) (("self" : Str) :: fs) [("__class__" : Str)] (defScope st)
  hsup : (defScope st).names.lookup ("super" : Str) = some .globalImplicit
  par : ∃ ar, ((defArgs st).posonlyargs ++ (defArgs st).args).head? = some ar ∧ ar.arg = "self"
  body : ∃ (txt : Str) (j : Nat) (p0 p1 p2 p3 p4 p5 : Pos) (rest : List Stmt), defBody st = .Expr (.Call (.Attribute (.Call (.Name "super" p0) [] [] p1) "__init__" p2) [.Constant (.str txt) j p3] [] p4) p5 :: rest ∧ Stores fs rest ∧
    ∀ f cc cda, SupEv qual (defScope st) f cc cda txt j p0 p1 p2 p3 p4
  bind : ∀ (cc cda : Addr) (doc pm ct : Value) (us : List Value), us.length = (("self" : Str) :: fs).length → bindArgs (PySem.W.fnX "__init__" qual (defArgs st) (defBody st) (defScope st) [("__class__", cc)] .none .none doc pm none (.ref cda) ct) ⟨us, []⟩ = pure ((("self" : Str) :: fs).zip us)

/-! ### what they promise -/
/-- an exception of C at a, its dict (fields fs) at d -/
def exoD (H : Hp) (a C d : Addr) (fs : List (Str × V)) : Hp := upd (upd H d (exd d fs)) a (exo a C (some d))
def spI0 (C : Addr) : Sp := fun vs H Q _ => ∃ a, vs = [.ref a] ∧ H a = some (exo a C none) ∧ Q .non H
def spI1 (C : Addr) (f : Str) : Sp := fun vs H Q _ => ∃ a v, vs = [.ref a, v] ∧ H a = some (exo a C none) ∧ ∀ d, H d = none → d ≠ a → Q .non (exoD H a C d [(f, v)])
def spI2 (C : Addr) (f g : Str) : Sp := fun vs H Q _ => ∃ a v w, vs = [.ref a, v, w] ∧ H a = some (exo a C none) ∧ ∀ d, H d = none → d ≠ a → Q .non (exoD H a C d [(g, w), (f, v)])

section
variable {CX : CXT} {P : Program} {w : World} {K : PySem.W.Frag} {mg : Str → Option Value} {base : Heap} {fI C cc cda : Addr} {st : Stmt} {qual f g : Str} {doc pm ct oc : Value} {od : Option Addr} {osl : Array (Option Value)}
theorem err_fn0 (T : SupC P K C cc cda) (Tx : ErrTx st qual [])
    (lk : K.lookup fI = some ⟨oc, od, .func (PySem.W.fnX "__init__" qual (defArgs st) (defBody st) (defScope st) [("__class__", cc)] .none .none doc pm none (.ref cda) ct), osl⟩) (hcd : PySem.W.codeIn K (.ref cda) qual = true) :
    FnOk P w K mg base CX 1 fI (PySem.W.fnX "__init__" qual (defArgs st) (defBody st) (defScope st) [("__class__", cc)] .none .none doc pm none (.ref cda) ct) ["self"] (spI0 C) := by
  obtain ⟨txt, j, p0, p1, p2, p3, p4, p5, rest, hb, hst, hev⟩ := Tx.body
  obtain ⟨ar, hp, ha⟩ := Tx.par
  refine sup_fn (N := ["self", "__class__"]) T lk hcd Tx.nsc hb hp (by rw [ha]; rfl) Tx.hsup (hev _ _ _) (fun vs H Q E ⟨a, e, _⟩ => by rw [e]; rfl) (fun vs H Q E ⟨a, e, h, _⟩ => ⟨a, by rw [e]; rfl, h⟩) fun A outer s H vs Q E ⟨a, e, h, q⟩ => ?_
  cases rest with
  | nil => exact ⟨_, pss_nil, q⟩
  | cons x r => exact hst.elim
theorem err_fn1 (T : SupC P K C cc cda) (Tx : ErrTx st qual [f]) (hno : PySem.W.findIn K (.ref C) f = some none)
    (lk : K.lookup fI = some ⟨oc, od, .func (PySem.W.fnX "__init__" qual (defArgs st) (defBody st) (defScope st) [("__class__", cc)] .none .none doc pm none (.ref cda) ct), osl⟩) (hcd : PySem.W.codeIn K (.ref cda) qual = true) :
    FnOk P w K mg base CX 1 fI (PySem.W.fnX "__init__" qual (defArgs st) (defBody st) (defScope st) [("__class__", cc)] .none .none doc pm none (.ref cda) ct) ["self", f] (spI1 C f) := by
  obtain ⟨txt, j, p0, p1, p2, p3, p4, p5, rest, hb, hst, hev⟩ := Tx.body
  obtain ⟨ar, hp, ha⟩ := Tx.par
  refine sup_fn (N := ["self", f, "__class__"]) T lk hcd Tx.nsc hb hp (by rw [ha]; rfl) Tx.hsup (hev _ _ _) (fun vs H Q E ⟨a, v, e, _⟩ => by rw [e]; rfl) (fun vs H Q E ⟨a, v, e, h, _⟩ => ⟨a, by rw [e]; rfl, h⟩) fun A outer s H vs Q E ⟨a, v, e, h, q⟩ => ?_
  subst e
  match rest, hst with
  | [x], hst =>
    obtain ⟨⟨⟨q1, q2, q3, q4, rfl⟩, d1, d2⟩, _⟩ := hst
    refine ⟨_, pss_one (ps_ost (pe_var (i := 0) rfl (.inl (Tx.nsc.par _ (List.mem_cons_self ..)))) (pe_var (i := 1) rfl (.inl (Tx.nsc.par _ (.tail _ (.head _)))) d1 d2)), ?_⟩
    exact ⟨v, rfl, .ref a, rfl, a, C, rfl, T.ox, hno, .inl ⟨h, fun dx n ne => q dx n ne⟩⟩
  | [], hst => exact hst.elim
  | _ :: _ :: _, hst => exact hst.2.elim
theorem err_fn2 (T : SupC P K C cc cda) (Tx : ErrTx st qual [f, g]) (hno : PySem.W.findIn K (.ref C) f = some none) (hno2 : PySem.W.findIn K (.ref C) g = some none)
    (lk : K.lookup fI = some ⟨oc, od, .func (PySem.W.fnX "__init__" qual (defArgs st) (defBody st) (defScope st) [("__class__", cc)] .none .none doc pm none (.ref cda) ct), osl⟩) (hcd : PySem.W.codeIn K (.ref cda) qual = true) :
    FnOk P w K mg base CX 1 fI (PySem.W.fnX "__init__" qual (defArgs st) (defBody st) (defScope st) [("__class__", cc)] .none .none doc pm none (.ref cda) ct) ["self", f, g] (spI2 C f g) := by
  obtain ⟨txt, j, p0, p1, p2, p3, p4, p5, rest, hb, hst, hev⟩ := Tx.body
  obtain ⟨ar, hp, ha⟩ := Tx.par
  refine sup_fn (N := ["self", f, g, "__class__"]) T lk hcd Tx.nsc hb hp (by rw [ha]; rfl) Tx.hsup (hev _ _ _) (fun vs H Q E ⟨a, v, u, e, _⟩ => by rw [e]; rfl) (fun vs H Q E ⟨a, v, u, e, h, _⟩ => ⟨a, by rw [e]; rfl, h⟩) fun A outer s H vs Q E ⟨a, v, u, e, h, q⟩ => ?_
  subst e
  match rest, hst with
  | [x, y], hst =>
    obtain ⟨⟨⟨q1, q2, q3, q4, rfl⟩, d1, d2⟩, ⟨⟨q5, q6, q7, q8, rfl⟩, d3, d4⟩, _⟩ := hst
    refine ⟨_, pss_cons (ps_ost (pe_var (i := 0) rfl (.inl (Tx.nsc.par _ (List.mem_cons_self ..)))) (pe_var (i := 1) rfl (.inl (Tx.nsc.par _ (.tail _ (.head _)))) d1 d2))
      (pss_one (ps_ost (pe_var (i := 0) rfl (.inl (Tx.nsc.par _ (List.mem_cons_self ..)))) (pe_var (i := 2) rfl (.inl (Tx.nsc.par _ (.tail _ (.tail _ (.head _))))) d3 d4))), ?_⟩
    refine ⟨v, rfl, .ref a, rfl, a, C, rfl, T.ox, hno, .inl ⟨h, fun dx n ne => ?_⟩⟩
    refine ⟨u, rfl, .ref a, rfl, a, C, rfl, T.ox, hno2, .inr ⟨dx, [(f, v)], upd_same, (upd_ne ne).trans upd_same, Nat.le_of_ble_eq_true rfl, ?_⟩⟩
    have e : upd (upd (upd H dx (exd dx [(f, v)])) a (exo a C (some dx))) dx (exd dx [(g, u), (f, v)]) = exoD H a C dx [(g, u), (f, v)] := by
      funext b
      unfold exoD
      by_cases hb : b = dx
      · subst hb
        rw [upd_same, upd_ne ne, upd_same]
      · rw [upd_ne hb]
        by_cases h2 : b = a
        · subst h2
          rw [upd_same, upd_same]
        · rw [upd_ne h2, upd_ne h2, upd_ne hb, upd_ne hb]
    show Q _ (upd (upd (upd H dx (exd dx [(f, v)])) a (exo a C (some dx))) dx (exd dx [(g, u), (f, v)]))
    rw [e]
    exact q dx n ne
  | [], hst => exact hst.elim
  | [_], hst => exact hst.2.elim
  | _ :: _ :: _ :: _, hst => exact hst.2.2.elim
end
end Ls
namespace Ls
open PySem PySem.Spec PyProof.Rows L2 NdefX

/-! ### a class of own errors -/
/-- x names the class at C, its fields fs, sp what its __init__ promises -/
structure OwnX (P : Program) (w : World) (K : PySem.W.Frag) (mg : Str → Option Value) (base : Heap) (x : Str) (fs : List Str) (sp : Sp) (C : Addr) : Prop where
  ox : OexC K C
  xf : XfC K C
  gl : mg x = some (.ref C)
  nof : ∀ f ∈ fs, PySem.W.findIn K (.ref C) f = some none
  ini : ∃ (fI : Addr) (fd : FuncData), PySem.W.findIn K (.ref C) "__init__" = some (some (.ref fI)) ∧ PySem.W.typeIn K (.ref fI) = some (.type "function") ∧ FnOk P w K mg base CX0 1 fI fd (("self" : Str) :: fs) sp ∧ Binds K fd (("self" : Str) :: fs) []

/-- a reading of arguments that may be weakened -/
def upA (ta : TA) : TA := fun σ H Q => ∃ Q' : List V → Hp → Prop, ta σ H Q' ∧ ∀ vs H', Q' vs H' → Q vs H'
section
variable {X : Cx} {x f g : Str} {C : Addr} {fs : List Str} {sp : Sp} {e : Expr} {es : List Expr} {ta : TA} {p pos : Pos}
theorem pa_up (h : PA X es ta) : PA X es (upA ta) := ⟨fun pos pins s σ H Q I ⟨Q', h', k⟩ => thn (h.run pos pins s σ H Q' I h') fun us s1 ⟨vs, H1, I1, r, q⟩ => ⟨vs, H1, I1, r, k _ _ q⟩⟩
theorem pmk_imp {t t' : L2.St → Hp → XK → Prop} (h : PMk X e t) (i : ∀ σ H Q, t' σ H Q → t σ H Q) : PMk X e t' := fun pins s σ H Q I q => h pins s σ H Q I (i _ _ _ q)
theorem pass0E {E : XK} : Passes CX0 X E := fun _ _ _ _ _ _ _ h => h.elim
theorem exoD_end {H : Hp} {a d : Addr} {l : List (Str × V)} (ha : H a = none) : upd (del (exoD (upd H a (exo a C none)) a C d l) a) d (.xd l) = upd H d (.xd l) := by
  funext b
  by_cases hb : b = d
  · rw [hb, upd_same, upd_same]
  · rw [upd_ne hb, upd_ne hb]
    by_cases h2 : b = a
    · rw [h2, del_same, ha]
    · unfold exoD
      rw [del_ne h2, upd_ne h2, upd_ne hb, upd_ne h2]
def tErr1 (C : Addr) (f : Str) (ta : TA) : L2.St → Hp → XK → Prop := fun σ H Q => ta σ H fun vs H1 => ∃ v, vs = [v] ∧ ∀ d, H1 d = none → Q (.ref C) (some d) (upd H1 d (.xd [(f, v)]))
def tErr2 (C : Addr) (f g : Str) (ta : TA) : L2.St → Hp → XK → Prop := fun σ H Q => ta σ H fun vs H1 => ∃ v w, vs = [v, w] ∧ ∀ d, H1 d = none → Q (.ref C) (some d) (upd H1 d (.xd [(g, w), (f, v)]))
def tErr0 (C : Addr) : L2.St → Hp → XK → Prop := fun _ H Q => Q (.ref C) none H
theorem xd_of {H : Hp} {a d : Addr} {l : List (Str × V)} : exoD H a C d l a = some (exo a C (some d)) := upd_same
/-- x(e) -/
theorem pmk_err1 (O : OwnX X.prog X.w X.K X.mg X.base x [f] (spI1 C f) C) (hr : Room 2 X.A) (ha : PA X [e] ta) (hg : Gl X x := by rfl) (hdb : (x == ("__debug__" : Str)) = false := by decide)
    (he : starEach [e] X.env = (false, eval e X.env) :: starEach [] X.env := by rfl) : PMk X (.Call (.Name x p) [e] [] pos) (tErr1 C f ta) := by
  obtain ⟨fI, fd, iC, tI, F1, hb⟩ := O.ini
  refine pmk_imp (pmk_oex O.ox iC tI F1 hr hb .nil pass0E hg O.gl (pa_up ha) hdb he rfl) fun σ H Q q => ?_
  refine ⟨_, q, fun vs H1 ⟨v, ev, k⟩ => ?_⟩
  subst ev
  refine ⟨Nat.le_of_ble_eq_true rfl, fun a ha => ⟨a, v, rfl, upd_same, fun d hd hda => ⟨rfl, d, [(f, v)], xd_of, ?_, ?_, ?_⟩⟩⟩
  · unfold exoD
    rw [upd_ne hda, upd_same]
  · rw [upd_ne hda] at hd
    exact hd
  · rw [exoD_end ha]
    rw [upd_ne hda] at hd
    exact k d hd
/-- x(e, e2) -/
theorem pmk_err2 {e2 : Expr} (O : OwnX X.prog X.w X.K X.mg X.base x [f, g] (spI2 C f g) C) (hr : Room 2 X.A) (ha : PA X [e, e2] ta) (hg : Gl X x := by rfl) (hdb : (x == ("__debug__" : Str)) = false := by decide)
    (he : starEach [e, e2] X.env = (false, eval e X.env) :: starEach [e2] X.env := by rfl) (hpl : (backTo pos (starEach [e2] X.env)).any (·.1) = false := by rfl) : PMk X (.Call (.Name x p) [e, e2] [] pos) (tErr2 C f g ta) := by
  obtain ⟨fI, fd, iC, tI, F1, hb⟩ := O.ini
  refine pmk_imp (pmk_oex O.ox iC tI F1 hr hb .nil pass0E hg O.gl (pa_up ha) hdb he hpl) fun σ H Q q => ?_
  refine ⟨_, q, fun vs H1 ⟨v, w, ev, k⟩ => ?_⟩
  subst ev
  refine ⟨Nat.le_of_ble_eq_true rfl, fun a ha => ⟨a, v, w, rfl, upd_same, fun d hd hda => ⟨rfl, d, [(g, w), (f, v)], xd_of, ?_, ?_, ?_⟩⟩⟩
  · unfold exoD
    rw [upd_ne hda, upd_same]
  · rw [upd_ne hda] at hd
    exact hd
  · rw [exoD_end ha]
    rw [upd_ne hda] at hd
    exact k d hd
/-- the end of x(): the exception, which has no dict, is let go -/
theorem mk_endN {pins : List (Addr × Obj)} {σ : L2.St} {H1 : Hp} {Q : XK} {hp hp2 h2 : Heap} {g1 g2 : Array GenState} {d1 d2 : Drawn} {t1 t2 : Nat} {os1 os2 : OsState} {a : Addr} (T : Raises X (.ref C)) (I1 : Inv X pins σ H1 ⟨hp, g1, d1, t1, os1⟩)
    (ha : hp.objs.size ≤ a) (k : ∀ b o, hp.get? b = some o → hp2.get? b = some o) (un : Un (frs X.stack) [] (upd H1 a (exo a C none)) (upd H1 a (exo a C none)) hp2 h2) (hok : HOk X.prog X.w (upd H1 a (exo a C none)) h2) (ho : os2 = os1) (hb : AllBare g2)
    (q : Q (.ref C) none H1) : MkP X pins σ Q (.ref a) ⟨h2, g2, d2, t2, os2⟩ := by
  obtain ⟨t0, hoe⟩ := exo_at (e := a) (C := C) (d := none) hok upd_same
  have hn : H1 a = none := I1.hok.fresh ha
  obtain ⟨G, g1', g2'⟩ := restrict h2 fun b => decide (b ≠ a)
  have gk : ∀ b, b ≠ a → G.get? b = h2.get? b := fun b hb => g1' b (decide_eq_true hb)
  have ge : G.get? a = none := g2' a (by simp)
  have nha : ∀ {b : Addr} {o : Obj}, hp.get? b = some o → b ≠ a := fun {b o} z => Nat.ne_of_lt (Nat.lt_of_lt_of_le (Heap.lt_size z) ha)
  have up : ∀ {b : Addr}, b ≠ a → H1 b = none → upd H1 a (exo a C none) b = none := fun {b} hb n => by rw [upd_ne hb]; exact n
  have U : Un (frs X.stack) [] H1 H1 hp G := {
    keep := fun b o z n hf hx => by
      rw [gk b (nha z)]
      exact un.keep b o (k b o z) (up (nha z) n) hf hx
    slot := fun b o z n hf hx => by
      rw [gk b (nha z)]
      exact un.slot b o (k b o z) (up (nha z) n) hf hx
    free := fun b o z n hx => n
    there := fun b o z hx => by
      rw [gk b (nha z)]
      exact un.there b o (k b o z) hx
    tups := fun b xs z => z
    frzs := fun b o v z => z
    tbls := fun b ps z => ⟨#[], by rw [z]; simp⟩ }
  have hok3 : HOk X.prog X.w H1 G := fun b o z => by
    have hba : b ≠ a := fun e => by
      rw [e, hn] at z
      cases z
    have z2 : upd H1 a (exo a C none) b = some o := (upd_ne hba).trans z
    have noa : ∀ {c : Addr}, upd H1 a (exo a C none) c = some (.own b) → c ≠ a := fun {c} hc e => by
      rw [e, upd_same] at hc
      exact exo_own (Option.some.inj hc)
    exact (hok b o z2).stay (fun c v hc y => by
        have hca : c ≠ a := by
          rcases hc with hc | hc
          · rw [hc]
            exact hba
          · exact noa hc
        rw [gk c hca]
        exact y)
      (fun c hc => by rw [upd_ne (noa hc)] at hc; exact hc) (fun c xs hc => by
        have hca : c ≠ a := fun e => by
          rw [e, upd_same] at hc
          exact exo_tup (Option.some.inj hc)
        rw [upd_ne hca] at hc
        exact hc)
  have J : Inv X pins σ H1 ⟨G, g2, d2, t2, os2⟩ := I1.call' (ch := []) ho U hok3 hb (fun b z => absurd z (by simp))
  refine ⟨a, _, _, ⟨G, g2, d2, t2, os2⟩, H1, .ref C, none, rfl, J, fun b o z => ?_, ge, hoe, ⟨rfl, rfl⟩, rfl, rfl, hn, rfl, hb, T, q⟩
  by_cases hba : b = a
  · rw [hba, ge] at z
    cases z
  · exact (gk b hba).symm.trans z
/-- x() -/
theorem pmk_err0 (O : OwnX X.prog X.w X.K X.mg X.base x [] (spI0 C) C) (hr : Room 2 X.A) (hg : Gl X x := by rfl) (hdb : (x == ("__debug__" : Str)) = false := by decide) : PMk X (.Call (.Name x p) [] [] pos) (tErr0 C) := by
  obtain ⟨fI, fd, iC, tI, F1, hb⟩ := O.ini
  intro pins s σ H Q I h
  obtain ⟨nm, q, N, bs, bm, sn, sub, ab, col, dd, k0, k1, k2, k3, k5, hC, hbm⟩ := O.ox.cls
  refine wpAny_Call_Name_kw (ld_glob I hg O.gl ?_ hdb)
  refine PySem.W.callWith_K0 I.kIn O.ox.kC ?_
  show wpAny _ _ (call (.ref C) []) _ _ _
  obtain ⟨hp, g, dr, tk, os⟩ := s
  have hsz : hp.objs.size ≤ hp.objs.size + 1 := Nat.le_succ _
  have hn : H (hp.objs.size + 1) = none := I.hok.fresh hsz
  have kk : ∀ b o, hp.get? b = some o → ((hp.push (PySem.W.kdv_tup [])).push (PySem.HandSPX.excO C hp.objs.size)).get? b = some o := fun b o e => Heap.get?_push_of_some _ (Heap.get?_push_of_some _ e)
  have hget : ((hp.push (PySem.W.kdv_tup [])).push (PySem.HandSPX.excO C hp.objs.size)).get? (hp.objs.size + 1) = some (PySem.HandSPX.excO C hp.objs.size) := by heap_get
  have I2 : Inv X pins σ (upd H (hp.objs.size + 1) (exo (hp.objs.size + 1) C none)) ⟨(hp.push (PySem.W.kdv_tup [])).push (PySem.HandSPX.excO C hp.objs.size), g, dr, tk, os⟩ :=
    I.laid (t' := tk) (a := hp.objs.size + 1) (o := exo (hp.objs.size + 1) C none) (h' := (hp.push (PySem.W.kdv_tup [])).push (PySem.HandSPX.excO C hp.objs.size)) kk hsz (exo_ok hget)
  have r2 : Vals [V.ref (hp.objs.size + 1)] [Value.ref (hp.objs.size + 1)] := .cons rfl .nil
  have hq : spI0 C [V.ref (hp.objs.size + 1)] (upd H (hp.objs.size + 1) (exo (hp.objs.size + 1) C none)) (fun v H2 => v = .non ∧ H2 = upd H (hp.objs.size + 1) (exo (hp.objs.size + 1) C none)) (fun _ _ _ => False) := ⟨_, rfl, upd_same, rfl, rfl⟩
  refine wpAny_call (PySem.HandSPX.call_own F.excBase_ValueError (fun Y => PySem.HandSPX.refsVE_contains Y bm hbm) (I.kIn _ _ hC) (PySem.W.looks_findIn I.kIn iC) (fun self => PySem.W.bind_fn I.kIn self tI) (Nat.zero_le _)
    (codeAny_mono (F1.run _ X.stack _ _ ⟨[Value.ref (hp.objs.size + 1)], []⟩ [Value.ref (hp.objs.size + 1)] _ _ (fun _ _ _ => False) ((hr.mono (by omega : 2 ≤ 2)).make C [] [] |>.mono (Nat.le_refl _)) (I2.env0.make C [] []) (hb _ [Value.ref (hp.objs.size + 1)] I2.kIn rfl) r2 hq) fun r s' hq' => ?_))
  cases r with
  | error er => exact hq'.elim
  | ok fl =>
    cases fl with
    | ret u =>
      obtain ⟨v, H2, os2, bare2, un2, hok2, rv, ev, eH⟩ := hq'
      subst ev
      subst eH
      obtain ⟨h2, g2, d2, t2, os'⟩ := s'
      exact ⟨rv, mk_endN (raises_own O.ox.exC O.ox.tyC) I hsz kk un2 hok2 os2 bare2 h⟩
    | next => exact False.elim hq'
    | brk => exact False.elim hq'
    | cont => exact False.elim hq'
end
end Ls
namespace Ls
open PySem PySem.Spec PyProof.Rows L2

/-! ### several clauses «except X as e» -/
/-- the ends of a suite behind which the name at slot i goes -/
def asEnds (D : Ends) (i : Nat) : Ends := { nx := fun σ' H' => D.nx (σ'.set i none) H', rt := D.rt, bk := fun σ' H' => D.bk (σ'.set i none) H', ct := fun σ' H' => D.ct (σ'.set i none) H' }
/-- a clause: its class, its name's slot, its suite -/
structure AsCl where
  c : Value
  i : Nat
  ts : Addr → Value → Option Addr → TS
/-- what the clauses wish of an exception of the body -/
def wAsM (K : PySem.W.Frag) (Wout : WX) (D : Ends) : List AsCl → WX
  | [] => Wout
  | q :: r => fun cls d σ H => ∃ b, PySem.W.exmOne K cls q.c = some b ∧ (b = true → ∀ a, H a = none → q.ts a cls d (asEnds D q.i) (σ.set q.i (some (.ref a))) H) ∧ (b = false → wAsM K Wout D r cls d σ H)
inductive AsOk (X : Cx) : List ExceptHandler → List AsCl → Prop
  | nil : AsOk X [] []
  | cons {x n : Str} {q : AsCl} {st : Stmt} {sts : List Stmt} {p1 p2 : Pos} {hds : List ExceptHandler} {l : List AsCl} (hi : X.N[q.i]? = some n) (hl : X.env.kindOf n = some .local) (hc : Names X x q.c)
      (hsu : ∀ (a : Addr) (oe : Obj) (cls : Value) (d : Option Addr) (pn : List (Addr × Obj)), Zc cls d oe → (∃ vs, oe.data = .fields vs) → PSs (X.suite a ((a, oe) :: pn)) (st :: sts) (q.ts a cls d)) (r : AsOk X hds l) :
      AsOk X (.ExceptHandler (some (.Name x p1)) (some n) (st :: sts) p2 :: hds) (q :: l)
/-- where an exception of the body arrives -/
abbrev xeAs (X : Cx) (pins : List (Addr × Obj)) (hds : List ExceptHandler) (D : Ends) : Value → Shared → Prop := fun e s₁ =>
  wpAny (model X.prog X.w) X.A (noteFrame e X.env) (fun _ s₂ => wpAny (model X.prog X.w) X.A (setFlight e none) (fun _ s₃ => wpAny (model X.prog X.w) X.A (handleBy e X.env hds) (SP X pins D) X.xe s₃) X.xe s₂) X.xe s₁
section
variable {X : Cx} {body : List Stmt} {h₀ : ExceptHandler} {hds : List ExceptHandler} {l : List AsCl} {pos : Pos} {tb : WX → TS} {Wout : WX} {pins : List (Addr × Obj)} {D : Ends}
theorem as_takes (ok : X.Ok) (hs : X.stack = X.env :: X.outer) (hf : X.env.frame = some X.env.locals) (hN : X.N.Nodup) (tk : Takes X Wout) (hh : AsOk X hds l) : Takes (X.tr (X.pn ++ pins) (xeAs X pins hds D)) (wAsM X.K Wout D l) := by
  intro u s' xx
  have hfr : X.A.frames = some (X.env :: X.outer) := by rw [ok.frames, hs]
  obtain ⟨a, B, sI, pins', σ', H', cls, d, rfl, JT, nb, up, sky, na, os, ag, w0⟩ := xx
  have J : Inv X pins σ' H' sI := JT.ofTry ok
  have sky2 : Sky B (X.env :: X.outer) a (Zc cls d) X.env.locals s'.heap := by
    rw [← hs]
    exact sky
  show wpAny _ _ (noteFrame (.ref a) X.env) _ _ _
  refine Sky.land Zc.steady hfr hf sky2 fun hA flA upA => ?_
  have JA : Inv X pins σ' H' { s' with heap := hA } := J.landed nb flA.1 (up.trans upA) os ag
  obtain ⟨oA, vA, eA, zA, dA⟩ := flA.there
  have nfr : a ∉ frs (X.env :: X.outer) := fun hm => by
    obtain ⟨_, o', e', hnf⟩ := (flA.2.2.1).mem hm
    have e2 := eA.symm.trans e'
    cases e2
    exact hnf _ dA
  have nL : a ≠ X.env.locals := fun z => nfr (List.mem_filterMap.mpr ⟨X.env, List.mem_cons_self, by rw [hf, z]⟩)
  have nF : a ∉ X.fs := fun hm => by
    obtain ⟨y, hy, q⟩ := List.mem_filterMap.mp hm
    exact nfr (List.mem_filterMap.mpr ⟨y, .tail _ hy, q⟩)
  have SA := JA.suite eA dA na nL nF
  have LT : PySem.W.Looks (model X.prog X.w) hA (typeOf (.ref a)) cls := fun A Q E s k q => wpAny_typeOf_ref (k _ _ eA) (by rw [zA.1]; exact q)
  have go : ∀ {hds' : List ExceptHandler} {l' : List AsCl}, AsOk X hds' l' → wAsM X.K Wout D l' cls d σ' H' → wpAny (model X.prog X.w) X.A (handleBy (.ref a) X.env hds') (SP X pins D) X.xe { s' with heap := hA } := by
    intro hds' l' hk
    induction hk with
    | nil =>
      intro w
      refine wpAny_handleBy_nil ?_
      obtain ⟨_, _, _, oe, vs, T, _, _, he, _, hd, h1, _⟩ := id flA
      unfold PySem.passOn
      refine wpAny_bind (wpAny_field he hd h1 ?_)
      have nt : ¬ ((Value.ref T == Value.none) = true) := by simp
      rw [if_neg nt]
      have fin : wpAny (model X.prog X.w) X.A (setFlight (.ref a) X.env.frame) (fun _ s4 => wpAny (model X.prog X.w) X.A (throw (.ref a) : Sem Flow) (SP X pins D) X.xe s4) X.xe { s' with heap := hA } := by
        rw [hf]
        refine HandSPX.setFlight_upZ flA fun hB skyB upB => wpAny_throw (tk _ _ ?_)
        refine ⟨a, B, sI, pins, σ', H', cls, d, rfl, J, nb, (up.trans upA).trans upB, .inr (.inr ?_), na, os, ag, w⟩
        rw [hs]
        exact skyB
      first
        | exact wpAny_bind (wpAny_pure (wpAny_bind fin))
        | exact wpAny_bind fin
    | @cons x n q st sts p1 p2 hds2 l2 hi hl hc hsu r ih =>
      intro w
      obtain ⟨b, hb, hyes, hno⟩ := w
      refine wpAny_handleBy_cons (codeAny_handlers_test ?_) (by intro z; cases z)
      have LM := PySem.W.exm_one (M := model X.prog X.w) JA.kIn LT hb
      have test : ∀ {Q : Value → Shared → Prop} {E : Value → Shared → Prop}, Q q.c { s' with heap := hA } → wpAny (model X.prog X.w) (X.A.mark (some (.ref a))) (eval (.Name x p1) X.env) Q E { s' with heap := hA } := fun {Q E} z => by
        obtain ⟨hg, hdb, hm | ⟨hm, hv, hnn⟩⟩ := hc
        · exact ld_glob (X := X.suite a ((a, oA) :: (X.pn ++ pins))) SA hg hm z hdb
        · exact ld_blt (X := X.suite a ((a, oA) :: (X.pn ++ pins))) SA hg hm hv z hnn hdb
      refine test (LM.here ?_)
      cases b with
      | false =>
        show wpAny _ X.A (handleBy (.ref a) X.env hds2) _ _ _
        exact ih (hno rfl)
      | true =>
        refine codeAny_handlers_suite_as ?_
        refine HandSPX.lands_againZ flA fun hB flB upB => ?_
        have JB : Inv X pins σ' H' { s' with heap := hB } := J.landed nb flB.1 ((up.trans upA).trans upB) os ag
        obtain ⟨oB, vB, eB, zB, dB⟩ := flB.there
        have SB := JB.suite eB dB na nL nF
        refine store_ok (X := X.suite a ((a, oB) :: (X.pn ++ pins))) (v := .ref a) SB hN hi (.inl hl) rfl (fun s5 S5 => ?_) (.inr hl)
        refine wpAny_mono ((hsu a oB cls d (X.pn ++ pins) zB ⟨_, dB⟩).run [] s5 _ H' _ S5 (hyes rfl a na)) (fun f s6 hsp => ?_) (fun _ _ z => z.elim)
        have gone : ∀ {σ6 : L2.St} {H6 : Hp} {Q : Shared → Prop}, Inv (X.suite a ((a, oB) :: (X.pn ++ pins))) [] σ6 H6 s6 → (∀ s7, Inv X pins (σ6.set q.i none) H6 s7 → Q s7) →
            wpAny (model X.prog X.w) X.A (do bindName X.env n .none; unbindBehindTheSuite X.env n p2) (fun _ s7 => Q s7) X.xe s6 := fun {σ6 H6 Q} S6 hq => gone_ok (S6.unsuite ok) hN hi hl hq
        cases f with
        | ret u =>
          obtain ⟨v6, σ6, H6, S6, r6, q6⟩ := hsp
          exact gone S6 fun s7 J7 => ⟨v6, _, _, J7, r6, q6⟩
        | next =>
          obtain ⟨σ6, H6, S6, q6⟩ := hsp
          exact gone S6 fun s7 J7 => ⟨_, _, J7, q6⟩
        | brk =>
          obtain ⟨σ6, H6, S6, q6⟩ := hsp
          exact gone S6 fun s7 J7 => ⟨_, _, J7, q6⟩
        | cont =>
          obtain ⟨σ6, H6, S6, q6⟩ := hsp
          exact gone S6 fun s7 J7 => ⟨_, _, J7, q6⟩
  exact go hh w0
/-- THE RULE: try: body / except X as e: .. / except Y as f: .. -/
theorem ps_try_asM (hs : X.stack = X.env :: X.outer) (hf : X.env.frame = some X.env.locals) (hN : X.N.Nodup) (tk : Takes X Wout)
    (hb : ∀ (W : WX) (pn : List (Addr × Obj)) (xe : Value → Shared → Prop), Takes (X.tr pn xe) W → PassesOwn (model X.prog X.w) X.A X.env xe → PSs (X.tr pn xe) body (tb W))
    (hh : AsOk X (h₀ :: hds) l) : PS X (.Try body (h₀ :: hds) [] [] pos) (fun D σ H => tb (wAsM X.K Wout D l) D σ H) := by
  refine ⟨fun pins s σ H D I h => ?_⟩
  have ok := I.ok
  refine wpAny_Try_except ?_
  have PB := hb (wAsM X.K Wout D l) (X.pn ++ pins) (xeAs X pins (h₀ :: hds) D) (as_takes ok hs hf hN tk hh) PassesOwn.looking
  refine wpAny_mono (PB.run [] s σ H D (I.toTry _) h) (fun f s1 hsp => ?_) (fun e s1 he => he)
  cases f with
  | next =>
    obtain ⟨σ', H', J', q⟩ := hsp
    exact wpAny_execs_nil ⟨σ', H', J'.ofTry ok, q⟩
  | ret u =>
    obtain ⟨v, σ', H', J', r, q⟩ := hsp
    exact ⟨v, σ', H', J'.ofTry ok, r, q⟩
  | brk =>
    obtain ⟨σ', H', J', q⟩ := hsp
    exact ⟨σ', H', J'.ofTry ok, q⟩
  | cont =>
    obtain ⟨σ', H', J', q⟩ := hsp
    exact ⟨σ', H', J'.ofTry ok, q⟩
end
end Ls
namespace Ls
open PySem PySem.Spec PyProof.Rows L2 NdefX

/-! ### what the written part must say of an own error, as one test -/
/-- C is an own exception class over ValueError -/
def clsB (K : PySem.W.Frag) (C : Addr) : Bool := match K.lookup C with
  | some ⟨.type "type", _, .cls cd, sl⟩ => (match cd.mro, sl.toList with
    | .ref D :: bm, [_, _, _, _, some (.builtin n), _] => D == C && n == "ValueError.__new__" && cd.hasDict && !cd.hasDel && PySem.HandSPX.refsVE bm
    | _, _ => false)
  | _ => false
def findB (K : PySem.W.Frag) (C : Addr) (x : Str) (v : Option Value) : Bool := decide (PySem.W.findIn K (.ref C) x = some v)
def cellB (K : PySem.W.Frag) (C cc : Addr) : Bool := match K.lookup cc with
  | some ⟨_, _, .cell (some v), _⟩ => v == .ref C
  | _ => false
def codeB (P : Program) (K : PySem.W.Frag) (cda : Addr) : Bool := match K.lookup cda with
  | some ⟨_, _, .fields vs, _⟩ => (match (vs : Array Value)[2]? with
    | some (Value.str file _) => (P.main.file : Str) == file
    | _ => false)
  | _ => false
def errB (P : Program) (K : PySem.W.Frag) (C fI cc cda : Addr) (fs : List Str) : Bool :=
  clsB K C && (findB K C "__setattr__" (some (.builtin "object.__setattr__")) && (decide (PySem.W.subIn K (.ref C) (.type "BaseException") = some true) && (decide (PySem.W.typeIn K (.ref C) = some (.type "type")) &&
  (PySem.W.keepIn K (.ref C) && (xfB K C && (codeB P K cda && (cellB K C cc && (decide (PySem.W.mroIn K C (.ref C) = some true) && (decide (PySem.W.nsIn K mainGlobals "super" = some none) &&
  (decide (PySem.W.nsIn K cStatics "thirdparty.any" = some none) && (decide (PySem.W.ks_superIn K C C "__init__" = some (some (.builtin "ValueError.__init__"))) && (decide (PySem.W.subIn K (.ref C) (.type "ValueError") = some true) &&
  (PySem.W.excInitIn K C bmVE "ValueError.__new__" && (!(P.main.scope.names.lookup ("super" : Str)).isSome && (findB K C "__init__" (some (.ref fI)) && (decide (PySem.W.typeIn K (.ref fI) = some (.type "function")) &&
  fs.all fun f => findB K C f none))))))))))))))))

section
variable {P : Program} {w : World} {K : PySem.W.Frag} {mg : Str → Option Value} {base h : Heap} {C fI cc cda : Addr} {fs : List Str}
theorem clsB_ok (q : clsB K C = true) : ∃ nm qn N bs bm sn sub ab col dd k0 k1 k2 k3 k5, K.lookup C = some (excClassObj nm qn C N bs bm true sn sub ab col dd k0 k1 k2 k3 k5 "ValueError.__new__") ∧ PySem.HandSPX.refsVE bm = true := by
  unfold clsB at q
  split at q
  · rename_i dd cd sl ho
    split at q
    · rename_i D bm k0 k1 k2 k3 n k5 hm hs
      simp only [Bool.and_eq_true, beq_iff_eq, Bool.not_eq_true'] at q
      obtain ⟨⟨⟨⟨rfl, rfl⟩, hd⟩, hdel⟩, hr⟩ := q
      obtain ⟨nm, bs, mro, ns, qn, hd', sn, sub, ab, col, del⟩ := cd
      dsimp only at hm hdel hd
      subst hm hdel hd
      obtain ⟨l⟩ := sl
      simp only at hs
      subst hs
      exact ⟨nm, qn, ns, bs, bm, sn, sub, ab, col, dd, k0, k1, k2, k3, k5, ho, hr⟩
    · cases q
  · cases q
/-- what the test tells -/
structure ErrK (P : Program) (K : PySem.W.Frag) (C fI cc cda : Addr) (fs : List Str) : Prop where
  sup : SupC P K C cc cda
  xf : XfC K C
  ini : PySem.W.findIn K (.ref C) "__init__" = some (some (.ref fI))
  tI : PySem.W.typeIn K (.ref fI) = some (.type "function")
  nof : ∀ f ∈ fs, PySem.W.findIn K (.ref C) f = some none
theorem errB_ok (q : errB P K C fI cc cda fs = true) : ErrK P K C fI cc cda fs := by
  unfold errB at q
  obtain ⟨q1, q⟩ := Bool.and_eq_true_iff.mp q
  obtain ⟨q2, q⟩ := Bool.and_eq_true_iff.mp q
  obtain ⟨q3, q⟩ := Bool.and_eq_true_iff.mp q
  obtain ⟨q4, q⟩ := Bool.and_eq_true_iff.mp q
  obtain ⟨q5, q⟩ := Bool.and_eq_true_iff.mp q
  obtain ⟨q6, q⟩ := Bool.and_eq_true_iff.mp q
  obtain ⟨q7, q⟩ := Bool.and_eq_true_iff.mp q
  obtain ⟨q8, q⟩ := Bool.and_eq_true_iff.mp q
  obtain ⟨q9, q⟩ := Bool.and_eq_true_iff.mp q
  obtain ⟨q10, q⟩ := Bool.and_eq_true_iff.mp q
  obtain ⟨q11, q⟩ := Bool.and_eq_true_iff.mp q
  obtain ⟨q12, q⟩ := Bool.and_eq_true_iff.mp q
  obtain ⟨q13, q⟩ := Bool.and_eq_true_iff.mp q
  obtain ⟨q14, q⟩ := Bool.and_eq_true_iff.mp q
  obtain ⟨q15, q⟩ := Bool.and_eq_true_iff.mp q
  obtain ⟨q16, q⟩ := Bool.and_eq_true_iff.mp q
  obtain ⟨q17, q18⟩ := Bool.and_eq_true_iff.mp q
  have O : OexC K C := ⟨clsB_ok q1, of_decide_eq_true q2, of_decide_eq_true q3, of_decide_eq_true q4, q5⟩
  refine ⟨⟨O, ?_, ?_, of_decide_eq_true q9, of_decide_eq_true q10, of_decide_eq_true q11, of_decide_eq_true q12, of_decide_eq_true q13, q14, by simpa using q15⟩, xfB_ok q6, of_decide_eq_true q16, of_decide_eq_true q17, fun f hf => ?_⟩
  · unfold codeB at q7
    split at q7
    · rename_i c d vs sl ho
      split at q7
      · rename_i file tk hv
        exact ⟨c, d, vs, sl, file, tk, ho, hv, q7⟩
      · cases q7
    · cases q7
  · unfold cellB at q8
    split at q8
    · rename_i c d v sl ho
      have e := beq_iff_eq.mp q8
      subst e
      exact ⟨c, d, sl, ho⟩
    · cases q8
  · exact of_decide_eq_true (List.all_eq_true.mp q18 f hf)

variable {x qual f g : Str} {st : Stmt} {oc doc pm ct : Value} {od : Option Addr} {osl : Array (Option Value)}
theorem own_x0 (X : K.In h) (G : h.Ns mainGlobals mg) (Tx : ErrTx st qual []) (a : PySem.W.nsIn K mainGlobals x = some (some (.ref C)))
    (l : K.lookup fI = some ⟨oc, od, .func (PySem.W.fnX "__init__" qual (defArgs st) (defBody st) (defScope st) [("__class__", cc)] .none .none doc pm none (.ref cda) ct), osl⟩) (c : PySem.W.codeIn K (.ref cda) qual = true)
    (b : errB P K C fI cc cda [] = true) : OwnX P w K mg base x [] (spI0 C) C :=
  have E := errB_ok b
  ⟨E.sup.ox, E.xf, PySem.W.mg_of X G a, E.nof, _, _, E.ini, E.tI, err_fn0 E.sup Tx l c, .all fun us hl => Tx.bind _ _ _ _ _ us hl⟩
theorem own_x1 (X : K.In h) (G : h.Ns mainGlobals mg) (Tx : ErrTx st qual [f]) (a : PySem.W.nsIn K mainGlobals x = some (some (.ref C)))
    (l : K.lookup fI = some ⟨oc, od, .func (PySem.W.fnX "__init__" qual (defArgs st) (defBody st) (defScope st) [("__class__", cc)] .none .none doc pm none (.ref cda) ct), osl⟩) (c : PySem.W.codeIn K (.ref cda) qual = true)
    (b : errB P K C fI cc cda [f] = true) : OwnX P w K mg base x [f] (spI1 C f) C :=
  have E := errB_ok b
  ⟨E.sup.ox, E.xf, PySem.W.mg_of X G a, E.nof, _, _, E.ini, E.tI, err_fn1 E.sup Tx (E.nof _ (.head _)) l c, .all fun us hl => Tx.bind _ _ _ _ _ us hl⟩
theorem own_x2 (X : K.In h) (G : h.Ns mainGlobals mg) (Tx : ErrTx st qual [f, g]) (a : PySem.W.nsIn K mainGlobals x = some (some (.ref C)))
    (l : K.lookup fI = some ⟨oc, od, .func (PySem.W.fnX "__init__" qual (defArgs st) (defBody st) (defScope st) [("__class__", cc)] .none .none doc pm none (.ref cda) ct), osl⟩) (c : PySem.W.codeIn K (.ref cda) qual = true)
    (b : errB P K C fI cc cda [f, g] = true) : OwnX P w K mg base x [f, g] (spI2 C f g) C :=
  have E := errB_ok b
  ⟨E.sup.ox, E.xf, PySem.W.mg_of X G a, E.nof, _, _, E.ini, E.tI, err_fn2 E.sup Tx (E.nof _ (.head _)) (E.nof _ (.tail _ (.head _))) l c, .all fun us hl => Tx.bind _ _ _ _ _ us hl⟩
end
end Ls
namespace Ls
open PySem PySem.Spec PyProof.Rows L2

/-! ### defs that may raise -/
/-- a def of the module that keeps a promise, errors and all -/
structure OwnR (P : Program) (w : World) (K : PySem.W.Frag) (mg : Str → Option Value) (base : Heap) (k : Nat) (x : Str) (ps : List Str) (sp : Sp) : Prop where
  ex : ∃ (f : Addr) (fd : FuncData), FnOk P w K mg base (L2.CX P w) k f fd ps sp ∧ mg x = some (.ref f) ∧ PySem.W.keepIn K (.ref f) = true ∧ Binds K fd ps []
/-- a method -/
structure OwnMR (P : Program) (w : World) (K : PySem.W.Frag) (mg : Str → Option Value) (base : Heap) (k : Nat) (C : Addr) (m : Str) (ps : List Str) (sp : Sp) : Prop where
  cl : Cls K C
  ex : ∃ (f : Addr) (fd : FuncData), FnOk P w K mg base (L2.CX P w) k f fd ps sp ∧ Meth K C m f ∧ Binds K fd ps []
/-- a class that is called -/
structure OwnCR (P : Program) (w : World) (K : PySem.W.Frag) (mg : Str → Option Value) (base : Heap) (k : Nat) (C : Addr) (x : Str) (ps : List Str) (sp : Sp) : Prop where
  ex : ∃ (f : Addr) (fd : FuncData), FnOk P w K mg base (L2.CX P w) k f fd ps sp ∧ mg x = some (.ref C) ∧ Mk K C f ∧ Binds K fd ps []
def tMakeS (C : Addr) (sp : Sp) (W : WX) (t : TA) : TE := fun σ H Q => t σ H fun vs H1 => ∀ x dx, H1 x = none → H1 dx = none → dx ≠ x → sp (.ref x :: vs) (upd (upd H1 dx (.own x)) x (.ins C dx [])) (fun v H2 => v = .non ∧ Q (.ref x) H2) (WE W σ)
def tMethR (C : Addr) (m : Str) (sp : Sp) (W : WX) (ta : TE) (t : TA) : TE := fun σ H Q => ta σ H fun x H1 => ∃ a dx fs, x = .ref a ∧ H1 a = some (.ins C dx fs) ∧ fs.lookup m = none ∧ t σ H1 fun vs H2 => sp (x :: vs) H2 Q (WE W σ)
section
variable {X : Cx} {W : WX} {k j : Nat} {x m : Str} {ps : List Str} {sp : Sp} {p pos apos : Pos} {e o : Expr} {es : List Expr} {t : TA} {ta : TE} {C : Addr} {pl : Sem Bool}
theorem own_callR (O : OwnR X.prog X.w X.K X.mg X.base k x ps sp) (hr : Room j X.A) (hkj : k ≤ j) (tk : Takes X W) (ha : PA X (e :: es) t)
    (hg : Gl X x := by rfl) (hdb : (x == ("__debug__" : Str)) = false := by decide) (he : starEach (e :: es) X.env = (false, eval e X.env) :: starEach es X.env := by rfl) (hpl : (backTo pos (starEach es X.env)).any (·.1) = false := by rfl) :
    PE X (.Call (.Name x p) (e :: es) [] pos) (tCallS sp (WE W) t) := by
  obtain ⟨f, fd, F, g, kp, b⟩ := O.ex
  exact pe_callS F (hr.mono hkj) hg g kp b (fun σ => passAt tk σ) ha hdb he hpl
theorem own_callR0 (O : OwnR X.prog X.w X.K X.mg X.base k x ps sp) (hr : Room j X.A) (hkj : k ≤ j) (tk : Takes X W) (hg : Gl X x := by rfl) (hdb : (x == ("__debug__" : Str)) = false := by decide) :
    PE X (.Call (.Name x p) [] [] pos) (tCallS sp (WE W) tNil) := by
  obtain ⟨f, fd, F, g, kp, b⟩ := O.ex
  refine ⟨fun pins s σ H Q I h => ?_⟩
  refine wpAny_Call_Name_kw (ld_glob I hg g ?_ hdb)
  exact PySem.W.callWith_K0 I.kIn kp (run_fnS (us := []) F (hr.mono hkj) b (passAt tk σ) I .nil h)
theorem own_methR (O : OwnMR X.prog X.w X.K X.mg X.base k C m ps sp) (hr : Room j X.A) (hkj : k ≤ j) (tk : Takes X W) (ho : PE X o ta) (ha : PA X (e :: es) t)
    (hst : starEach (e :: es) X.env = (false, eval e X.env) :: starEach es X.env := by rfl) (hpl : (backTo pos (starEach es X.env)).any (·.1) = false := by rfl)
    (ht : eval (.Call (.Attribute o m apos) (e :: es) [] pos) X.env = (do
      let ov ← eval o X.env
      standAt apos.atName
      let (f, first) ← holding [ov] (getMethod ov m pl)
      callWith pos f first (backTo pos (starEach (e :: es) X.env)) (backToKw pos (keywordEach [] X.env))) := by rfl) :
    PE X (.Call (.Attribute o m apos) (e :: es) [] pos) (tMethR C m sp W ta t) := by
  obtain ⟨f, fd, F, me, b⟩ := O.ex
  refine ⟨fun pins s σ H Q I h => ?_⟩
  refine PySem.W.methodCall_KW (pl := pl) (thn (ho.run pins s σ H _ I h) fun u s1 hh => ?_) ht
  obtain ⟨y, H1, I1, ry, a, dx, fs, ey, ea, l, q⟩ := hh
  subst ey
  obtain rfl : u = Value.ref a := ry
  refine getmeth_ok I1 ea O.cl me l ?_
  refine PySem.W.callWith_K (first := [.ref a]) (h₀ := X.base) I.ok.mod.kin me.kp (thn (ha.run pos pins s1 σ H1 _ I1 q) fun us s2 hv => ?_) hst hpl
  obtain ⟨vs, H2, I2, r, q2⟩ := hv
  exact ⟨I2.kIn, run_fnS (us := .ref a :: us) (vs := .ref a :: vs) F (hr.mono hkj) b (passAt tk σ) I2 (.cons rfl r) q2⟩
theorem own_methR0 (O : OwnMR X.prog X.w X.K X.mg X.base k C m ps sp) (hr : Room j X.A) (hkj : k ≤ j) (tk : Takes X W) (ho : PE X o ta)
    (ht : eval (.Call (.Attribute o m apos) [] [] pos) X.env = (do
      let ov ← eval o X.env
      standAt apos.atName
      let (f, first) ← holding [ov] (getMethod ov m pl)
      callWith pos f first (backTo pos (starEach [] X.env)) (backToKw pos (keywordEach [] X.env))) := by rfl) :
    PE X (.Call (.Attribute o m apos) [] [] pos) (tMethR C m sp W ta tNil) := by
  obtain ⟨f, fd, F, me, b⟩ := O.ex
  refine ⟨fun pins s σ H Q I h => ?_⟩
  refine PySem.W.methodCall_KW (pl := pl) (thn (ho.run pins s σ H _ I h) fun u s1 hh => ?_) ht
  obtain ⟨y, H1, I1, ry, a, dx, fs, ey, ea, l, q⟩ := hh
  subst ey
  obtain rfl : u = Value.ref a := ry
  refine getmeth_ok I1 ea O.cl me l ?_
  exact PySem.W.callWith_K0 (first := [.ref a]) I1.kIn me.kp (run_fnS (us := [.ref a]) (vs := [.ref a]) F (hr.mono hkj) b (passAt tk σ) I1 (.cons rfl .nil) q)
theorem own_makeR (O : OwnCR X.prog X.w X.K X.mg X.base k C x ps sp) (hr : Room j X.A) (hkj : k + 1 ≤ j) (tk : Takes X W) (ha : PA X (e :: es) t)
    (hg : Gl X x := by rfl) (hdb : (x == ("__debug__" : Str)) = false := by decide) (he : starEach (e :: es) X.env = (false, eval e X.env) :: starEach es X.env := by rfl) (hpl : (backTo pos (starEach es X.env)).any (·.1) = false := by rfl) :
    PE X (.Call (.Name x p) (e :: es) [] pos) (tMakeS C sp W t) := by
  obtain ⟨f, fd, F, g, M, b⟩ := O.ex
  have hr2 : Room (k + 1) X.A := hr.mono hkj
  refine ⟨fun pins s σ H Q I h => ?_⟩
  refine wpAny_Call_Name_kw (ld_glob I hg g ?_ hdb)
  refine PySem.W.callWith_K (h₀ := X.base) I.ok.mod.kin M.kp (thn (ha.run pos pins s σ H _ I h) fun us s1 hh => ?_) he hpl
  obtain ⟨vs, H1, I1, r, q⟩ := hh
  refine ⟨I1.kIn, ?_⟩
  show wpAny _ _ (call (.ref C) us) _ _ _
  have hq := q (s1.heap.objs.size + 1) s1.heap.objs.size (I1.hok.fresh (Nat.le_succ _)) (I1.hok.fresh (Nat.le_refl _)) (Nat.ne_of_lt (Nat.lt_succ_self _))
  have I2 := Inv.made (C := C) I1
  have r2 : Vals (V.ref (s1.heap.objs.size + 1) :: vs) (Value.ref (s1.heap.objs.size + 1) :: us) := .cons rfl r
  have hl : (Value.ref (s1.heap.objs.size + 1) :: us ++ []).length = ps.length := by
    rw [List.append_nil, ← r2.length]
    exact F.len _ _ _ _ hq
  have hb := b _ (Value.ref (s1.heap.objs.size + 1) :: us) I2.kIn hl
  rw [List.append_nil] at hb
  refine wpAny_call (make_map (f := f) I1.kIn M.makes M.init (beq_iff_eq.mp M.fn) (codeAny_mono (F.run _ X.stack _ _ ⟨Value.ref (s1.heap.objs.size + 1) :: us, []⟩ (Value.ref (s1.heap.objs.size + 1) :: us) _ _ (WE W σ) (hr2.make C us [])
    (I2.env0.make C us []) hb r2 hq) fun r s' hq' => ?_))
  cases r with
  | error er => exact passAt tk σ pins _ _ er s' I2 hq'
  | ok fl =>
    cases fl with
    | ret u =>
      obtain ⟨v, H', I3, rv, ev, q3⟩ := I2.after hq'
      subst ev
      exact ⟨rv, ⟨V.ref (s1.heap.objs.size + 1), H', I3, rfl, q3⟩⟩
    | next => exact False.elim hq'
    | brk => exact False.elim hq'
    | cont => exact False.elim hq'
/-- raise x(..) -/
def tRaise (W : WX) (t : L2.St → Hp → XK → Prop) : TS := fun _ σ H => t σ H fun cls d H' => W cls d σ H'
theorem ps_err {t : L2.St → Hp → XK → Prop} (hc : X.calm = true) (tk : Takes X W) (he : PMk X e t) : PS X (.Raise (some e) none pos) (tRaise W t) := ps_raise hc tk he
end
/-- what a def's body takes -/
theorem takes_def {P : Program} {w : World} {K : PySem.W.Frag} {mg : Str → Option Value} {base : Heap} {N : List Str} {qual : Str} {scope : Scope} {f : Addr} {cd : Value} {A : Around} {outer : List Env} {s : Shared} {H : Hp} {E : XK} :
    Takes (cxOf (L2.CX P w) P w K mg base N qual scope f cd A outer s H E) (fun cls d _ H => E cls d H) := takes_of rfl rfl rfl rfl
theorem own_def {P : Program} {w : World} {K : PySem.W.Frag} {mg : Str → Option Value} {base : Heap} {N : List Str} {qual : Str} {scope : Scope} {f : Addr} {cd : Value} {A : Around} {outer : List Env} {s : Shared} {H : Hp} {E : XK} :
    PassesOwn (model P w) (A.deeper (envOfC qual scope s.heap.objs.size f cd)) (envOfC qual scope s.heap.objs.size f cd) (cxOf (L2.CX P w) P w K mg base N qual scope f cd A outer s H E).xe := passes_of (X := cxOf (L2.CX P w) P w K mg base N qual scope f cd A outer s H E) rfl
end Ls
namespace Ls
open PySem PySem.Spec PyProof.Rows L2

/-! ### a list or a tuple: iterated over, unpacked -/
/-- the items of a list or of a tuple -/
def SqU (K : PySem.W.Frag) (H : Hp) (a : Addr) (xs : List V) : Prop := SqL K H a xs ∨ SqT K H a xs
/-- what is known of H1 is known of H2 -/
def Stays (H1 H2 : Hp) : Prop := ∀ b u, H1 b = some u → H2 b = some u
section
variable {K : PySem.W.Frag} {H1 H2 : Hp} {a : Addr} {xs : List V} {o : HO}
theorem Stays.rd (s : Stays H1 H2) (h : Rd H1 a o) : Rd H2 a o := by
  rcases h with h | ⟨ob, h⟩
  · exact .inl (s _ _ h)
  · exact .inr ⟨ob, s _ _ h⟩
theorem Stays.sqL (s : Stays H1 H2) (h : SqL K H1 a xs) : SqL K H2 a xs := h.elim (fun z => .inl (s.rd z)) .inr
theorem Stays.sqT (s : Stays H1 H2) (h : SqT K H1 a xs) : SqT K H2 a xs := h.elim (fun z => .inl (s.rd z)) .inr
theorem Stays.sqU (s : Stays H1 H2) (h : SqU K H1 a xs) : SqU K H2 a xs := h.elim (fun z => .inl (s.sqL z)) fun z => .inr (s.sqT z)
end
/-- for .. in e, e a list or a tuple (so it stood in H0): the walk J over its items is known while G stands, and what keeps H0 keeps G -/
def iSeq (K : PySem.W.Frag) (te : TE) : TI := fun σ H R => te σ H fun x H1 => ∃ a xs H0, x = .ref a ∧ SqU K H0 a xs ∧ Stays H0 H1 ∧ ∀ (J : It) (G : Hp → Prop), Walk J xs.length G (YAt xs) → G H1 → (∀ H2, Stays H0 H2 → G H2) → R J H1
/-- (a, b, ..) = a list or a tuple of that length -/
def gSeq (K : PySem.W.Frag) (n : Nat) (t : TGs) : TG := fun v σ H Q => ∃ a xs, v = .ref a ∧ SqU K H a xs ∧ xs.length = n ∧ t xs σ H Q
section
variable {X : Cx} {tg e : Expr} {te : TE} {pos : Pos}
theorem pi_seq (he : PE X e te) : PI X tg e (iSeq X.K te) := by
  refine ⟨fun pins s σ H R I h => ?_⟩
  refine thn (he.run pins s σ H _ I h) fun v s1 hh => ?_
  obtain ⟨x, H1, I1, r1, a, xs, H0, rfl, h0, st, q⟩ := hh
  cases r1
  have fine : ∀ {H2 : Hp} {J : Inv X pins σ H2 s1}, ∀ b ∈ [s1.heap.objs.size], FpOk X pins H2 b := fun {H2 J} b hb => by
    have eb : b = s1.heap.objs.size := by simpa using hb
    subst eb
    exact J.fpOk (Nat.le_refl _) (J.hok.fresh (Nat.le_refl _))
  rcases h0 with h0 | h0
  · have hq := st.sqL h0
    obtain ⟨its, rv, p, hz⟩ := I1.list hq
    refine wpAny_pyIter_list p.isList ?_
    refine ⟨s1.heap.objs.size, [s1.heap.objs.size], _, _, H1, rfl, I1.kept (t' := s1.toks) fun b o z => Heap.get?_push_of_some _ z, turn_list a _, ⟨_, Heap.get?_push_size _ rfl, rfl, rfl⟩, fine (J := I1), ?_⟩
    exact q _ _ walk_list hq fun H2 st2 => st2.sqL h0
  · have hq := st.sqT h0
    obtain ⟨its, rv, p, hz⟩ := I1.tuple hq
    refine wpAny_pyIter_tuple (show s1.heap.IsTuple a its.toArray from p) ?_
    refine ⟨s1.heap.objs.size, [s1.heap.objs.size], _, _, H1, rfl, I1.kept (t' := s1.toks) fun b o z => Heap.get?_push_of_some _ z, turn_tuple a _, ⟨_, Heap.get?_push_size _ rfl, rfl, rfl⟩, fine (J := I1), ?_⟩
    exact q _ _ walk_tup hq fun H2 st2 => st2.sqT h0
theorem pg_seq {es : List Expr} {k : Nat} {t : TGs} {n : Nat} (hc : X.calm = true) (h : PGs X es t)
    (hn : (assignEach es X.env).length = n := by rfl) (hst : (assignEach es X.env).findIdx? (·.1) = none := by rfl) : PG X (.Tuple es k pos) (gSeq X.K n t) := by
  refine ⟨fun pins s σ H v u Q I r hw => ?_⟩
  obtain ⟨a, xs, e1, hq, hl, hw⟩ := hw
  rcases hq with hq | hq
  · exact (pg_unl hc h hn hst).run pins s σ H v u Q I r ⟨a, xs, e1, hq, hl, hw⟩
  · exact (pg_tup hc h hn hst).run pins s σ H v u Q I r ⟨a, xs, e1, hq, hl, hw⟩
end
/-- s[i], s a list or a tuple -/
def rIxU (K : PySem.W.Frag) : R2 := fun x y H Q => ∃ p xs i v, x = .ref p ∧ y = .int i ∧ SqU K H p xs ∧ atI xs i = some v ∧ Q v H
theorem ixU {X : Cx} (K : PySem.W.Frag) (h : X.K = K := by rfl) : IxR X (rIxU K) := by
  subst h
  intro value slice pins s σ H x y v u Q I rx ry hh hs
  obtain ⟨p, xs, i, z, ex, ey, hq, he, q⟩ := hh
  rcases hq with hq | hq
  · exact ix_list value slice pins s σ H x y v u Q I rx ry ⟨p, xs, i, z, ex, ey, hq, he, q⟩ hs
  · exact ix_tup value slice pins s σ H x y v u Q I rx ry ⟨p, xs, i, z, ex, ey, hq, he, q⟩ hs
/-- isinstance, the written part named -/
theorem isi_of {X : Cx} (K : PySem.W.Frag) (h : X.K = K := by rfl) : CallR X (.builtin "isinstance") (rIsi K) := by subst h; exact call_isi
end Ls
namespace Ls
open PySem PySem.Spec PyProof.Rows L2
/-! ### short steps -/
local macro_rules | `(tactic| walk_at "ls_ne") => `(tactic| first | assumption | exact Ne.symm (by assumption) | exact ne_of_none (by assumption) (by assumption) | exact Ne.symm (ne_of_none (by assumption) (by assumption)))
local macro_rules | `(tactic| walk_at "ls_hp") => `(tactic| first
  | with_reducible assumption
  | exact upd_same
  | exact Eq.trans (upd_ne (by walk_at "ls_ne")) (by walk_at "ls_hp"))
local macro_rules | `(tactic| walk_at "ls_st") => `(tactic| first
  | with_reducible assumption
  | exact Stm.upd (by walk_at "ls_st") (by first | walk_at "ls_ne" | exact (Stm.noneS (by assumption) (by assumption)).1) (by first | walk_at "ls_ne" | exact (Stm.noneS (by assumption) (by assumption)).2))
local macro_rules | `(tactic| walk_at "ls1") => `(tactic| first
  | refine ⟨_, rfl, ?_⟩
  | refine ⟨_, _, rfl, rfl, ?_⟩
  | refine ⟨_, _, _, _, rfl, rfl, .inl (.inl (by walk_at "ls_hp")), rfl, ?_⟩
  | refine ⟨_, _, _, _, rfl, rfl, (by walk_at "ls_hp"), rfl, ?_⟩
  | refine ⟨rfl, _, rfl, ?_⟩
  | refine ⟨.inl ⟨rfl, _, .inl (.inl (by walk_at "ls_hp"))⟩, ?_⟩)
local macro_rules | `(tactic| walk_at "ls") => `(tactic| repeat (walk_at "ls1"))

/-! ### any object in a name's place -/
/-- no string -/
def NotS (K : PySem.W.Frag) (H : Hp) (v : V) : Prop := (∃ t, TyX K H v t ∧ PySem.W.kitOne K t (.type "str") = some false) ∧ ∀ z, v ≠ .str z
/-- a string that is not too long, or no string -/
def Thg (K : PySem.W.Frag) (H : Hp) (v : V) : Prop := (∃ z, v = .str z ∧ z.length ≤ 1000) ∨ NotS K H v
def letters : List Nat := ("abcdefghijklmnopqrstuvwxyz" : Str).cps.toList
def isNameB (z : Str) : Bool := !decide (z = "strike") && (decide (1 ≤ z.length) && decide (z.length ≤ 8)) && z.cps.toList.all fun c => decide (c ∈ letters)
def isNameV : V → Bool
  | .str z => isNameB z
  | _ => false
def isWordV (ts : List Str) : V → Bool
  | .str z => decide (z ∈ ts)
  | _ => false
theorem notS_name {K : PySem.W.Frag} {H : Hp} {v : V} (h : NotS K H v) : isNameV v = false := by
  cases v with
  | str z => exact absurd rfl (h.2 z)
  | _ => rfl
theorem notS_word {K : PySem.W.Frag} {H : Hp} {v : V} {ts : List Str} (h : NotS K H v) : isWordV ts v = false := by
  cases v with
  | str z => exact absurd rfl (h.2 z)
  | _ => rfl
/-- the module's constants -/
structure Gn (K : PySem.W.Frag) (mg : Str → Option Value) (aR aC aK aB : Addr) (tS tL tN : Tok) : Prop where
  STRIKE : mg "STRIKE" = some (.str "strike" tS)
  LETTERS : mg "LETTERS" = some (.str "abcdefghijklmnopqrstuvwxyz" tL)
  LONGEST_NAME : mg "LONGEST_NAME" = some (.int 8 tN)
  RULES : mg "RULES" = some (.ref aR)
  COLUMN_CHECKS : mg "COLUMN_CHECKS" = some (.ref aC)
  KIND_CHECKS : mg "KIND_CHECKS" = some (.ref aK)
  BOOK_CHECKS : mg "BOOK_CHECKS" = some (.ref aB)
  kRULES : KTup K aR [.str "fall", .str "clear"]
  kCOL : KTup K aC (colW.map V.str)
  kKIND : KTup K aK (kindW.map V.str)
  kBOOK : KTup K aB (bookW.map V.str)
def inL : V → Option V
  | .str z => some (.bl (z.cps.toList.all fun c => decide (c ∈ letters)))
  | _ => none
theorem inL_all (z : Str) : (signs z).filterMap inL = (z.cps.toList.map fun c => decide (c ∈ letters)).map V.bl := by
  unfold signs
  generalize z.cps.toList = l
  induction l with
  | nil => rfl
  | cons c r ih =>
    rw [List.map_cons, List.filterMap_cons, List.map_cons, List.map_cons]
    show V.bl ([c].all fun c => decide (c ∈ letters)) :: _ = _
    rw [ih]
    simp
section
variable {P : Program} {w : World} {K : PySem.W.Frag} {mg : Str → Option Value} {base : Heap}
/-! ### is_name -/
abbrev s_is_name : Stmt := topS 13
theorem sc_is_name : FnScope ["thing", "letter"] ["thing"] (defScope s_is_name) := ⟨rfl, rfl, rfl, by decide +kernel, rfl, by decide +kernel, by decide +kernel⟩
abbrev N_is_name : List Str := ["thing", "letter"]
def spIsName (K : PySem.W.Frag) : Sp := fun vs H Q _ => ∃ v, vs = [v] ∧ Thg K H v ∧ ∀ H', Same H H' → Q (.bl (isNameV v)) H'
theorem ok_is_name {f : Addr} {fd : FuncData} {aR aC aK aB : Addr} {tS tL tN : Tok} (F : Fun K "is_name" "is_name" s_is_name f fd) (T : Bt mg) (G : Gn K mg aR aC aK aB tS tL tN) : FnOk P w K mg base CX0 1 f fd ["thing"] (spIsName K) := by
  refine F.ok sc_is_name (fun vs H Q E h => ?_) (fun cdv A outer s H vs Q E hr h => ?_)
  · obtain ⟨z, rfl, _⟩ := h
    rfl
  · obtain ⟨v, rfl, hv, q⟩ := h
    have hu := hu_of hr
    refine ⟨_, (pss_cons (ps_if (PW.pt (pw_or (pt_not (pt_val (pe_callB call_isi (by rfl) T.m_isinstance (by decide +kernel) (pa_cons (pv 0) (pa_cons (pe_bltn (v := V.ty "str") (by rfl) T.m_str boot_str rfl) pa_nil))))) (pw_or1 (pt_cmpR op_eq (pv 0) (glob_str G.STRIKE) (nomark _))))) (pss_one (ps_ret pe_bl)) pss_nil)
      (pss_one (ps_ret (pe_and (pe_chain op_le op_le pe_int (pe_callB call_len_str (by rfl) T.m_len (by decide +kernel) (pa_cons (pv 0) pa_nil)) (glob_int G.LONGEST_NAME)) (pe_one (pe_callB (cr_all rfl) (by rfl) T.m_all (by decide +kernel) (pa_cons (pe_lc (own := [("letter", 1)]) (g := gName 1) (by rfl) sc_is_name.nd (pi_str (pv 0)) (blkOk_by (own := [("letter", 1)]) (N := N_is_name) (sc := defScope s_is_name) (by decide +kernel)) (fun _ _ _ _ _ => (pg_name (i := 1) sc_is_name.nd rfl (Or.inl rfl) (Or.inr rfl))) (fun _ _ _ _ _ => pts_nil) (fun _ _ _ _ _ => (pe_cmpR op_in_sign (pv 1) (glob_str G.LETTERS) (by rfl)))) pa_nil))))))), ?_⟩
    rcases hv with ⟨z, rfl, hz⟩ | hv
    · refine or2 false (decide (V.str z = V.str "strike")) (fun Q' q' => ?_) (fun _ Q' q' => ?_) ?_
      · refine ⟨_, rfl, ?_⟩
        exact ⟨_, _, _, _, true, rfl, .ty "str", .base (.str z), kit_ty (by decide +kernel), _, rfl, q'⟩
      · walk_at "ls"
        exact q'
      have q : ∀ H', Same H H' → Q (.bl (isNameB z)) H' := q
      refine ite2 (fun e => ?_) (fun e => ?_)
      · have e1 : z = "strike" := V.str.inj (of_decide_eq_true (by simpa using e))
        have : isNameB z = false := by rw [e1]; decide +kernel
        have h := q H (Same.refl H)
        rw [this] at h
        exact h
      · have e1 : ¬ z = "strike" := fun h => e (by rw [h]; simp)
        refine ⟨_, rfl, ?_⟩
        refine ⟨z, rfl, Nat.le_trans hz (show 1000 ≤ sizeLine by decide), ?_⟩
        refine ⟨_, _, rfl, rfl, _, rfl, ?_⟩
        refine ite2 (fun e2 => ?_) (fun e2 => ?_)
        · refine ⟨_, _, rfl, rfl, _, rfl, ?_⟩
          refine ite2 (fun e3 => ?_) (fun e3 => ?_)
          · walk_at "ls"
            intro D hD
            refine lc_pure walk_str (signs z) inL (signs_len _) yld_str (Nat.lt_of_le_of_lt hz (show 1000 < sizeLine by decide)) (fun _ => trivial) (fun i x hi hx => ?_) ?_
            · obtain ⟨c, rfl⟩ := signs_at hx
              refine ⟨rfl, ?_⟩
              walk_at "ls"
              exact lc_yes hx hi (Nat.lt_of_le_of_lt hz (show 1000 < sizeLine by decide)) (by show some (V.bl ([c].all fun c => decide (c ∈ letters))) = _; simp [letters])
            · rw [inL_all]
              refine ⟨D, _, rfl, .inl (.inl upd_same), ?_⟩
              have h := q _ (same_new (o := .lst ((z.cps.toList.map fun c => decide (c ∈ letters)).map V.bl)) hD)
              have e4 : isNameB z = (z.cps.toList.map fun c => decide (c ∈ letters)).all id := by
                have h2 : 1 ≤ z.length := by have := of_decide_eq_true e2; omega
                have h3 : z.length ≤ 8 := by have := of_decide_eq_true e3; omega
                unfold isNameB
                rw [List.all_map]
                simp [e1, h2, h3]
              rw [e4] at h
              exact h
          · have : isNameB z = false := by
              have h3 : ¬ z.length ≤ 8 := fun h => e3 (decide_eq_true (by omega))
              unfold isNameB
              simp [h3]
            have h := q H (Same.refl H)
            rw [this] at h
            exact h
        · refine ⟨_, rfl, ?_⟩
          have : isNameB z = false := by
            have h3 : ¬ 1 ≤ z.length := fun h => e2 (decide_eq_true (by omega))
            unfold isNameB
            simp [h3]
          have h := q H (Same.refl H)
          rw [this] at h
          exact h
    · obtain ⟨t, ht, kt⟩ := hv.1
      refine or2 true false (fun Q' q' => ?_) (fun z => nomatch z) ?_
      · refine ⟨_, rfl, ?_⟩
        exact ⟨_, _, _, _, false, rfl, .ty "str", ht, kt, _, rfl, q'⟩
      have h := q H (Same.refl H)
      rw [notS_name hv] at h
      exact iteT h
/-! ### is_word_of -/
abbrev s_is_word_of : Stmt := topS 14
theorem sc_is_word_of : FnScope ["thing", "words"] ["thing", "words"] (defScope s_is_word_of) := ⟨rfl, rfl, rfl, by decide +kernel, rfl, by decide +kernel, by decide +kernel⟩
abbrev N_is_word_of : List Str := ["thing", "words"]
def spWord (K : PySem.W.Frag) : Sp := fun vs H Q _ => ∃ (v : V) (a : Addr) (ts : List Str), vs = [v, .ref a] ∧ Thg K H v ∧ (SqL K H a (ts.map V.str) ∨ SqT K H a (ts.map V.str)) ∧ Q (.bl (isWordV ts v)) H
theorem ok_word {f : Addr} {fd : FuncData} (F : Fun K "is_word_of" "is_word_of" s_is_word_of f fd) (T : Bt mg) : FnOk P w K mg base CX0 1 f fd ["thing", "words"] (spWord K) := by
  refine F.ok sc_is_word_of (fun vs H Q E h => ?_) (fun cdv A outer s H vs Q E hr h => ?_)
  · obtain ⟨z, a, ts, rfl, _⟩ := h
    rfl
  · obtain ⟨v, a, ts, rfl, hv, hs, q⟩ := h
    have hu := hu_of hr
    refine ⟨_, (pss_one (ps_ret (pe_and (pe_callB call_isi (by rfl) T.m_isinstance (by decide +kernel) (pa_cons (pv 0) (pa_cons (pe_bltn (v := V.ty "str") (by rfl) T.m_str boot_str rfl) pa_nil))) (pe_one (pe_cmpR (in_seq K) (pv 0) (pv 1) (by rfl)))))), ?_⟩
    refine ⟨_, rfl, ?_⟩
    rcases hv with ⟨z, rfl, hz⟩ | hv
    · refine ⟨_, _, _, _, true, rfl, .ty "str", .base (.str z), kit_ty (by decide +kernel), _, rfl, iteT ?_⟩
      walk_at "ls"
      refine ⟨a, _, rfl, hs, rfl, all_flat ts, ?_⟩
      show Q (.bl (inV (.str z) (ts.map V.str))) H
      rw [in_strs]
      exact q
    · obtain ⟨t, ht, kt⟩ := hv.1
      rw [notS_word hv] at q
      exact ⟨_, _, _, _, false, rfl, .ty "str", ht, kt, _, rfl, iteF q⟩
/-! ### _want_free_name -/
abbrev s__want_free_name : Stmt := topS 24
theorem sc__want_free_name : FnScope ["name", "taken"] ["name", "taken"] (defScope s__want_free_name) := ⟨rfl, rfl, rfl, by decide +kernel, rfl, by decide +kernel, by decide +kernel⟩
abbrev N__want_free_name : List Str := ["name", "taken"]
def spFree (K : PySem.W.Frag) (cN cU : Addr) : Sp := fun vs H Q E => ∃ (v : V) (a : Addr) (ts : List Str), vs = [v, .ref a] ∧ Thg K H v ∧ H a = some (.lst (ts.map V.str)) ∧
  (isNameV v = false → ∀ H' d, Same H H' → H' d = none → E (.ref cN) (some d) (upd H' d (.xd [("name", v)]))) ∧
  (isNameV v = true → isWordV ts v = true → ∀ H' d, Same H H' → H' d = none → E (.ref cU) (some d) (upd H' d (.xd [("name", v)]))) ∧
  (isNameV v = true → isWordV ts v = false → ∀ H', Same H H' → Q .non H')
theorem ok_free {f : Addr} {fd : FuncData} {cN cU : Addr} (F : Fun K "_want_free_name" "_want_free_name" s__want_free_name f fd) (O_is_name : Own P w K mg base CX0 1 "is_name" ["thing"] (spIsName K))
    (O_BadName : OwnX P w K mg base "BadName" ["name"] (spI1 cN "name") cN) (O_NameInUse : OwnX P w K mg base "NameInUse" ["name"] (spI1 cU "name") cU) : FnOk P w K mg base (L2.CX P w) 3 f fd ["name", "taken"] (spFree K cN cU) := by
  refine F.okX sc__want_free_name (fun vs H Q E h => ?_) (fun cdv A outer s H vs Q E hr h => ?_)
  · obtain ⟨z, a, ts, rfl, _⟩ := h
    rfl
  · obtain ⟨v, a, ts, rfl, hv, ha, q1, q2, q3⟩ := h
    have hu := hu_of hr
    refine ⟨_, (pss_cons (ps_if (pt_not (pt_val (own_call O_is_name hr (by first | decide | omega) (pa_cons (pv 0) pa_nil)))) (pss_one (ps_err rfl takes_def (pmk_err1 O_BadName (hr.mono (by decide)) (pa_cons (pv 0) pa_nil)))) pss_nil)
      (pss_one (ps_if (pt_cmpR (in_seq K) (pv 0) (pv 1) (by rfl)) (pss_one (ps_err rfl takes_def (pmk_err1 O_NameInUse (hr.mono (by decide)) (pa_cons (pv 0) pa_nil)))) pss_nil))), ?_⟩
    refine ⟨_, rfl, ?_⟩
    refine ⟨v, rfl, hv, fun H1 s1 => ?_⟩
    refine ⟨_, rfl, ?_⟩
    cases hn : isNameV v with
    | false =>
      refine iteT ?_
      walk_at "ls"
      exact fun d hd => q1 hn _ d s1 hd
    | true =>
      refine iteF ?_
      obtain ⟨z, rfl⟩ : ∃ z, v = .str z := by
        cases v with
        | str z => exact ⟨z, rfl⟩
        | _ => cases hn
      walk_at "ls"
      refine ⟨a, _, rfl, .inl (.inl (.inl (s1 _ _ ha))), rfl, all_flat ts, _, rfl, ?_⟩
      show if inV (.str z) (ts.map V.str) = true then _ else _
      rw [in_strs]
      cases hw : decide (z ∈ ts) with
      | true =>
        refine iteT ?_
        walk_at "ls"
        exact fun d hd => q2 hn hw _ d s1 hd
      | false => exact iteF (q3 hn hw H1 s1)
end
end Ls
namespace Ls
open PySem PySem.Spec PyProof.Rows L2
/-! ### short steps -/
local macro_rules | `(tactic| walk_at "ls_ne") => `(tactic| first | assumption | exact Ne.symm (by assumption) | exact ne_of_none (by assumption) (by assumption) | exact Ne.symm (ne_of_none (by assumption) (by assumption)))
local macro_rules | `(tactic| walk_at "ls_hp") => `(tactic| first
  | with_reducible assumption
  | exact upd_same
  | exact Eq.trans (upd_ne (by walk_at "ls_ne")) (by walk_at "ls_hp"))
local macro_rules | `(tactic| walk_at "ls_st") => `(tactic| first
  | with_reducible assumption
  | exact Stm.upd (by walk_at "ls_st") (by first | walk_at "ls_ne" | exact (Stm.noneS (by assumption) (by assumption)).1) (by first | walk_at "ls_ne" | exact (Stm.noneS (by assumption) (by assumption)).2))
local macro_rules | `(tactic| walk_at "ls1") => `(tactic| first
  | refine ⟨_, rfl, ?_⟩
  | refine ⟨_, _, rfl, rfl, ?_⟩
  | refine ⟨_, _, _, _, rfl, rfl, .inl (.inl (by walk_at "ls_hp")), rfl, ?_⟩
  | refine ⟨_, _, _, _, rfl, rfl, (by walk_at "ls_hp"), rfl, ?_⟩
  | refine ⟨rfl, _, rfl, ?_⟩
  | refine ⟨.inl ⟨rfl, _, .inl (.inl (by walk_at "ls_hp"))⟩, ?_⟩)
local macro_rules | `(tactic| walk_at "ls") => `(tactic| repeat (walk_at "ls1"))

/-! ### rows of any objects -/
def RowOf (K : PySem.W.Frag) (H : Hp) (v : V) (ys : List V) : Prop := ∃ t, v = .ref t ∧ SqU K H t ys
/-- xs are lists or tuples with the items yss -/
def RowsAt (K : PySem.W.Frag) (H : Hp) (xs : List V) (yss : List (List V)) : Prop := Paired (RowOf K H) xs yss
theorem RowsAt.get {K : PySem.W.Frag} {H : Hp} : ∀ {xs : List V} {yss : List (List V)} {i : Nat} {x : V}, RowsAt K H xs yss → xs[i]? = some x → ∃ ys, yss[i]? = some ys ∧ RowOf K H x ys
  | _ :: _, _ :: _, 0, x, .cons h r, e => ⟨_, rfl, by cases e; exact h⟩
  | _ :: xs, _ :: yss, i + 1, x, .cons h r, e => RowsAt.get (xs := xs) (yss := yss) (i := i) r e
theorem RowOf.same {K : PySem.W.Frag} {H H' : Hp} {v : V} {ys : List V} (h : RowOf K H v ys) (s : Same H H') : RowOf K H' v ys := by
  obtain ⟨t, e, q⟩ := h
  exact ⟨t, e, Stays.sqU s q⟩
theorem RowsAt.same {K : PySem.W.Frag} {H H' : Hp} : ∀ {xs : List V} {yss : List (List V)}, RowsAt K H xs yss → Same H H' → RowsAt K H' xs yss
  | _, _, .nil, _ => .nil
  | _, _, .cons h r, s => .cons (h.same s) (RowsAt.same r s)
theorem RowsAt.len {K : PySem.W.Frag} {H : Hp} {xs : List V} {yss : List (List V)} (h : RowsAt K H xs yss) : xs.length = yss.length := Paired.length h
theorem ty_same {K : PySem.W.Frag} {H H' : Hp} {v : V} {t : Value} (h : TyX K H v t) (s : Same H H') : TyX K H' v t := by
  cases h with
  | base h =>
    refine .base ?_
    cases h with
    | non => exact .non
    | bl x => exact .bl x
    | int i => exact .int i
    | str x => exact .str x
    | flt x => exact .flt x
    | lst e => exact .lst (s _ _ e)
    | frz e => exact .frz (s _ _ e)
    | tup e => exact .tup (s _ _ e)
    | dK e => exact .dK (s _ _ e)
    | dT e => exact .dT (s _ _ e)
    | ins e cl ha hn htk hm => exact .ins (s _ _ e) cl ha hn htk hm
  | byt b => exact .byt b
  | set e => exact .set (s _ _ e)
  | kList e c => exact .kList e c
  | kTuple e c => exact .kTuple e c
  | kDict e c => exact .kDict e c
  | fTuple e => exact .fTuple (s _ _ e)
  | fDict e => exact .fDict (s _ _ e)
theorem NotS.same {K : PySem.W.Frag} {H H' : Hp} {v : V} (h : NotS K H v) (s : Same H H') : NotS K H' v := by
  obtain ⟨⟨t, a, b⟩, c⟩ := h
  exact ⟨⟨t, ty_same a s, b⟩, c⟩
theorem Thg.same {K : PySem.W.Frag} {H H' : Hp} {v : V} (h : Thg K H v) (s : Same H H') : Thg K H' v := h.elim .inl fun z => .inr (z.same s)
/-- the first item of a tuple -/
def fstOf (H : Hp) : V → Option V
  | .ref t => match H t with
    | some (.tup (y :: _)) => some y
    | _ => none
  | _ => none
theorem fst_tup {H : Hp} {v y : V} {ys : List V} (h : TupOf H v (y :: ys)) : fstOf H v = some y := by
  obtain ⟨t, rfl, h⟩ := h
  show (match H t with | some (.tup (y :: _)) => some y | _ => none) = some y
  rw [h]
theorem fst_all {α : Type} {H : Hp} (g : α → V) (r : α → List V) : ∀ {xs : List V} {l : List α}, TupsAt H xs (l.map fun a => g a :: r a) → xs.filterMap (fstOf H) = l.map g
  | [], [], _ => rfl
  | x :: xs, a :: l, h => by
    cases h with
    | cons h1 h2 =>
      rw [List.filterMap_cons, fst_tup h1, fst_all g r h2]
      rfl
  | [], a :: l, h => by cases h
  | x :: xs, [], h => by cases h
theorem Same.set {H H1 : Hp} {p : Addr} {o : HO} (s : Same H H1) (hp : H p = none) : Same H (upd H1 p o) := fun b u e => by
  rw [upd_ne (ne_of_none e hp)]
  exact s _ _ e
/-! ### what is wrong of names -/
def strOf : V → Str
  | .str z => z
  | _ => ⟨#[]⟩
/-- false: no name; true: a name in use -/
def nameErr (taken : List Str) (v : V) : Option Bool := if isNameV v = true then (if isWordV taken v = true then some true else none) else some false
theorem name_str {v : V} (h : isNameV v = true) : v = .str (strOf v) := by
  cases v with
  | str z => rfl
  | _ => cases h
def kindsErr : List Str → List (V × V) → Option (Bool × V)
  | _, [] => none
  | taken, k :: r => match nameErr taken k.1 with
    | some b => some (b, k.1)
    | none => kindsErr (taken ++ [strOf k.1]) r
theorem nameErr_none {taken : List Str} {v : V} (h : nameErr taken v = none) : isNameV v = true ∧ isWordV taken v = false := by
  unfold nameErr at h
  split at h
  · rename_i h1
    split at h
    · cases h
    · rename_i h2
      exact ⟨h1, by simpa using h2⟩
  · cases h
/-- all good ahead: the names of the first i -/
theorem kindsErr_step {taken : List Str} {ks : List (V × V)} {i : Nat} {k : V × V} (e : ks[i]? = some k) : kindsErr taken (ks.drop i) = match nameErr taken k.1 with
    | some b => some (b, k.1)
    | none => kindsErr (taken ++ [strOf k.1]) (ks.drop (i + 1)) := by
  obtain ⟨hi, rfl⟩ := List.getElem?_eq_some_iff.mp e
  rw [List.drop_eq_getElem_cons hi]
  rfl
/-- the error that is due, as an error that leaves -/
def nameE (cN cU : Addr) (H : Hp) (E : XK) (b : Bool) (v : V) : Prop := ∀ H' d, Same H H' → H' d = none → E (.ref (if b = true then cU else cN)) (some d) (upd H' d (.xd [("name", v)]))
theorem nameE.go {cN cU : Addr} {H H1 : Hp} {E : XK} {b : Bool} {v : V} (h : nameE cN cU H E b v) (s : Same H H1) : nameE cN cU H1 E b v := fun H' d s' n => h H' d (s.trans s') n
/-- the promise of _want_free_name by nameErr -/
theorem free_of {K : PySem.W.Frag} {cN cU a : Addr} {H : Hp} {Q : VK} {E : XK} {v : V} {ts : List Str} (hv : Thg K H v) (ha : H a = some (.lst (ts.map V.str)))
    (h : match nameErr ts v with
      | some b => nameE cN cU H E b v
      | none => ∀ H', Same H H' → Q .non H') : spFree K cN cU [v, .ref a] H Q E := by
  unfold nameErr at h
  refine ⟨v, a, ts, rfl, hv, ha, fun h1 => ?_, fun h1 h2 => ?_, fun h1 h2 => ?_⟩
  · rw [h1, if_neg (by decide)] at h
    exact h
  · rw [h1, h2, if_pos rfl, if_pos rfl] at h
    exact h
  · rw [h1, h2, if_pos rfl, if_neg (by decide)] at h
    exact h
section
variable {P : Program} {w : World} {K : PySem.W.Frag} {mg : Str → Option Value} {base : Heap}
/-! ### _read_kinds -/
abbrev s__read_kinds : Stmt := topS 22
theorem sc__read_kinds : FnScope ["kinds", "found", "name", "is_open", "kind"] ["kinds"] (defScope s__read_kinds) := ⟨rfl, rfl, rfl, by decide +kernel, rfl, by decide +kernel, by decide +kernel⟩
abbrev N__read_kinds : List Str := ["kinds", "found", "name", "is_open", "kind"]
def spReadK (K : PySem.W.Frag) (cN cU : Addr) : Sp := fun vs H Q E => ∃ (a : Addr) (xs : List V) (ks : List (V × V)), vs = [.ref a] ∧ SqU K H a xs ∧ RowsAt K H xs (ks.map fun k => [k.1, k.2]) ∧ (∀ k ∈ ks, Thg K H k.1) ∧ ks.length ≤ 1000 ∧
  match kindsErr [] ks with
  | some (b, v) => nameE cN cU H E b v
  | none => ∀ (H' : Hp) (p : Addr) (ys : List V), H' p = some (.tup ys) → TupsAt H' ys (ks.map fun k => [k.1, k.2]) → Same H H' → Q (.ref p) H'
theorem ok_readK {f : Addr} {fd : FuncData} {cN cU : Addr} (F : Fun K "_read_kinds" "_read_kinds" s__read_kinds f fd) (T : Bt mg) (O__want_free_name : OwnR P w K mg base 3 "_want_free_name" ["name", "taken"] (spFree K cN cU)) : FnOk P w K mg base (L2.CX P w) 4 f fd ["kinds"] (spReadK K cN cU) := by
  refine F.okX sc__read_kinds (fun vs H Q E h => ?_) (fun cdv A outer s H vs Q E hr h => ?_)
  · obtain ⟨a, xs, B, rfl, _⟩ := h
    rfl
  · obtain ⟨a, xs, ks, rfl, ha, hx, ht, hk, q⟩ := h
    have hu := hu_of hr
    refine ⟨_, (pss_cons (ps_set (i := 1) sc__read_kinds.nd rfl (Or.inl rfl) (pe_lst pa_nil))
      (pss_cons (ps_for own_def rfl (pi_seq (pv 0)) (pg_seq rfl (pgs_cons (pg_name (i := 2) sc__read_kinds.nd rfl (Or.inl rfl)) (pgs_cons (pg_name (i := 3) sc__read_kinds.nd rfl (Or.inl rfl)) pgs_nil))) (pss_cons (ps_expr (own_callR O__want_free_name hr (by first | decide | omega) takes_def (pa_cons (pv 2) (pa_cons (pe_lc (own := [("kind", 4)]) (g := gName 4) (by rfl) sc__read_kinds.nd (pi_list (pv 1)) (blkOk_by (own := [("kind", 4)]) (N := N__read_kinds) (sc := defScope s__read_kinds) (by decide +kernel)) (fun _ _ _ _ _ => (pg_name (i := 4) sc__read_kinds.nd rfl (Or.inl rfl) (Or.inr rfl))) (fun _ _ _ _ _ => pts_nil) (fun _ _ _ _ _ => (pe_ix (ixT K) (pv 4) pe_int (fun _ _ => rfl)))) pa_nil))))
      (pss_one (ps_expr (pe_bm PySem.F.plainAttrs_list PySem.F.slot_list_append PySem.F.type_list_append mt_append (pv 1) (pa_cons (pe_tup (pa_cons (pv 2) (pa_cons (pv 3) pa_nil))) pa_nil))))))
      (pss_one (ps_ret (pe_callTy (tuple_of K) (by rfl) T.m_tuple (by decide +kernel) (pa_cons (pv 1) pa_nil)))))), ?_⟩
    refine ⟨Nat.zero_le _, fun p hp => ?_⟩
    have s0 : Same H (upd H p (.lst [])) := same_new hp
    walk_at "ls"
    refine ⟨a, xs, H, rfl, ha, s0, fun J G wk g0 gs => ?_⟩
    have lx : xs.length = ks.length := by rw [hx.len, List.length_map]
    refine for_it wk (fun i σ H1 => ∃ (fx : List V) (v2 v3 : Option V) (zs : List Str), σ = [some (.ref a), some (.ref p), v2, v3, none] ∧ H1 p = some (.lst fx) ∧ TupsAt H1 fx ((ks.take i).map fun k => [k.1, k.2]) ∧ Same H H1 ∧
        (ks.take i).map (·.1) = zs.map V.str ∧ kindsErr [] ks = kindsErr zs (ks.drop i))
      ⟨[], none, none, [], rfl, upd_same, .nil, s0, rfl, rfl⟩ (fun i σ H1 _ ⟨_, _, _, _, _, _, _, s1, _⟩ => gs _ s1) ?_ ?_
    · rintro i x σ Hz H1 hi ⟨fx, v2, v3, zs, rfl, h1, h1t, s1, ez, ek⟩ ⟨rfl, hxi⟩
      obtain ⟨ys, hys, t, rfl, hto⟩ := RowsAt.get (hx.same s1) hxi
      obtain ⟨k, hki, rfl⟩ := map_get hys
      refine ⟨t, _, rfl, hto, rfl, _, _, rfl, _, _, rfl, rfl, ?_⟩
      walk_at "ls"
      have lf : fx.length ≤ 1000 := by
        rw [h1t.len, List.length_map, List.length_take]
        omega
      have lz : fx.length < sizeLine := Nat.lt_of_le_of_lt lf (show 1000 < sizeLine by decide)
      refine ⟨⟨_, .inl (.inl h1)⟩, fun D hD => ?_⟩
      have npD : p ≠ D := ne_of_none h1 hD
      refine lc_pure (walk_list (xs := fx)) fx (fstOf H1) rfl (fun i H x H' hi hy => hy) lz (fun acc => .inl (.inl (by rw [upd_ne npD]; exact h1))) (fun j y hj hy => ?_) ?_
      · obtain ⟨zs, hzs, hto⟩ := TupsAt.get h1t hy
        obtain ⟨k2, hk2, rfl⟩ := map_get hzs
        obtain ⟨t2, rfl, ht2⟩ := id hto
        have n2 : t2 ≠ D := ne_of_none ht2 hD
        refine ⟨rfl, ?_⟩
        walk_at "ls"
        exact lc_yes hy hj lz (fst_tup hto)
      rw [fst_all (fun a : V × V => a.1) (fun a => [a.2]) (l := ks.take i) h1t, ez]
      have e1 := kindsErr_step (taken := zs) hki
      rw [ek, e1] at q
      simp only [tNil, List.set]
      refine free_of ((ht _ (List.mem_of_getElem? hki)).same (s1.trans (same_new hD))) upd_same ?_
      cases hn : nameErr zs k.1 with
      | some b =>
        rw [hn] at q
        exact nameE.go q (s1.trans (same_new hD))
      | none =>
        intro H2 sH2
        have s12 : Same H1 H2 := (same_new hD).trans sH2
        have h2 := s12 _ _ h1
        obtain ⟨n1, n2⟩ := nameErr_none hn
        walk_at "ls"
        refine ⟨(by show 2 ≤ sizeLine; decide), fun t2 ht2 => ?_⟩
        have npt : p ≠ t2 := ne_of_none h2 ht2
        have h2' : (upd H2 t2 (.tup [k.1, k.2])) p = some (.lst fx) := by rw [upd_ne npt]; exact h2
        refine ⟨_, _, _, rfl, rfl, h2', lz, fx ++ [.ref t2], _, _, zs ++ [strOf k.1], rfl, upd_same, ?_, ?_, ?_, ?_⟩
        · rw [List.take_add_one, hki, Option.toList_some, List.map_append]
          exact (h1t.keep (((TK.same s12).trans (.new ht2)).trans (.lst h2'))).snoc ⟨t2, rfl, by rw [upd_ne npt.symm]; exact upd_same⟩
        · exact Same.set ((s1.trans s12).trans (same_new ht2)) hp
        · rw [List.take_add_one, hki, Option.toList_some, List.map_append, ez, List.map_append, List.map_cons, List.map_cons, ← name_str n1]
          rfl
        · rw [ek, e1, hn]
    · rintro σ H1 ⟨fx, v2, v3, zs, rfl, h1, h1t, s1, ez, ek⟩
      rw [lx, List.take_length] at h1t
      rw [lx, List.drop_length] at ek
      rw [ek] at q
      walk_at "ls"
      refine ⟨p, fx, rfl, .inl ⟨.inl (.inl h1), fun l hl => ?_⟩⟩
      exact q _ l fx upd_same (h1t.keep (.new hl)) (s1.trans (same_new hl))
end
end Ls
namespace Ls
open PySem PySem.Spec PyProof.Rows L2
/-! ### short steps -/
local macro_rules | `(tactic| walk_at "ls_ne") => `(tactic| first | assumption | exact Ne.symm (by assumption) | exact ne_of_none (by assumption) (by assumption) | exact Ne.symm (ne_of_none (by assumption) (by assumption)))
local macro_rules | `(tactic| walk_at "ls_hp") => `(tactic| first
  | with_reducible assumption
  | exact upd_same
  | exact Eq.trans (upd_ne (by walk_at "ls_ne")) (by walk_at "ls_hp"))
local macro_rules | `(tactic| walk_at "ls_st") => `(tactic| first
  | with_reducible assumption
  | exact Stm.upd (by walk_at "ls_st") (by first | walk_at "ls_ne" | exact (Stm.noneS (by assumption) (by assumption)).1) (by first | walk_at "ls_ne" | exact (Stm.noneS (by assumption) (by assumption)).2))
local macro_rules | `(tactic| walk_at "ls1") => `(tactic| first
  | refine ⟨_, rfl, ?_⟩
  | refine ⟨_, _, rfl, rfl, ?_⟩
  | refine ⟨_, _, _, _, rfl, rfl, .inl (.inl (by walk_at "ls_hp")), rfl, ?_⟩
  | refine ⟨_, _, _, _, rfl, rfl, (by walk_at "ls_hp"), rfl, ?_⟩
  | refine ⟨rfl, _, rfl, ?_⟩
  | refine ⟨.inl ⟨rfl, _, .inl (.inl (by walk_at "ls_hp"))⟩, ?_⟩)
local macro_rules | `(tactic| walk_at "ls") => `(tactic| repeat (walk_at "ls1"))

/-! ### what is wrong of columns -/
abbrev Col := V × V × V × V
def colU (c : Col) : List V := [c.1, c.2.1, c.2.2.1, c.2.2.2]
def ruleW : List Str := ["fall", "clear"]
inductive ColE
  | name (b : Bool) (v : V)
  | kind (v : V)
  | rule (v : V)
def colErr (kn taken : List Str) (c : Col) : Option ColE := match nameErr (kn ++ taken) c.1 with
  | some b => some (.name b c.1)
  | none => if isWordV kn c.2.1 = true then (if isWordV kn c.2.2.1 = true then (if isWordV ruleW c.2.2.2 = true then none else some (.rule c.2.2.2)) else some (.kind c.2.2.1)) else some (.kind c.2.1)
def colsErr (kn : List Str) : List Str → List Col → Option ColE
  | _, [] => none
  | taken, c :: r => match colErr kn taken c with
    | some e => some e
    | none => colsErr kn (taken ++ [strOf c.1]) r
theorem colsErr_step {kn taken : List Str} {cs : List Col} {i : Nat} {c : Col} (e : cs[i]? = some c) : colsErr kn taken (cs.drop i) = match colErr kn taken c with
    | some e => some e
    | none => colsErr kn (taken ++ [strOf c.1]) (cs.drop (i + 1)) := by
  obtain ⟨hi, rfl⟩ := List.getElem?_eq_some_iff.mp e
  rw [List.drop_eq_getElem_cons hi]
  rfl
/-- one field's error that leaves -/
def oneE (C : Addr) (f : Str) (H : Hp) (E : XK) (v : V) : Prop := ∀ H' d, Same H H' → H' d = none → E (.ref C) (some d) (upd H' d (.xd [(f, v)]))
theorem oneE.go {C : Addr} {f : Str} {H H1 : Hp} {E : XK} {v : V} (h : oneE C f H E v) (s : Same H H1) : oneE C f H1 E v := fun H' d s' n => h H' d (s.trans s') n
def colE (cN cU cK cR : Addr) (H : Hp) (E : XK) : ColE → Prop
  | .name b v => nameE cN cU H E b v
  | .kind v => oneE cK "kind" H E v
  | .rule v => oneE cR "rule" H E v
theorem word_str {v : V} {ts : List Str} (h : isWordV ts v = true) : v = .str (strOf v) := by
  cases v with
  | str z => rfl
  | _ => cases h
section
variable {P : Program} {w : World} {K : PySem.W.Frag} {mg : Str → Option Value} {base : Heap}
/-! ### _read_columns -/
abbrev s__read_columns : Stmt := topS 23
theorem sc__read_columns : FnScope ["columns", "kinds", "kind", "names", "found", "name", "home", "goal", "rule", "column"] ["columns", "kinds"] (defScope s__read_columns) := ⟨rfl, rfl, rfl, by decide +kernel, rfl, by decide +kernel, by decide +kernel⟩
abbrev N__read_columns : List Str := ["columns", "kinds", "kind", "names", "found", "name", "home", "goal", "rule", "column"]
def spReadC (K : PySem.W.Frag) (cN cU cK cR : Addr) : Sp := fun vs H Q E => ∃ (a b : Addr) (xs ys : List V) (cs : List Col) (ks : List (V × V)) (kn : List Str), vs = [.ref a, .ref b] ∧ SqU K H a xs ∧ RowsAt K H xs (cs.map colU) ∧ H b = some (.tup ys) ∧ TupsAt H ys (ks.map fun k => [k.1, k.2]) ∧
  ks.map (·.1) = kn.map V.str ∧ (∀ c ∈ cs, Thg K H c.1 ∧ Thg K H c.2.1 ∧ Thg K H c.2.2.1 ∧ Thg K H c.2.2.2) ∧ cs.length ≤ 1000 ∧ ks.length ≤ 1000 ∧
  match colsErr kn [] cs with
  | some e => colE cN cU cK cR H E e
  | none => ∀ (H' : Hp) (p : Addr) (zs : List V), H' p = some (.tup zs) → TupsAt H' zs (cs.map colU) → Same H H' → Q (.ref p) H'
theorem ok_readC {f : Addr} {fd : FuncData} {aR aC aK aB : Addr} {tS tL tN : Tok} {cN cU cK cR : Addr} (F : Fun K "_read_columns" "_read_columns" s__read_columns f fd) (T : Bt mg) (G : Gn K mg aR aC aK aB tS tL tN) (O__want_free_name : OwnR P w K mg base 3 "_want_free_name" ["name", "taken"] (spFree K cN cU))
    (O_is_word_of : Own P w K mg base CX0 1 "is_word_of" ["thing", "words"] (spWord K)) (O_UnknownKind : OwnX P w K mg base "UnknownKind" ["kind"] (spI1 cK "kind") cK) (O_BadRule : OwnX P w K mg base "BadRule" ["rule"] (spI1 cR "rule") cR) :
    FnOk P w K mg base (L2.CX P w) 4 f fd ["columns", "kinds"] (spReadC K cN cU cK cR) := by
  refine F.okX sc__read_columns (fun vs H Q E h => ?_) (fun cdv A outer s H vs Q E hr h => ?_)
  · obtain ⟨a, b, xs, ys, cs, ks, kn, rfl, _⟩ := h
    rfl
  · obtain ⟨a, b, xs, ys, cs, ks, kn, rfl, ha, hx, hb, hy, ekn, ht, lc, lk, q⟩ := h
    have hu := hu_of hr
    refine ⟨_, (pss_cons (ps_setLc (i := 3) (own := [("kind", 2)]) (g := gName 2) (by rfl) sc__read_columns.nd rfl rfl (sw_true rfl rfl rfl (by decide +kernel)) (pi_tup (pv 1)) (blkOk_by (own := [("kind", 2)]) (N := N__read_columns) (sc := defScope s__read_columns) (by decide +kernel)) (fun _ _ _ _ _ => (pg_name (i := 2) sc__read_columns.nd rfl (Or.inl rfl) (Or.inr rfl))) (fun _ _ _ _ _ => pts_nil) (fun _ _ _ _ _ => (pe_ix (ixT K) (pv 2) pe_int (fun _ _ => rfl))))
      (pss_cons (ps_set (i := 4) sc__read_columns.nd rfl (Or.inl rfl) (pe_lst pa_nil))
      (pss_cons (ps_for own_def rfl (pi_seq (pv 0)) (pg_seq rfl (pgs_cons (pg_name (i := 5) sc__read_columns.nd rfl (Or.inl rfl)) (pgs_cons (pg_name (i := 6) sc__read_columns.nd rfl (Or.inl rfl)) (pgs_cons (pg_name (i := 7) sc__read_columns.nd rfl (Or.inl rfl)) (pgs_cons (pg_name (i := 8) sc__read_columns.nd rfl (Or.inl rfl)) pgs_nil))))) (pss_cons (ps_expr (own_callR O__want_free_name hr (by first | decide | omega) takes_def (pa_cons (pv 5) (pa_cons (pe_op op_cat (pv 3) (pe_lc (own := [("column", 9)]) (g := gName 9) (by rfl) sc__read_columns.nd (pi_list (pv 4)) (blkOk_by (own := [("column", 9)]) (N := N__read_columns) (sc := defScope s__read_columns) (by decide +kernel)) (fun _ _ _ _ _ => (pg_name (i := 9) sc__read_columns.nd rfl (Or.inl rfl) (Or.inr rfl))) (fun _ _ _ _ _ => pts_nil) (fun _ _ _ _ _ => (pe_ix (ixT K) (pv 9) pe_int (fun _ _ => rfl))))) pa_nil))))
      (pss_cons (ps_for own_def rfl (pi_tup (pe_tup (pa_cons (pv 6) (pa_cons (pv 7) pa_nil)))) (pg_name (i := 2) sc__read_columns.nd rfl (Or.inl rfl)) (pss_one (ps_if (pt_not (pt_val (own_call O_is_word_of hr (by first | decide | omega) (pa_cons (pv 2) (pa_cons (pv 3) pa_nil))))) (pss_one (ps_err rfl takes_def (pmk_err1 O_UnknownKind (hr.mono (by decide)) (pa_cons (pv 2) pa_nil)))) pss_nil)))
      (pss_cons (ps_if (pt_not (pt_val (own_call O_is_word_of hr (by first | decide | omega) (pa_cons (pv 8) (pa_cons (glob_ref G.RULES) pa_nil))))) (pss_one (ps_err rfl takes_def (pmk_err1 O_BadRule (hr.mono (by decide)) (pa_cons (pv 8) pa_nil)))) pss_nil)
      (pss_one (ps_expr (pe_bm PySem.F.plainAttrs_list PySem.F.slot_list_append PySem.F.type_list_append mt_append (pv 4) (pa_cons (pe_tup (pa_cons (pv 5) (pa_cons (pv 6) (pa_cons (pv 7) (pa_cons (pv 8) pa_nil))))) pa_nil))))))))
      (pss_one (ps_ret (pe_callTy (tuple_of K) (by rfl) T.m_tuple (by decide +kernel) (pa_cons (pv 4) pa_nil))))))), ?_⟩
    walk_at "ls"
    have lkn : kn.length = ks.length := by
      have z := congrArg List.length ekn
      rw [List.length_map, List.length_map] at z
      exact z.symm
    have ly : ys.length < sizeLine := Nat.lt_of_le_of_lt (by rw [hy.len, List.length_map]; exact lk) (show 1000 < sizeLine by decide)
    refine ⟨⟨_, .inl (.inl hb)⟩, fun D1 hD1 => ?_⟩
    have nbD : b ≠ D1 := ne_of_none hb hD1
    refine lc_pure (walk_tup (xs := ys)) ys (fstOf H) rfl (fun i H x H' hi hy => hy) ly (fun acc => .inl (.inl (by rw [upd_ne nbD]; exact hb))) (fun j y hj hyj => ?_) ?_
    · obtain ⟨zs, hzs, hto⟩ := TupsAt.get hy hyj
      obtain ⟨k2, hk2, rfl⟩ := map_get hzs
      obtain ⟨t2, rfl, ht2⟩ := id hto
      have n2 : t2 ≠ D1 := ne_of_none ht2 hD1
      refine ⟨rfl, ?_⟩
      walk_at "ls"
      exact lc_yes hyj hj ly (fst_tup hto)
    rw [fst_all (fun a : V × V => a.1) (fun a => [a.2]) (l := ks) hy, ekn]
    refine at_heap (φ := fun H1 => Same H H1 ∧ H1 D1 = some (.lst (kn.map V.str))) ⟨same_new hD1, upd_same⟩ ?_
    rintro H1 ⟨s1, h1D⟩
    refine ⟨Nat.zero_le _, fun p hp => ?_⟩
    have s1p : Same H1 (upd H1 p (.lst [])) := same_new hp
    walk_at "ls"
    have hpn : H p = none := s1.free hp
    refine ⟨a, xs, H, rfl, ha, s1.trans s1p, fun J G' wk g0 gs => ?_⟩
    have lx : xs.length = cs.length := by rw [hx.len, List.length_map]
    refine for_it wk (fun i σ H2 => ∃ (fx : List V) (v2 v5 v6 v7 v8 : Option V) (zs : List Str), σ = [some (.ref a), some (.ref b), v2, some (.ref D1), some (.ref p), v5, v6, v7, v8, none] ∧ H2 p = some (.lst fx) ∧ TupsAt H2 fx ((cs.take i).map colU) ∧ Same H1 H2 ∧
        (cs.take i).map (·.1) = zs.map V.str ∧ colsErr kn [] cs = colsErr kn zs (cs.drop i))
      ⟨[], none, none, none, none, none, [], rfl, upd_same, .nil, s1p, rfl, rfl⟩ (fun i σ H2 _ ⟨_, _, _, _, _, _, _, _, _, _, s2, _⟩ => gs _ (s1.trans s2)) ?_ ?_
    · rintro i x σ Hz H2 hi ⟨fx, v2, v5, v6, v7, v8, zs, rfl, h2, h2t, s2, ez, ek⟩ ⟨rfl, hxi⟩
      have sH2 : Same H H2 := s1.trans s2
      obtain ⟨rs, hrs, t, rfl, hto⟩ := RowsAt.get (hx.same sH2) hxi
      obtain ⟨c, hc, rfl⟩ := map_get hrs
      have hcm : c ∈ cs := List.mem_of_getElem? hc
      obtain ⟨tg1, tg2, tg3, tg4⟩ := ht c hcm
      refine ⟨t, _, rfl, hto, rfl, _, _, rfl, _, _, rfl, _, _, rfl, _, _, rfl, rfl, ?_⟩
      have h2D := s2 _ _ h1D
      walk_at "ls"
      have lf : fx.length ≤ 1000 := by
        rw [h2t.len, List.length_map, List.length_take]
        omega
      have lz : fx.length < sizeLine := Nat.lt_of_le_of_lt lf (show 1000 < sizeLine by decide)
      -- names + [column[0] for column in found]
      refine ⟨⟨_, .inl (.inl h2)⟩, fun D hD => ?_⟩
      have npD : p ≠ D := ne_of_none h2 hD
      refine lc_pure (walk_list (xs := fx)) fx (fstOf H2) rfl (fun i H x H' hi hy => hy) lz (fun acc => .inl (.inl (by rw [upd_ne npD]; exact h2))) (fun j y hj hyj => ?_) ?_
      · obtain ⟨zs, hzs, hto⟩ := TupsAt.get h2t hyj
        obtain ⟨k2, hk2, rfl⟩ := map_get hzs
        obtain ⟨t2, rfl, ht2⟩ := id hto
        have n2 : t2 ≠ D := ne_of_none ht2 hD
        refine ⟨rfl, ?_⟩
        walk_at "ls"
        exact lc_yes hyj hj lz (fst_tup hto)
      rw [fst_all (fun a : Col => a.1) (fun a => [a.2.1, a.2.2.1, a.2.2.2]) (l := cs.take i) h2t, ez]
      have n1D : D1 ≠ D := ne_of_none h2D hD
      refine ⟨_, _, _, _, rfl, rfl, (by rw [upd_ne n1D]; exact h2D), upd_same, ?_, fun E1 hE1 => ?_⟩
      · have lzs : zs.length ≤ 1000 := by
          have z := congrArg List.length ez
          rw [List.length_map, List.length_map, List.length_take] at z
          omega
        rw [List.length_map, List.length_map]
        exact Nat.le_trans (show _ ≤ 2000 by omega) (show 2000 ≤ sizeLine by decide)
      have e1 := colsErr_step (kn := kn) (taken := zs) hc
      rw [ek, e1] at q
      unfold colErr at q
      have sE : Same H2 (upd (upd H2 D (.lst (zs.map V.str))) E1 (.lst (kn.map V.str ++ zs.map V.str))) := (same_new hD).trans (same_new hE1)
      simp only [tNil, List.set]
      refine free_of (ts := kn ++ zs) (tg1.same (sH2.trans sE)) (by rw [upd_same, List.map_append]) ?_
      cases hn : nameErr (kn ++ zs) c.1 with
      | some b =>
        rw [hn] at q
        exact nameE.go q (sH2.trans sE)
      | none =>
        rw [hn] at q
        simp only at q
        intro H3 s3
        obtain ⟨n1, n2⟩ := nameErr_none hn
        have s23 : Same H2 H3 := sE.trans s3
        have h3D := s23 _ _ h2D
        have h3 := s23 _ _ h2
        have sH3 : Same H H3 := sH2.trans s23
        -- for kind in (home, goal)
        walk_at "ls"
        refine ⟨(by show 2 ≤ sizeLine; decide), fun g hg => ?_⟩
        refine ⟨g, rfl, ⟨_, .inl (.inl upd_same)⟩, ?_⟩
        have n3g : D1 ≠ g := ne_of_none h3D hg
        have npg : p ≠ g := ne_of_none h3 hg
        have s3g : Same H3 (upd H3 g (.tup [c.2.1, c.2.2.1])) := same_new hg
        refine for_it (walk_tup (xs := [c.2.1, c.2.2.1])) (fun j σ H4 => ∃ v2 : Option V, σ = [some (.ref a), some (.ref b), v2, some (.ref D1), some (.ref p), some c.1, some c.2.1, some c.2.2.1, some c.2.2.2, none] ∧ H4 = upd H3 g (.tup [c.2.1, c.2.2.1]) ∧ (1 ≤ j → isWordV kn c.2.1 = true) ∧ (2 ≤ j → isWordV kn c.2.2.1 = true))
          ⟨v2, rfl, rfl, fun z => absurd z (by decide), fun z => absurd z (by decide)⟩ (fun j σ H4 _ ⟨_, _, e, _⟩ => .inl (.inl (by rw [e]; exact upd_same))) ?_ ?_
        · rintro j y σ Hy H4 hj ⟨v2, rfl, e4, w1, w2⟩ ⟨rfl, hyj⟩
          have sH4 : Same H H4 := by rw [e4]; exact sH3.trans s3g
          have hyt : Thg K H y := by
            match j, hj, hyj with
            | 0, _, h => rw [← Option.some.inj h]; exact tg2
            | 1, _, h => rw [← Option.some.inj h]; exact tg3
          walk_at "ls"
          refine ⟨y, D1, kn, rfl, hyt.same sH4, .inl (.inl (.inl (by rw [e4, upd_ne n3g]; exact h3D))), ?_⟩
          refine ⟨_, rfl, ?_⟩
          cases hw : isWordV kn y with
          | true =>
            refine iteF ⟨_, rfl, e4, fun _ => ?_, fun z => ?_⟩
            · match j, hj, hyj with
              | 0, _, h => rw [← Option.some.inj h] at hw; exact hw
              | 1, _, h => exact w1 (Nat.le_refl _)
            · match j, hj, hyj with
              | 0, _, h => exact absurd z (by decide)
              | 1, _, h => rw [← Option.some.inj h] at hw; exact hw
          | false =>
            refine iteT ?_
            walk_at "ls"
            have hE : oneE cK "kind" H E y := by
              match j, hj, hyj with
              | 0, _, h =>
                have e := Option.some.inj h
                change c.2.1 = y at e
                rw [e, hw, if_neg (by decide)] at q
                exact q
              | 1, _, h =>
                have e := Option.some.inj h
                change c.2.2.1 = y at e
                rw [w1 (Nat.le_refl _), if_pos rfl, e, hw, if_neg (by decide)] at q
                exact q
            exact fun d hd => hE _ d sH4 hd
        · rintro σ H4 ⟨v2, rfl, e4, w1, w2⟩
          rw [w1 (by show 1 ≤ 2; decide), w2 (Nat.le_refl _), if_pos rfl, if_pos rfl] at q
          have sH4 : Same H H4 := by rw [e4]; exact sH3.trans s3g
          walk_at "ls"
          refine ⟨_, aR, ruleW, rfl, tg4.same sH4, .inr (G.kRULES.sq _), ?_⟩
          refine ⟨_, rfl, ?_⟩
          cases hw : isWordV ruleW c.2.2.2 with
          | false =>
            rw [hw, if_neg (by decide)] at q
            refine iteT ?_
            walk_at "ls"
            exact fun d hd => q _ d sH4 hd
          | true =>
            rw [hw, if_pos rfl] at q
            simp only at q
            refine iteF ?_
            walk_at "ls"
            refine ⟨.inl ⟨rfl, _, .inl (.inl (show H4 p = some (.lst fx) by rw [e4, upd_ne npg]; exact h3))⟩, ?_⟩
            walk_at "ls"
            refine ⟨(by show 4 ≤ sizeLine; decide), fun t2 ht2 => ?_⟩
            have h4 : H4 p = some (.lst fx) := by rw [e4, upd_ne npg]; exact h3
            have npt : p ≠ t2 := ne_of_none h4 ht2
            have s24 : Same H2 H4 := s23.trans (by rw [e4]; exact same_new hg)
            have h4' : (upd H4 t2 (.tup [c.1, c.2.1, c.2.2.1, c.2.2.2])) p = some (.lst fx) := by rw [upd_ne npt]; exact h4
            refine ⟨_, _, _, rfl, rfl, h4', lz, fx ++ [.ref t2], _, _, _, _, _, zs ++ [strOf c.1], rfl, upd_same, ?_, ?_, ?_, ?_⟩
            · rw [List.take_add_one, hc, Option.toList_some, List.map_append]
              exact (h2t.keep (((TK.same s24).trans (.new ht2)).trans (.lst h4'))).snoc ⟨t2, rfl, by rw [upd_ne npt.symm]; exact upd_same⟩
            · exact Same.set ((s2.trans s24).trans (same_new ht2)) hp
            · rw [List.take_add_one, hc, Option.toList_some, List.map_append, ez, List.map_append, List.map_cons, List.map_cons, ← name_str n1]
              rfl
            · rw [ek, e1]
              unfold colErr
              rw [hn]
              simp only [w1 (show 1 ≤ 2 by decide), w2 (Nat.le_refl 2), hw, if_true]
    · rintro σ H2 ⟨fx, v2, v5, v6, v7, v8, zs, rfl, h2, h2t, s2, ez, ek⟩
      rw [lx, List.take_length] at h2t
      rw [lx, List.drop_length] at ek
      rw [ek] at q
      walk_at "ls"
      refine ⟨p, fx, rfl, .inl ⟨.inl (.inl h2), fun l hl => ?_⟩⟩
      exact q _ l fx upd_same (h2t.keep (.new hl)) ((s1.trans s2).trans (same_new hl))
end
end Ls
namespace Ls
open PySem PySem.Spec PyProof.Rows L2
/-! ### short steps -/
local macro_rules | `(tactic| walk_at "ls_ne") => `(tactic| first | assumption | exact Ne.symm (by assumption) | exact ne_of_none (by assumption) (by assumption) | exact Ne.symm (ne_of_none (by assumption) (by assumption)))
local macro_rules | `(tactic| walk_at "ls_hp") => `(tactic| first
  | with_reducible assumption
  | exact upd_same
  | exact Eq.trans (upd_ne (by walk_at "ls_ne")) (by walk_at "ls_hp"))
local macro_rules | `(tactic| walk_at "ls_st") => `(tactic| first
  | with_reducible assumption
  | exact Stm.upd (by walk_at "ls_st") (by first | walk_at "ls_ne" | exact (Stm.noneS (by assumption) (by assumption)).1) (by first | walk_at "ls_ne" | exact (Stm.noneS (by assumption) (by assumption)).2))
local macro_rules | `(tactic| walk_at "ls1") => `(tactic| first
  | refine ⟨_, rfl, ?_⟩
  | refine ⟨_, _, rfl, rfl, ?_⟩
  | refine ⟨_, _, _, _, rfl, rfl, .inl (.inl (by walk_at "ls_hp")), rfl, ?_⟩
  | refine ⟨_, _, _, _, rfl, rfl, (by walk_at "ls_hp"), rfl, ?_⟩
  | refine ⟨rfl, _, rfl, ?_⟩
  | refine ⟨.inl ⟨rfl, _, .inl (.inl (by walk_at "ls_hp"))⟩, ?_⟩)
local macro_rules | `(tactic| walk_at "ls") => `(tactic| repeat (walk_at "ls1"))

/-- the menu by the names -/
def menuU (kn cn : List Str) : List Str := (cn.flatMap (withN colW) ++ kn.flatMap (withN kindW)) ++ bookW
theorem menuU_len (kn cn : List Str) : (menuU kn cn).length = 5 * cn.length + 3 * kn.length + 2 := by
  unfold menuU
  rw [List.length_append, List.length_append, flat_len _ 5 (fun c => by rw [withN, List.length_map]; rfl), flat_len _ 3 (fun c => by rw [withN, List.length_map]; rfl)]
  rfl
theorem names_at {α : Type} {l : List (V × α)} {zs : List Str} (e : l.map (·.1) = zs.map V.str) {i : Nat} {c : V × α} (h : l[i]? = some c) : ∃ z, zs[i]? = some z ∧ c.1 = .str z := by
  have h2 : (l.map (·.1))[i]? = some c.1 := by rw [List.getElem?_map, h]; rfl
  rw [e] at h2
  obtain ⟨z, hz, ez⟩ := map_get h2
  exact ⟨z, hz, ez⟩
theorem flat_snocU {f : Str → List Str} {l : List Str} {i : Nat} {z : Str} (h : l[i]? = some z) : (l.take (i + 1)).flatMap f = (l.take i).flatMap f ++ f z := by
  rw [List.take_add_one, h, List.flatMap_append]
  simp
def onlyIn (ts : List Str) (v : V) : Option V := if inV v (ts.map V.str) = true then some v else none
theorem onlyIn_all (ts : List Str) : ∀ ys : List Str, (ys.map V.str).filterMap (onlyIn ts) = (ys.filter fun z => decide (z ∈ ts)).map V.str
  | [] => rfl
  | y :: r => by
    rw [List.map_cons, List.filterMap_cons, List.filter_cons, onlyIn_all ts r]
    unfold onlyIn
    rw [in_strs]
    by_cases h : y ∈ ts
    · simp [h]
    · simp [h]
section
variable {P : Program} {w : World} {K : PySem.W.Frag} {mg : Str → Option Value} {base : Heap}
/-! ### _menu_of -/
abbrev s__menu_of : Stmt := topS 25
theorem sc__menu_of : FnScope ["kinds", "columns", "found", "column", "kind", "word"] ["kinds", "columns"] (defScope s__menu_of) := ⟨rfl, rfl, rfl, by decide +kernel, rfl, by decide +kernel, by decide +kernel⟩
abbrev N__menu_of : List Str := ["kinds", "columns", "found", "column", "kind", "word"]
def spMenu : Sp := fun vs H Q _ => ∃ (a b : Addr) (xs ys : List V) (ks : List (V × V)) (cs : List Col) (kn cn : List Str), vs = [.ref a, .ref b] ∧ H a = some (.tup xs) ∧ TupsAt H xs (ks.map fun k => [k.1, k.2]) ∧ H b = some (.tup ys) ∧ TupsAt H ys (cs.map colU) ∧
  ks.map (·.1) = kn.map V.str ∧ cs.map (·.1) = cn.map V.str ∧ kn.length ≤ 1000 ∧ cn.length ≤ 1000 ∧ (∀ z ∈ kn, z.length ≤ 8) ∧ (∀ z ∈ cn, z.length ≤ 8) ∧
  ∀ (H' : Hp) (p : Addr), H' p = some (.tup ((menuU kn cn).map V.str)) → Same H H' → Q (.ref p) H'
theorem ok_menu {f : Addr} {fd : FuncData} {aR aC aK aB : Addr} {tS tL tN : Tok} (F : Fun K "_menu_of" "_menu_of" s__menu_of f fd) (T : Bt mg) (G : Gn K mg aR aC aK aB tS tL tN) : FnOk P w K mg base CX0 1 f fd ["kinds", "columns"] spMenu := by
  refine F.ok sc__menu_of (fun vs H Q E h => ?_) (fun cdv A outer s H vs Q E hr h => ?_)
  · obtain ⟨a, b, xs, ys, ks, cs, kn, cn, rfl, _⟩ := h
    rfl
  · obtain ⟨ka, ca, kx, cx, ks, cs, kn, cn, rfl, hka, hkt, hca, hct, ekn, ecn, lkn, lcn, nk, nc, q⟩ := h
    have lks : ks.length = kn.length := by
      have z := congrArg List.length ekn
      rw [List.length_map, List.length_map] at z
      exact z
    have lcs : cs.length = cn.length := by
      have z := congrArg List.length ecn
      rw [List.length_map, List.length_map] at z
      exact z
    have hu := hu_of hr
    refine ⟨_, (pss_cons (ps_set (i := 2) sc__menu_of.nd rfl (Or.inl rfl) (pe_lst pa_nil))
      (pss_cons (ps_for PassesOwn.never rfl (pi_tup (pv 1)) (pg_name (i := 3) sc__menu_of.nd rfl (Or.inr rfl)) (pss_one (ps_expr (pe_bm PySem.F.plainAttrs_list PySem.F.slot_list_extend PySem.F.type_list_extend mt_extend (pv 2) (pa_cons (pe_lc (own := [("word", 5)]) (g := gName 5) (by rfl) sc__menu_of.nd (pi_tup (glob_ref G.COLUMN_CHECKS)) (blkOk_by (own := [("word", 5)]) (N := N__menu_of) (sc := defScope s__menu_of) (by decide +kernel)) (fun _ _ _ _ _ => (pg_name (i := 5) sc__menu_of.nd rfl (Or.inl rfl) (Or.inr rfl))) (fun _ _ _ _ _ => pts_nil) (fun _ _ _ _ _ => (pe_op op_add_str (pe_op op_add_str (pv 5) pe_str) (pe_ix (ixT K) (pv 3) pe_int (fun _ _ => rfl))))) pa_nil)))))
      (pss_cons (ps_for PassesOwn.never rfl (pi_tup (pv 0)) (pg_name (i := 4) sc__menu_of.nd rfl (Or.inr rfl)) (pss_one (ps_expr (pe_bm PySem.F.plainAttrs_list PySem.F.slot_list_extend PySem.F.type_list_extend mt_extend (pv 2) (pa_cons (pe_lc (own := [("word", 5)]) (g := gName 5) (by rfl) sc__menu_of.nd (pi_tup (glob_ref G.KIND_CHECKS)) (blkOk_by (own := [("word", 5)]) (N := N__menu_of) (sc := defScope s__menu_of) (by decide +kernel)) (fun _ _ _ _ _ => (pg_name (i := 5) sc__menu_of.nd rfl (Or.inl rfl) (Or.inr rfl))) (fun _ _ _ _ _ => pts_nil) (fun _ _ _ _ _ => (pe_op op_add_str (pe_op op_add_str (pv 5) pe_str) (pe_ix (ixT K) (pv 4) pe_int (fun _ _ => rfl))))) pa_nil)))))
      (pss_cons (ps_expr (pe_bm PySem.F.plainAttrs_list PySem.F.slot_list_extend PySem.F.type_list_extend (mt_extK K) (pv 2) (pa_cons (glob_ref G.BOOK_CHECKS) pa_nil)))
      (pss_one (ps_ret (pe_callTy (tuple_of K) (by rfl) T.m_tuple (by decide +kernel) (pa_cons (pv 2) pa_nil)))))))), ?_⟩
    refine ⟨Nat.zero_le _, fun p hp => ?_⟩
    have s0 : Same H (upd H p (.lst [])) := same_new hp
    walk_at "ls"
    refine ⟨⟨_, .inl (.inl (s0 _ _ hca))⟩, ?_⟩
    refine for_it (walk_tup (xs := cx)) (fun i σ H1 => ∃ v : Option V, σ = [some (.ref ka), some (.ref ca), some (.ref p), v, none, none] ∧ H1 p = some (.lst (((cn.take i).flatMap (withN colW)).map V.str)) ∧ Same H H1)
      ⟨none, rfl, upd_same, s0⟩ (fun i σ H1 _ ⟨_, _, _, s1⟩ => .inl (.inl (s1 _ _ hca))) ?_ ?_
    · rintro i x σ Hz H1 hi ⟨v, rfl, h1, s1⟩ ⟨rfl, hx⟩
      obtain ⟨ys, hys, t, rfl, ht⟩ := TupsAt.get (hct.keep (.same s1)) hx
      obtain ⟨c, hc, rfl⟩ := map_get hys
      obtain ⟨z, hz, ecz⟩ := names_at ecn hc
      have hnm : z.length ≤ 8 := nc _ (List.mem_of_getElem? hz)
      unfold colU at ht
      rw [ecz] at ht
      walk_at "ls"
      refine ⟨⟨_, G.kCOL.sq _⟩, fun D hD => ?_⟩
      have npD : p ≠ D := ne_of_none h1 hD
      have ntD : t ≠ D := ne_of_none ht hD
      refine lc_pure (walk_tup (xs := colW.map V.str)) (colW.map V.str) (addN z) rfl (fun i H x H' hi hy => hy) (by decide +kernel) (fun acc => G.kCOL.sq _) (fun k y hk hy => ?_) ?_
      · obtain ⟨a, ha, rfl⟩ := map_get hy
        have hal : a.length ≤ 5 := colW_len a (List.mem_of_getElem? ha)
        refine ⟨rfl, ?_⟩
        walk_at "ls"
        refine ⟨room_str (m := 1) hal (by decide +kernel) (by decide), ?_⟩
        walk_at "ls"
        refine ⟨room_str (n := 6) (m := 8) (word_len hal) hnm (by decide), ?_⟩
        exact lc_yes hy hk (by decide +kernel) rfl
      rw [addN_all]
      refine ⟨_, _, _, _, rfl, rfl, (by rw [upd_ne npD]; exact h1), upd_same, ?_, ?_⟩
      · rw [List.length_map, List.length_map, flat_len _ 5 (fun c => by rw [withN, List.length_map]; rfl), withN, List.length_map, List.length_take]
        show 5 * _ + 5 ≤ sizeLine
        exact Nat.le_trans (by omega) (show 10000 ≤ sizeLine by decide)
      · refine ⟨_, rfl, ?_, ?_⟩
        · rw [upd_same, flat_snocU hz, List.map_append]
        · exact Same.set (s1.trans (same_new hD)) hp
    · rintro σ H1 ⟨v, rfl, h1, s1⟩
      have e1 : cn.take cx.length = cn := by
        have := hct.len
        rw [List.length_map] at this
        rw [this, lcs, List.take_length]
      rw [e1] at h1
      walk_at "ls"
      refine ⟨⟨_, .inl (.inl (s1 _ _ hka))⟩, ?_⟩
      refine for_it (walk_tup (xs := kx)) (fun i σ H1 => ∃ v v3 : Option V, σ = [some (.ref ka), some (.ref ca), some (.ref p), v, v3, none] ∧ H1 p = some (.lst ((cn.flatMap (withN colW) ++ (kn.take i).flatMap (withN kindW)).map V.str)) ∧ Same H H1)
        ⟨v, none, rfl, (by rw [List.take_zero, List.flatMap_nil, List.append_nil]; exact h1), s1⟩ (fun i σ H1 _ ⟨_, _, _, _, s1⟩ => .inl (.inl (s1 _ _ hka))) ?_ ?_
      · clear h1 s1 v
        rintro i x σ Hz H1 hi ⟨v, v3, rfl, h1, s1⟩ ⟨rfl, hx⟩
        obtain ⟨ys, hys, t, rfl, ht⟩ := TupsAt.get (hkt.keep (.same s1)) hx
        obtain ⟨c, hc, rfl⟩ := map_get hys
        obtain ⟨z, hz, ecz⟩ := names_at ekn hc
        have hnm : z.length ≤ 8 := nk _ (List.mem_of_getElem? hz)
        rw [ecz] at ht
        walk_at "ls"
        refine ⟨⟨_, G.kKIND.sq _⟩, fun D hD => ?_⟩
        have npD : p ≠ D := ne_of_none h1 hD
        have ntD : t ≠ D := ne_of_none ht hD
        refine lc_pure (walk_tup (xs := kindW.map V.str)) (kindW.map V.str) (addN z) rfl (fun i H x H' hi hy => hy) (by decide +kernel) (fun acc => G.kKIND.sq _) (fun k y hk hy => ?_) ?_
        · obtain ⟨a, ha, rfl⟩ := map_get hy
          have hal : a.length ≤ 5 := kindW_len a (List.mem_of_getElem? ha)
          refine ⟨rfl, ?_⟩
          walk_at "ls"
          refine ⟨room_str (m := 1) hal (by decide +kernel) (by decide), ?_⟩
          walk_at "ls"
          refine ⟨room_str (n := 6) (m := 8) (word_len hal) hnm (by decide), ?_⟩
          exact lc_yes hy hk (by decide +kernel) rfl
        rw [addN_all]
        refine ⟨_, _, _, _, rfl, rfl, (by rw [upd_ne npD]; exact h1), upd_same, ?_, ?_⟩
        · rw [List.length_map, List.length_append, List.length_map, flat_len _ 5 (fun c => by rw [withN, List.length_map]; rfl), flat_len _ 3 (fun c => by rw [withN, List.length_map]; rfl), withN, List.length_map, List.length_take]
          show 5 * _ + 3 * _ + 3 ≤ sizeLine
          exact Nat.le_trans (by omega) (show 10000 ≤ sizeLine by decide)
        · refine ⟨_, _, rfl, ?_, ?_⟩
          · rw [upd_same, flat_snocU hz, List.map_append, List.map_append, List.map_append, List.append_assoc]
          · exact Same.set (s1.trans (same_new hD)) hp
      · clear h1 s1 v
        rintro σ H1 ⟨v, v3, rfl, h1, s1⟩
        have e2 : kn.take kx.length = kn := by
          have := hkt.len
          rw [List.length_map] at this
          rw [this, lks, List.take_length]
        rw [e2] at h1
        walk_at "ls"
        have em : (cn.flatMap (withN colW) ++ kn.flatMap (withN kindW)).map V.str ++ bookW.map V.str = (menuU kn cn).map V.str := by
          unfold menuU
          rw [List.map_append (l₂ := bookW)]
        have lm : ((menuU kn cn).map V.str).length ≤ 10000 := by
          rw [List.length_map, menuU_len]
          omega
        refine ⟨_, _, _, _, rfl, rfl, h1, G.kBOOK, ?_, ?_⟩
        · rw [← List.length_append, em]
          exact Nat.le_trans lm (show 10000 ≤ sizeLine by decide)
        rw [em]
        have s2 : Same H (upd H1 p (.lst ((menuU kn cn).map V.str))) := Same.set s1 hp
        walk_at "ls"
        refine ⟨p, _, rfl, .inl ⟨.inl (.inl upd_same), fun l hl => ?_⟩⟩
        exact q _ l upd_same (s2.trans (same_new hl))
/-! ### _read_checks -/
abbrev s__read_checks : Stmt := topS 26
theorem sc__read_checks : FnScope ["checks", "menu", "given", "check"] ["checks", "menu"] (defScope s__read_checks) := ⟨rfl, rfl, rfl, by decide +kernel, rfl, by decide +kernel, by decide +kernel⟩
abbrev N__read_checks : List Str := ["checks", "menu", "given", "check"]
/-- the first check that is none -/
def checksErr (mn : List Str) (ck : List V) : Option V := ck.find? fun v => !isWordV mn v
theorem checks_strs {mn : List Str} : ∀ {ck : List V}, (∀ v ∈ ck, isWordV mn v = true) → ck = (ck.map strOf).map V.str
  | [], _ => rfl
  | v :: r, h => by
    rw [List.map_cons, List.map_cons, ← word_str (h v (.head _)), ← checks_strs fun u hu => h u (.tail _ hu)]
def spReadX (K : PySem.W.Frag) (cX : Addr) : Sp := fun vs H Q E => ∃ (a b : Addr) (ck : List V) (mn : List Str), vs = [.ref a, .ref b] ∧ SqU K H a ck ∧ (∀ v ∈ ck, Thg K H v) ∧ H b = some (.tup (mn.map V.str)) ∧ ck.length ≤ 1000 ∧ mn.length ≤ 10000 ∧
  match checksErr mn ck with
  | some v => oneE cX "check" H E v
  | none => ∀ (H' : Hp) (p : Addr), H' p = some (.tup ((mn.filter fun z => decide (z ∈ ck.map strOf)).map V.str)) → Same H H' → Q (.ref p) H'
theorem ok_readX {f : Addr} {fd : FuncData} {cX : Addr} (F : Fun K "_read_checks" "_read_checks" s__read_checks f fd) (T : Bt mg) (O_is_word_of : Own P w K mg base CX0 1 "is_word_of" ["thing", "words"] (spWord K))
    (O_UnknownCheck : OwnX P w K mg base "UnknownCheck" ["check"] (spI1 cX "check") cX) : FnOk P w K mg base (L2.CX P w) 4 f fd ["checks", "menu"] (spReadX K cX) := by
  refine F.okX sc__read_checks (fun vs H Q E h => ?_) (fun cdv A outer s H vs Q E hr h => ?_)
  · obtain ⟨a, b, ck, mn, rfl, _⟩ := h
    rfl
  · obtain ⟨a, b, ck, mn, rfl, ha, ht, hb, lc, lm, q⟩ := h
    have hu := hu_of hr
    refine ⟨_, (pss_cons (ps_set (i := 2) sc__read_checks.nd rfl (Or.inr rfl) (pe_callTy (list_of K) (by rfl) T.m_list (by decide +kernel) (pa_cons (pv 0) pa_nil)))
      (pss_cons (ps_for own_def rfl (pi_list (pv 2)) (pg_name (i := 3) sc__read_checks.nd rfl (Or.inl rfl)) (pss_one (ps_if (pt_not (pt_val (own_call O_is_word_of hr (by first | decide | omega) (pa_cons (pv 3) (pa_cons (pv 1) pa_nil))))) (pss_one (ps_err rfl takes_def (pmk_err1 O_UnknownCheck (hr.mono (by decide)) (pa_cons (pv 3) pa_nil)))) pss_nil)))
      (pss_one (ps_ret (pe_callTy (tuple_of K) (by rfl) T.m_tuple (by decide +kernel) (pa_cons (pe_lc (own := [("check", 3)]) (g := gName 3) (by rfl) sc__read_checks.nd (pi_tup (pv 1)) (blkOk_by (own := [("check", 3)]) (N := N__read_checks) (sc := defScope s__read_checks) (by decide +kernel)) (fun _ _ _ _ _ => (pg_name (i := 3) sc__read_checks.nd rfl (Or.inl rfl) (Or.inr rfl))) (fun _ _ _ _ _ => (pts_one (pt_cmpR (in_seq K) (pv 3) (pv 2) (by rfl)))) (fun _ _ _ _ _ => (pv 3))) pa_nil)))))), ?_⟩
    walk_at "ls"
    refine ⟨a, ck, rfl, ha, fun g hg => ?_⟩
    have s0 : Same H (upd H g (.lst ck)) := same_new hg
    walk_at "ls"
    refine ⟨⟨_, .inl (.inl upd_same)⟩, ?_⟩
    refine for_it (walk_list (xs := ck)) (fun i σ H1 => ∃ v : Option V, σ = [some (.ref a), some (.ref b), some (.ref g), v] ∧ H1 = upd H g (.lst ck) ∧ ∀ u ∈ ck.take i, isWordV mn u = true)
      ⟨none, rfl, rfl, fun u hu => by rw [List.take_zero] at hu; cases hu⟩ (fun i σ H1 _ ⟨_, _, e, _⟩ => .inl (.inl (by rw [e]; exact upd_same))) ?_ ?_
    · rintro i x σ Hz H1 hi ⟨v, rfl, e1, hw⟩ ⟨rfl, hx⟩
      have sH : Same H H1 := by rw [e1]; exact s0
      walk_at "ls"
      refine ⟨x, b, mn, rfl, (ht x (List.mem_of_getElem? hx)).same sH, .inr (.inl (.inl (sH _ _ hb))), ?_⟩
      refine ⟨_, rfl, ?_⟩
      cases hx1 : isWordV mn x with
      | true =>
        refine iteF ⟨_, rfl, e1, fun u hu => ?_⟩
        rw [List.take_add_one, hx] at hu
        rcases List.mem_append.mp hu with hu | hu
        · exact hw u hu
        · have e := List.mem_singleton.mp hu
          rw [e]
          exact hx1
      | false =>
        refine iteT ?_
        walk_at "ls"
        have e : checksErr mn ck = some x := by
          unfold checksErr
          rw [← List.take_append_drop i ck, List.find?_append, List.find?_eq_none.mpr (fun u hu => by rw [hw u hu]; decide)]
          obtain ⟨hi2, e2⟩ := List.getElem?_eq_some_iff.mp hx
          rw [List.drop_eq_getElem_cons hi2, e2, List.find?_cons, hx1]
          rfl
        rw [e] at q
        exact fun d hd => q _ d sH hd
    · rintro σ H1 ⟨v, rfl, e1, hw⟩
      subst e1
      rw [List.take_length] at hw
      have e : checksErr mn ck = none := List.find?_eq_none.mpr fun u hu => by rw [hw u hu]; decide
      rw [e] at q
      have es := checks_strs hw
      generalize ck.map strOf = cz at es q
      subst es
      walk_at "ls"
      have hb1 := s0 _ _ hb
      refine ⟨⟨_, .inl (.inl hb1)⟩, fun D hD => ?_⟩
      have nbD : b ≠ D := ne_of_none hb1 hD
      have ngD : g ≠ D := ne_of_none upd_same hD
      have lz : (mn.map V.str).length < sizeLine := Nat.lt_of_le_of_lt (by rw [List.length_map]; exact lm) (show 10000 < sizeLine by decide)
      refine lc_pure (walk_tup (xs := mn.map V.str)) (mn.map V.str) (onlyIn cz) rfl (fun i H x H' hi hy => hy) lz (fun acc => .inl (.inl (by rw [upd_ne nbD]; exact hb1))) (fun k y hk hy => ?_) ?_
      · obtain ⟨z, hz, rfl⟩ := map_get hy
        refine ⟨rfl, ?_⟩
        walk_at "ls"
        refine ⟨g, _, rfl, .inl (.inl (.inl (by rw [upd_ne ngD]; exact upd_same))), rfl, all_flat cz, _, rfl, ?_⟩
        show if inV (V.str z) (cz.map V.str) = true then _ else _
        rw [in_strs]
        refine ite2 (fun e => ?_) (fun e => ?_)
        · walk_at "ls"
          exact lc_yes hy hk lz (by unfold onlyIn; rw [in_strs]; simpa using e)
        · exact lc_no hy (by unfold onlyIn; rw [in_strs]; simpa using e)
      rw [onlyIn_all]
      refine ⟨D, _, rfl, .inl ⟨.inl (.inl upd_same), fun l hl => ?_⟩⟩
      exact q _ l upd_same ((s0.trans (same_new hD)).trans (same_new hl))
end
end Ls
namespace Ls
open PySem PySem.Spec PyProof.Rows L2
/-! ### short steps -/
local macro_rules | `(tactic| walk_at "ls_ne") => `(tactic| first | assumption | exact Ne.symm (by assumption) | exact ne_of_none (by assumption) (by assumption) | exact Ne.symm (ne_of_none (by assumption) (by assumption)))
local macro_rules | `(tactic| walk_at "ls_hp") => `(tactic| first
  | with_reducible assumption
  | exact upd_same
  | exact Eq.trans (upd_ne (by walk_at "ls_ne")) (by walk_at "ls_hp"))
local macro_rules | `(tactic| walk_at "ls_st") => `(tactic| first
  | with_reducible assumption
  | exact Stm.upd (by walk_at "ls_st") (by first | walk_at "ls_ne" | exact (Stm.noneS (by assumption) (by assumption)).1) (by first | walk_at "ls_ne" | exact (Stm.noneS (by assumption) (by assumption)).2))
local macro_rules | `(tactic| walk_at "ls1") => `(tactic| first
  | refine ⟨_, rfl, ?_⟩
  | refine ⟨_, _, rfl, rfl, ?_⟩
  | refine ⟨_, _, _, _, rfl, rfl, .inl (.inl (by walk_at "ls_hp")), rfl, ?_⟩
  | refine ⟨_, _, _, _, rfl, rfl, (by walk_at "ls_hp"), rfl, ?_⟩
  | refine ⟨rfl, _, rfl, ?_⟩
  | refine ⟨.inl ⟨rfl, _, .inl (.inl (by walk_at "ls_hp"))⟩, ?_⟩)
local macro_rules | `(tactic| walk_at "ls") => `(tactic| repeat (walk_at "ls1"))

/-- as FunE.ok, for a def that may raise -/
theorem FunE.okX {P : Program} {w : World} {K : PySem.W.Frag} {mg : Str → Option Value} {base : Heap} {x qual : Str} {st : Stmt} {f : Addr} {fd : FuncData} {N ps : List Str} {k : Nat} {sp : Sp} (F : FunE K x qual st f fd) (S : FnScope N ps (defScope st))
    (len : ∀ vs H Q E, sp vs H Q E → vs.length = ps.length)
    (body : ∀ (cdv : Value) (A : Around) (outer : List Env) (s : Shared) (H : Hp) (vs : List V) (Q : VK) (E : XK), Room k (A.deeper (envOfC qual (defScope st) s.heap.objs.size f cdv)) → sp vs H Q E →
      ∃ t, PSs (cxOf (L2.CX P w) P w K mg base N qual (defScope st) f cdv A outer s H E) (defBody st) t ∧ t { nx := fun _ H' => Q .non H', rt := Q } (start N vs) H) : FnOk P w K mg base (L2.CX P w) (k + 1) f fd ps sp := by
  obtain ⟨oc, od, dV, kV, doc, pm, an, cdv, ct, osl, rfl, lk, hcd⟩ := F.ex
  exact fn_of lk hcd S len fun A outer s H vs Q E hr hsp => body cdv A outer s H vs Q E hr hsp
/-! ### a book -/
def bookF (k c m x : Addr) : List (Str × V) := putF "_checks" (.ref x) (putF "_menu" (.ref m) (putF "_columns" (.ref c) (putF "_kinds" (.ref k) [])))
theorem b12 : ¬ (("_kinds" : Str) = "_columns") := by decide +kernel
theorem b13 : ¬ (("_kinds" : Str) = "_menu") := by decide +kernel
theorem b14 : ¬ (("_kinds" : Str) = "_checks") := by decide +kernel
theorem b23 : ¬ (("_columns" : Str) = "_menu") := by decide +kernel
theorem b24 : ¬ (("_columns" : Str) = "_checks") := by decide +kernel
theorem b34 : ¬ (("_menu" : Str) = "_checks") := by decide +kernel
theorem bookF_k {k c m x : Addr} : (bookF k c m x).lookup ("_kinds" : Str) = some (.ref k) := by
  unfold bookF
  rw [lookup_putF, if_neg b14, lookup_putF, if_neg b13, lookup_putF, if_neg b12, lookup_putF, if_pos rfl]
theorem bookF_c {k c m x : Addr} : (bookF k c m x).lookup ("_columns" : Str) = some (.ref c) := by
  unfold bookF
  rw [lookup_putF, if_neg b24, lookup_putF, if_neg b23, lookup_putF, if_pos rfl]
theorem bookF_m {k c m x : Addr} : (bookF k c m x).lookup ("_menu" : Str) = some (.ref m) := by
  unfold bookF
  rw [lookup_putF, if_neg b34, lookup_putF, if_pos rfl]
theorem bookF_x {k c m x : Addr} : (bookF k c m x).lookup ("_checks" : Str) = some (.ref x) := by
  unfold bookF
  rw [lookup_putF, if_pos rfl]
theorem bookF_no {k c m x : Addr} {f : Str} (h1 : ¬ f = "_checks") (h2 : ¬ f = "_menu") (h3 : ¬ f = "_columns") (h4 : ¬ f = "_kinds") : (bookF k c m x).lookup f = none := by
  unfold bookF
  rw [lookup_putF, if_neg h1, lookup_putF, if_neg h2, lookup_putF, if_neg h3, lookup_putF, if_neg h4]
  rfl
def knOf (ks : List (V × V)) : List Str := ks.map fun k => strOf k.1
def cnOf (cs : List Col) : List Str := cs.map fun c => strOf c.1
/-- at o: a book with the kinds ks, the columns cs, the checks ck -/
structure BookU (C : Addr) (H : Hp) (o : Addr) (ks : List (V × V)) (cs : List Col) (ck : List Str) : Prop where
  ex : ∃ (dx k c m x : Addr) (kx cx : List V), H o = some (.ins C dx (bookF k c m x)) ∧ H k = some (.tup kx) ∧ TupsAt H kx (ks.map fun k => [k.1, k.2]) ∧ H c = some (.tup cx) ∧ TupsAt H cx (cs.map colU) ∧
    H m = some (.tup ((menuU (knOf ks) (cnOf cs)).map V.str)) ∧ H x = some (.tup (ck.map V.str))
theorem BookU.same {C : Addr} {H H' : Hp} {o : Addr} {ks : List (V × V)} {cs : List Col} {ck : List Str} (h : BookU C H o ks cs ck) (s : Same H H') : BookU C H' o ks cs ck := by
  obtain ⟨dx, k, c, m, x, kx, cx, h1, h2, h3, h4, h5, h6, h7⟩ := h
  exact ⟨dx, k, c, m, x, kx, cx, s _ _ h1, s _ _ h2, h3.keep (.same s), s _ _ h4, h5.keep (.same s), s _ _ h6, s _ _ h7⟩
/-- what is asked of the class -/
structure BkT (K : PySem.W.Frag) (C : Addr) : Prop where
  cl : Cls K C
  nk : NoAttr K C "_kinds"
  nc : NoAttr K C "_columns"
  nm : NoAttr K C "_menu"
  nx : NoAttr K C "_checks"
/-! ### what is wrong of a book's parts -/
inductive BkE
  | col (e : ColE)
  | check (v : V)
structure ErrA where
  name : Addr
  used : Addr
  kind : Addr
  rule : Addr
  check : Addr
/-- its class, its field, its value -/
def BkE.what (A : ErrA) : BkE → Addr × Str × V
  | .col (.name b v) => (if b = true then A.used else A.name, "name", v)
  | .col (.kind v) => (A.kind, "kind", v)
  | .col (.rule v) => (A.rule, "rule", v)
  | .check v => (A.check, "check", v)
def bookErr (ks : List (V × V)) (cs : List Col) (ck : List V) : Option BkE := match kindsErr [] ks with
  | some e => some (.col (.name e.1 e.2))
  | none => match colsErr (knOf ks) [] cs with
    | some e => some (.col e)
    | none => match checksErr (menuU (knOf ks) (cnOf cs)) ck with
      | some v => some (.check v)
      | none => none
theorem kinds_good : ∀ {ks : List (V × V)} {taken : List Str}, kindsErr taken ks = none → ks.map (·.1) = (knOf ks).map V.str ∧ ∀ z ∈ knOf ks, isNameB z = true
  | [], _, _ => ⟨rfl, fun z hz => by cases hz⟩
  | k :: r, taken, h => by
    unfold kindsErr at h
    cases hn : nameErr taken k.1 with
    | some b => rw [hn] at h; cases h
    | none =>
      rw [hn] at h
      obtain ⟨e, g⟩ := kinds_good h
      obtain ⟨n1, _⟩ := nameErr_none hn
      have ek := name_str n1
      refine ⟨?_, fun z hz => ?_⟩
      · show k.1 :: r.map (·.1) = V.str (strOf k.1) :: (knOf r).map V.str
        rw [← ek, e]
      · rcases List.mem_cons.mp hz with rfl | hz
        · rw [ek] at n1
          exact n1
        · exact g z hz
theorem cols_good {kn : List Str} : ∀ {cs : List Col} {taken : List Str}, colsErr kn taken cs = none → cs.map (·.1) = (cnOf cs).map V.str ∧ ∀ z ∈ cnOf cs, isNameB z = true
  | [], _, _ => ⟨rfl, fun z hz => by cases hz⟩
  | c :: r, taken, h => by
    unfold colsErr at h
    cases hc : colErr kn taken c with
    | some b => rw [hc] at h; cases h
    | none =>
      rw [hc] at h
      obtain ⟨e, g⟩ := cols_good h
      unfold colErr at hc
      cases hn : nameErr (kn ++ taken) c.1 with
      | some b => rw [hn] at hc; cases hc
      | none =>
        obtain ⟨n1, _⟩ := nameErr_none hn
        have ek := name_str n1
        refine ⟨?_, fun z hz => ?_⟩
        · show c.1 :: r.map (·.1) = V.str (strOf c.1) :: (cnOf r).map V.str
          rw [← ek, e]
        · rcases List.mem_cons.mp hz with rfl | hz
          · rw [ek] at n1
            exact n1
          · exact g z hz
theorem name_len {z : Str} (h : isNameB z = true) : z.length ≤ 8 := by
  unfold isNameB at h
  simp only [Bool.and_eq_true, decide_eq_true_eq] at h
  exact h.1.2.2
/-! ### all but o stays -/
def But (o : Addr) (H H' : Hp) : Prop := ∀ b u, b ≠ o → H b = some u → H' b = some u
theorem But.same {o : Addr} {H H' : Hp} (s : Same H H') : But o H H' := fun b u _ e => s b u e
theorem But.trans {o : Addr} {H H1 H2 : Hp} (a : But o H H1) (b : But o H1 H2) : But o H H2 := fun c u h e => b c u h (a c u h e)
theorem But.set {o : Addr} {H : Hp} {u : HO} : But o H (upd H o u) := fun b u h e => by rw [upd_ne h]; exact e
theorem But.tk {o C dx : Addr} {H H' : Hp} {fs : List (Str × V)} (b : But o H H') (h : H o = some (.ins C dx fs)) : TK H H' := fun t ys e => b t _ (ne_of e h fun z => nomatch z) e
/-- .. and o stays an instance -/
structure ButI (o C dx : Addr) (H H' : Hp) : Prop where
  but : But o H H'
  was : ∃ fs, H o = some (.ins C dx fs)
  is : ∃ fs, H' o = some (.ins C dx fs)
section
variable {K : PySem.W.Frag} {o C dx a : Addr} {H H' : Hp} {xs : List V} {v : V} {t : Value}
theorem ButI.rd (b : ButI o C dx H H') {u : HO} (hu : ∀ C dx fs, u ≠ .ins C dx fs) (h : Rd H a u) : Rd H' a u := by
  obtain ⟨fs, hw⟩ := b.was
  rcases h with h | ⟨ob, h⟩
  · exact .inl (b.but _ _ (ne_of h hw (hu _ _ _)) h)
  · exact .inr ⟨ob, b.but _ _ (ne_of h hw fun z => nomatch z) h⟩
theorem ButI.sqU (b : ButI o C dx H H') (h : SqU K H a xs) : SqU K H' a xs :=
  h.elim (fun z => .inl (z.elim (fun y => .inl (b.rd (fun _ _ _ z => nomatch z) y)) .inr)) fun z => .inr (z.elim (fun y => .inl (b.rd (fun _ _ _ z => nomatch z) y)) .inr)
theorem ButI.rows (b : ButI o C dx H H') : ∀ {xs : List V} {yss : List (List V)}, RowsAt K H xs yss → RowsAt K H' xs yss
  | _, _, .nil => .nil
  | _, _, .cons ⟨t, e, q⟩ r => .cons ⟨t, e, b.sqU q⟩ (ButI.rows b r)
theorem ButI.ty (b : ButI o C dx H H') (h : TyX K H v t) : TyX K H' v t := by
  obtain ⟨fs, hw⟩ := id b.was
  have k : ∀ {a : Addr} {u : HO}, (∀ C dx fs, u ≠ .ins C dx fs) → H a = some u → H' a = some u := fun {a u} n e => b.but _ _ (ne_of e hw (n _ _ _)) e
  cases h with
  | base h =>
    refine .base ?_
    cases h with
    | non => exact .non
    | bl x => exact .bl x
    | int i => exact .int i
    | str x => exact .str x
    | flt x => exact .flt x
    | lst e => exact .lst (k (fun _ _ _ z => nomatch z) e)
    | frz e => exact .frz (k (fun _ _ _ z => nomatch z) e)
    | tup e => exact .tup (k (fun _ _ _ z => nomatch z) e)
    | dK e => exact .dK (k (fun _ _ _ z => nomatch z) e)
    | dT e => exact .dT (k (fun _ _ _ z => nomatch z) e)
    | @ins a2 C2 dx2 fs2 e cl ha hn htk hm =>
      by_cases hb : a2 = o
      · subst hb
        rw [hw] at e
        cases e
        obtain ⟨fs3, hi⟩ := b.is
        exact .ins hi cl ha hn htk hm
      · exact .ins (b.but _ _ hb e) cl ha hn htk hm
  | byt x => exact .byt x
  | set e => exact .set (k (fun _ _ _ z => nomatch z) e)
  | kList e c => exact .kList e c
  | kTuple e c => exact .kTuple e c
  | kDict e c => exact .kDict e c
  | fTuple e => exact .fTuple (k (fun _ _ _ z => nomatch z) e)
  | fDict e => exact .fDict (k (fun _ _ _ z => nomatch z) e)
theorem ButI.thg (b : ButI o C dx H H') (h : Thg K H v) : Thg K H' v := h.elim .inl fun ⟨⟨t, x, y⟩, z⟩ => .inr ⟨⟨t, b.ty x, y⟩, z⟩
end
section
variable {P : Program} {w : World} {K : PySem.W.Frag} {mg : Str → Option Value} {base : Heap}
/-! ### Book.__init__ -/
abbrev s_Book_init : Stmt := inClass (topS 20) 0
theorem sc_Book_init : FnScope ["self", "kinds", "columns", "checks"] ["self", "kinds", "columns", "checks"] (defScope s_Book_init) := ⟨rfl, rfl, rfl, by decide +kernel, rfl, by decide +kernel, by decide +kernel⟩
abbrev N_Book_init : List Str := ["self", "kinds", "columns", "checks"]
def spInit (K : PySem.W.Frag) (C : Addr) (A : ErrA) : Sp := fun vs H Q E => ∃ (o dx ka ca xa : Addr) (kx cx ck : List V) (ks : List (V × V)) (cs : List Col), vs = [.ref o, .ref ka, .ref ca, .ref xa] ∧ H o = some (.ins C dx []) ∧
  SqU K H ka kx ∧ RowsAt K H kx (ks.map fun k => [k.1, k.2]) ∧ SqU K H ca cx ∧ RowsAt K H cx (cs.map colU) ∧ SqU K H xa ck ∧ (∀ k ∈ ks, Thg K H k.1) ∧ (∀ c ∈ cs, Thg K H c.1 ∧ Thg K H c.2.1 ∧ Thg K H c.2.2.1 ∧ Thg K H c.2.2.2) ∧ (∀ v ∈ ck, Thg K H v) ∧
  ks.length ≤ 1000 ∧ cs.length ≤ 1000 ∧ ck.length ≤ 1000 ∧
  match bookErr ks cs ck with
  | some e => ∀ H' d, But o H H' → H' d = none → E (.ref (e.what A).1) (some d) (upd H' d (.xd [((e.what A).2.1, (e.what A).2.2)]))
  | none => ∀ H' : Hp, BookU C H' o ks cs ((menuU (knOf ks) (cnOf cs)).filter fun z => decide (z ∈ ck.map strOf)) → But o H H' → Q .non H'
theorem ok_init {C : Addr} {A : ErrA} {f : Addr} {fd : FuncData} (F : FunE K "__init__" "Book.__init__" s_Book_init f fd) (T : BkT K C) (O__read_kinds : OwnR P w K mg base 4 "_read_kinds" ["kinds"] (spReadK K A.name A.used)) (O__read_columns : OwnR P w K mg base 4 "_read_columns" ["columns", "kinds"] (spReadC K A.name A.used A.kind A.rule))
    (O__menu_of : Own P w K mg base CX0 1 "_menu_of" ["kinds", "columns"] spMenu) (O__read_checks : OwnR P w K mg base 4 "_read_checks" ["checks", "menu"] (spReadX K A.check)) : FnOk P w K mg base (L2.CX P w) 5 f fd ["self", "kinds", "columns", "checks"] (spInit K C A) := by
  refine F.okX sc_Book_init (fun vs H Q E h => ?_) (fun cdv A' outer s H vs Q E hr h => ?_)
  · obtain ⟨o, dx, ka, ca, xa, kx, cx, ck, ks, cs, rfl, _⟩ := h
    rfl
  · obtain ⟨o, dx, ka, ca, xa, kx, cx, ck, ks, cs, rfl, ho, hka, hkt, hca, hct, hxa, tk, tc, tx, lk, lc, lx, q⟩ := h
    have hu := hu_of hr
    refine ⟨_, (pss_cons (ps_fld (pv 0) (own_callR O__read_kinds hr (by first | decide | omega) takes_def (pa_cons (pv 1) pa_nil)) rfl)
      (pss_cons (ps_fld (pv 0) (own_callR O__read_columns hr (by first | decide | omega) takes_def (pa_cons (pv 2) (pa_cons (pe_fld (pv 0) rfl) pa_nil))) rfl)
      (pss_cons (ps_fld (pv 0) (own_call O__menu_of hr (by first | decide | omega) (pa_cons (pe_fld (pv 0) rfl) (pa_cons (pe_fld (pv 0) rfl) pa_nil))) rfl)
      (pss_one (ps_fld (pv 0) (own_callR O__read_checks hr (by first | decide | omega) takes_def (pa_cons (pv 3) (pa_cons (pe_fld (pv 0) rfl) pa_nil))) rfl))))), ?_⟩
    unfold bookErr at q
    walk_at "ls"
    refine ⟨ka, kx, ks, rfl, hka, hkt, tk, lk, ?_⟩
    cases hk : kindsErr [] ks with
    | some e =>
      rw [hk] at q
      exact fun H' d s' n => q H' d (.same s') n
    | none =>
    rw [hk] at q
    simp only at q
    obtain ⟨ekn, gkn⟩ := kinds_good hk
    intro H1 k ys h1k h1t s1
    have h1o := s1 _ _ ho
    refine ⟨_, rfl, o, C, dx, [], rfl, h1o, T.cl, T.nk, (by show 0 < 1000; decide), ?_⟩
    refine at_heap (φ := fun H2 => H2 o = some (.ins C dx (putF "_kinds" (.ref k) [])) ∧ But o H H2 ∧ H2 k = some (.tup ys) ∧ TupsAt H2 ys (ks.map fun k => [k.1, k.2]))
      ⟨upd_same, (But.same s1).trans .set, But.set (o := o) _ _ (ne_of h1k h1o fun z => nomatch z) h1k, h1t.keep ((But.set (o := o)).tk h1o)⟩ ?_
    rintro H2 ⟨h2o, bt2, h2k, h2t⟩
    have bi2 : ButI o C dx H H2 := ⟨bt2, ⟨_, ho⟩, ⟨_, h2o⟩⟩
    walk_at "ls"
    have l1 : (putF "_kinds" (.ref k) []).lookup ("_kinds" : Str) = some (V.ref k) := by rw [lookup_putF, if_pos rfl]
    refine ⟨o, C, dx, _, _, rfl, h2o, T.cl, T.nk, l1, ?_⟩
    refine ⟨ca, k, cx, ys, cs, ks, knOf ks, rfl, bi2.sqU hca, bi2.rows hct, h2k, h2t, ekn, fun c hc => ?_, lc, lk, ?_⟩
    · obtain ⟨a, b, c', d⟩ := tc c hc
      exact ⟨bi2.thg a, bi2.thg b, bi2.thg c', bi2.thg d⟩
    cases hc : colsErr (knOf ks) [] cs with
    | some e =>
      rw [hc] at q
      cases e with
      | name b v => exact fun H' d s' n => q H' d (bt2.trans (.same s')) n
      | kind v => exact fun H' d s' n => q H' d (bt2.trans (.same s')) n
      | rule v => exact fun H' d s' n => q H' d (bt2.trans (.same s')) n
    | none =>
    rw [hc] at q
    simp only at q
    obtain ⟨ecn, gcn⟩ := cols_good hc
    intro H3 c zs h3c h3t s3
    have h3o := s3 _ _ h2o
    refine ⟨_, rfl, o, C, dx, _, rfl, h3o, T.cl, T.nc, (by show 1 < 1000; decide), ?_⟩
    have set3 : But o H3 (upd H3 o (.ins C dx (putF "_columns" (.ref c) (putF "_kinds" (.ref k) [])))) := .set
    refine at_heap (φ := fun H4 => H4 o = some (.ins C dx (putF "_columns" (.ref c) (putF "_kinds" (.ref k) []))) ∧ But o H H4 ∧ H4 k = some (.tup ys) ∧ TupsAt H4 ys (ks.map fun k => [k.1, k.2]) ∧ H4 c = some (.tup zs) ∧ TupsAt H4 zs (cs.map colU))
      ⟨upd_same, (bt2.trans (.same s3)).trans set3, set3 _ _ (ne_of (s3 _ _ h2k) h3o fun z => nomatch z) (s3 _ _ h2k), (h2t.keep (.same s3)).keep (set3.tk h3o), set3 _ _ (ne_of h3c h3o fun z => nomatch z) h3c, h3t.keep (set3.tk h3o)⟩ ?_
    clear h1k h1t s1 h1o h2k h2t h3c h3t s3 h3o set3 h2o bt2 bi2 l1
    rintro H4 ⟨h4o, bt4, h4k, h4kt, h4c, h4ct⟩
    have l1 : (putF "_columns" (.ref c) (putF "_kinds" (.ref k) [])).lookup ("_kinds" : Str) = some (V.ref k) := by rw [lookup_putF, if_neg b12, lookup_putF, if_pos rfl]
    have l2 : (putF "_columns" (.ref c) (putF "_kinds" (.ref k) [])).lookup ("_columns" : Str) = some (V.ref c) := by rw [lookup_putF, if_pos rfl]
    walk_at "ls"
    refine ⟨o, C, dx, _, _, rfl, h4o, T.cl, T.nk, l1, ?_⟩
    walk_at "ls"
    refine ⟨o, C, dx, _, _, rfl, h4o, T.cl, T.nc, l2, ?_⟩
    refine ⟨k, c, ys, zs, ks, cs, knOf ks, cnOf cs, rfl, h4k, h4kt, h4c, h4ct, ekn, ecn, (by unfold knOf; rw [List.length_map]; exact lk), (by unfold cnOf; rw [List.length_map]; exact lc), fun z hz => name_len (gkn z hz), fun z hz => name_len (gcn z hz), fun H5 m h5m s5 => ?_⟩
    have h5o := s5 _ _ h4o
    refine ⟨_, rfl, o, C, dx, _, rfl, h5o, T.cl, T.nm, (by show 2 < 1000; decide), ?_⟩
    have set5 : But o H5 (upd H5 o (.ins C dx (putF "_menu" (.ref m) (putF "_columns" (.ref c) (putF "_kinds" (.ref k) []))))) := .set
    refine at_heap (φ := fun H6 => H6 o = some (.ins C dx (putF "_menu" (.ref m) (putF "_columns" (.ref c) (putF "_kinds" (.ref k) [])))) ∧ But o H H6 ∧ H6 k = some (.tup ys) ∧ TupsAt H6 ys (ks.map fun k => [k.1, k.2]) ∧ H6 c = some (.tup zs) ∧ TupsAt H6 zs (cs.map colU) ∧ H6 m = some (.tup ((menuU (knOf ks) (cnOf cs)).map V.str)))
      ⟨upd_same, (bt4.trans (.same s5)).trans set5, set5 _ _ (ne_of (s5 _ _ h4k) h5o fun z => nomatch z) (s5 _ _ h4k), (h4kt.keep (.same s5)).keep (set5.tk h5o), set5 _ _ (ne_of (s5 _ _ h4c) h5o fun z => nomatch z) (s5 _ _ h4c), (h4ct.keep (.same s5)).keep (set5.tk h5o), set5 _ _ (ne_of h5m h5o fun z => nomatch z) h5m⟩ ?_
    clear h4o bt4 h4k h4kt h4c h4ct l1 l2 h5m s5 h5o set5
    rintro H6 ⟨h6o, bt6, h6k, h6kt, h6c, h6ct, h6m⟩
    have bi6 : ButI o C dx H H6 := ⟨bt6, ⟨_, ho⟩, ⟨_, h6o⟩⟩
    have l3 : (putF "_menu" (.ref m) (putF "_columns" (.ref c) (putF "_kinds" (.ref k) []))).lookup ("_menu" : Str) = some (V.ref m) := by rw [lookup_putF, if_pos rfl]
    walk_at "ls"
    refine ⟨o, C, dx, _, _, rfl, h6o, T.cl, T.nm, l3, ?_⟩
    have lm : (menuU (knOf ks) (cnOf cs)).length ≤ 10000 := by
      rw [menuU_len]
      unfold knOf cnOf
      rw [List.length_map, List.length_map]
      omega
    refine ⟨xa, m, ck, menuU (knOf ks) (cnOf cs), rfl, bi6.sqU hxa, fun v hv => bi6.thg (tx v hv), h6m, lx, lm, ?_⟩
    cases hx : checksErr (menuU (knOf ks) (cnOf cs)) ck with
    | some v =>
      rw [hx] at q
      exact fun H' d s' n => q H' d (bt6.trans (.same s')) n
    | none =>
    rw [hx] at q
    simp only at q
    intro H7 x h7x s7
    have h7o := s7 _ _ h6o
    refine ⟨_, rfl, o, C, dx, _, rfl, h7o, T.cl, T.nx, (by show 3 < 1000; decide), ?_⟩
    have set7 : But o H7 (upd H7 o (.ins C dx (bookF k c m x))) := .set
    exact q _ ⟨dx, k, c, m, x, ys, zs, upd_same, set7 _ _ (ne_of (s7 _ _ h6k) h7o fun z => nomatch z) (s7 _ _ h6k), (h6kt.keep (.same s7)).keep (set7.tk h7o), set7 _ _ (ne_of (s7 _ _ h6c) h7o fun z => nomatch z) (s7 _ _ h6c), (h6ct.keep (.same s7)).keep (set7.tk h7o),
      set7 _ _ (ne_of (s7 _ _ h6m) h7o fun z => nomatch z) (s7 _ _ h6m), set7 _ _ (ne_of h7x h7o fun z => nomatch z) h7x⟩ ((bt6.trans (.same s7)).trans set7)
end
end Ls
namespace Ls
open PySem PySem.Spec PyProof.Rows L2
/-! ### short steps -/
local macro_rules | `(tactic| walk_at "ls_ne") => `(tactic| first | assumption | exact Ne.symm (by assumption) | exact ne_of_none (by assumption) (by assumption) | exact Ne.symm (ne_of_none (by assumption) (by assumption)))
local macro_rules | `(tactic| walk_at "ls_hp") => `(tactic| first
  | with_reducible assumption
  | exact upd_same
  | exact Eq.trans (upd_ne (by walk_at "ls_ne")) (by walk_at "ls_hp"))
local macro_rules | `(tactic| walk_at "ls_st") => `(tactic| first
  | with_reducible assumption
  | exact Stm.upd (by walk_at "ls_st") (by first | walk_at "ls_ne" | exact (Stm.noneS (by assumption) (by assumption)).1) (by first | walk_at "ls_ne" | exact (Stm.noneS (by assumption) (by assumption)).2))
local macro_rules | `(tactic| walk_at "ls1") => `(tactic| first
  | refine ⟨_, rfl, ?_⟩
  | refine ⟨_, _, rfl, rfl, ?_⟩
  | refine ⟨_, _, _, _, rfl, rfl, .inl (.inl (by walk_at "ls_hp")), rfl, ?_⟩
  | refine ⟨_, _, _, _, rfl, rfl, (by walk_at "ls_hp"), rfl, ?_⟩
  | refine ⟨rfl, _, rfl, ?_⟩
  | refine ⟨.inl ⟨rfl, _, .inl (.inl (by walk_at "ls_hp"))⟩, ?_⟩)
local macro_rules | `(tactic| walk_at "ls") => `(tactic| repeat (walk_at "ls1"))

section
variable {P : Program} {w : World} {K : PySem.W.Frag} {mg : Str → Option Value} {base : Heap}
/-! ### the lists of a book -/
abbrev s_Book_kinds : Stmt := inClass (topS 20) 1
theorem sc_Book_kinds : FnScope ["self"] ["self"] (defScope s_Book_kinds) := ⟨rfl, rfl, rfl, by decide +kernel, rfl, by decide +kernel, by decide +kernel⟩
abbrev N_Book_kinds : List Str := ["self"]
def spKinds (C : Addr) : Sp := fun vs H Q _ => ∃ (o : Addr) (ks : List (V × V)) (cs : List Col) (ck : List Str), vs = [.ref o] ∧ BookU C H o ks cs ck ∧ ∀ l kx, H l = none → TupsAt H kx (ks.map fun k => [k.1, k.2]) → Q (.ref l) (upd H l (.lst kx))
theorem ok_kinds {C : Addr} {f : Addr} {fd : FuncData} (F : Fun K "kinds" "Book.kinds" s_Book_kinds f fd) (T : Bt mg) (TB : BkT K C) : FnOk P w K mg base CX0 1 f fd ["self"] (spKinds C) := by
  refine F.ok sc_Book_kinds (fun vs H Q E h => ?_) (fun cdv A outer s H vs Q E hr h => ?_)
  · obtain ⟨o, ks, cs, ck, rfl, _⟩ := h
    rfl
  · obtain ⟨o, ks, cs, ck, rfl, ⟨dx, k, c, m, x, kx, cx, h1, h2, h3, h4, h5, h6, h7⟩, q⟩ := h
    have hu := hu_of hr
    refine ⟨_, (pss_one (ps_ret (pe_callTy (list_of K) (by rfl) T.m_list (by decide +kernel) (pa_cons (pe_fld (pv 0) rfl) pa_nil)))), ?_⟩
    walk_at "ls"
    refine ⟨o, C, dx, _, _, rfl, h1, TB.cl, TB.nk, bookF_k, ?_⟩
    exact ⟨k, kx, rfl, .inr (.inl (.inl h2)), fun l hl => q l kx hl h3⟩
abbrev s_Book_columns : Stmt := inClass (topS 20) 2
theorem sc_Book_columns : FnScope ["self"] ["self"] (defScope s_Book_columns) := ⟨rfl, rfl, rfl, by decide +kernel, rfl, by decide +kernel, by decide +kernel⟩
abbrev N_Book_columns : List Str := ["self"]
def spColumns (C : Addr) : Sp := fun vs H Q _ => ∃ (o : Addr) (ks : List (V × V)) (cs : List Col) (ck : List Str), vs = [.ref o] ∧ BookU C H o ks cs ck ∧ ∀ l cx, H l = none → TupsAt H cx (cs.map colU) → Q (.ref l) (upd H l (.lst cx))
theorem ok_columns {C : Addr} {f : Addr} {fd : FuncData} (F : Fun K "columns" "Book.columns" s_Book_columns f fd) (T : Bt mg) (TB : BkT K C) : FnOk P w K mg base CX0 1 f fd ["self"] (spColumns C) := by
  refine F.ok sc_Book_columns (fun vs H Q E h => ?_) (fun cdv A outer s H vs Q E hr h => ?_)
  · obtain ⟨o, ks, cs, ck, rfl, _⟩ := h
    rfl
  · obtain ⟨o, ks, cs, ck, rfl, ⟨dx, k, c, m, x, kx, cx, h1, h2, h3, h4, h5, h6, h7⟩, q⟩ := h
    have hu := hu_of hr
    refine ⟨_, (pss_one (ps_ret (pe_callTy (list_of K) (by rfl) T.m_list (by decide +kernel) (pa_cons (pe_fld (pv 0) rfl) pa_nil)))), ?_⟩
    walk_at "ls"
    refine ⟨o, C, dx, _, _, rfl, h1, TB.cl, TB.nc, bookF_c, ?_⟩
    exact ⟨c, cx, rfl, .inr (.inl (.inl h4)), fun l hl => q l cx hl h5⟩
end
end Ls
namespace Ls
open PySem PySem.Spec PyProof.Rows L2
/-! ### short steps -/
local macro_rules | `(tactic| walk_at "ls_ne") => `(tactic| first | assumption | exact Ne.symm (by assumption) | exact ne_of_none (by assumption) (by assumption) | exact Ne.symm (ne_of_none (by assumption) (by assumption)))
local macro_rules | `(tactic| walk_at "ls_hp") => `(tactic| first
  | with_reducible assumption
  | exact upd_same
  | exact Eq.trans (upd_ne (by walk_at "ls_ne")) (by walk_at "ls_hp"))
local macro_rules | `(tactic| walk_at "ls_st") => `(tactic| first
  | with_reducible assumption
  | exact Stm.upd (by walk_at "ls_st") (by first | walk_at "ls_ne" | exact (Stm.noneS (by assumption) (by assumption)).1) (by first | walk_at "ls_ne" | exact (Stm.noneS (by assumption) (by assumption)).2))
local macro_rules | `(tactic| walk_at "ls1") => `(tactic| first
  | refine ⟨_, rfl, ?_⟩
  | refine ⟨_, _, rfl, rfl, ?_⟩
  | refine ⟨_, _, _, _, rfl, rfl, .inl (.inl (by walk_at "ls_hp")), rfl, ?_⟩
  | refine ⟨_, _, _, _, rfl, rfl, (by walk_at "ls_hp"), rfl, ?_⟩
  | refine ⟨rfl, _, rfl, ?_⟩
  | refine ⟨.inl ⟨rfl, _, .inl (.inl (by walk_at "ls_hp"))⟩, ?_⟩)
local macro_rules | `(tactic| walk_at "ls") => `(tactic| repeat (walk_at "ls1"))

section
variable {H : Hp} {b : Addr} {x y : V}
theorem dg2_kinds (h : H b = some (.dK [(.inr "kinds", x), (.inr "columns", y)])) : DGet H b (.str "kinds") (some x) := dg (k := .inr "kinds") h (valV_pos rfl)
theorem dg2_columns (h : H b = some (.dK [(.inr "kinds", x), (.inr "columns", y)])) : DGet H b (.str "columns") (some y) := dg (k := .inr "columns") h (by rw [valV_neg nkc]; exact valV_pos rfl)
end
section
variable {P : Program} {w : World} {K : PySem.W.Frag} {mg : Str → Option Value} {base : Heap}
def spAllU (K : PySem.W.Frag) : Sp := fun vs H Q _ => ∃ (b ka ca : Addr) (kx cx : List V) (ks : List (V × V)) (cs : List Col), vs = [.ref b] ∧ H b = some (.dK [(.inr "kinds", .ref ka), (.inr "columns", .ref ca)]) ∧
  H ka = some (.lst kx) ∧ RowsAt K H kx (ks.map fun k => [k.1, k.2]) ∧ H ca = some (.lst cx) ∧ RowsAt K H cx (cs.map colU) ∧ ks.map (·.1) = (knOf ks).map V.str ∧ cs.map (·.1) = (cnOf cs).map V.str ∧ ks.length ≤ 1000 ∧ cs.length ≤ 1000 ∧
  (∀ z ∈ knOf ks, z.length ≤ 8) ∧ (∀ z ∈ cnOf cs, z.length ≤ 8) ∧
  ∀ (H' : Hp) (p : Addr), H p = none → H' p = some (.lst ((menuU (knOf ks) (cnOf cs)).map V.str)) → Same H H' → Q (.ref p) H'
theorem ok_allU {f : Addr} {fd : FuncData} (F : Fun K "_law_all_checks" "_law_all_checks" s__law_all_checks f fd) (T : Bt mg) : FnOk P w K mg base CX0 1 f fd ["_law_b"] (spAllU K) := by
  refine F.ok sc__law_all_checks (fun vs H Q E h => ?_) (fun cdv A outer s H vs Q E hr h => ?_)
  · obtain ⟨b, ka, ca, kx, cx, ks, cs, rfl, _⟩ := h
    rfl
  · obtain ⟨b, ka, ca, kx, cx, ks, cs, rfl, hb, hka, hkt, hca, hct, ekn, ecn, lks, lcs, nk, nc, q⟩ := h
    have lkn : (knOf ks).length = ks.length := by unfold knOf; rw [List.length_map]
    have lcn : (cnOf cs).length = cs.length := by unfold cnOf; rw [List.length_map]
    generalize knOf ks = kn at *
    generalize cnOf cs = cn at *
    have hu := hu_of hr
    refine ⟨_, (pss_cons (ps_set (i := 1) sc__law_all_checks.nd rfl (Or.inl rfl) (pe_lst pa_nil))
      (pss_cons (ps_for PassesOwn.never rfl (pi_list (pe_dget hu (pv 0) pe_str (fun _ _ => rfl))) (pg_name (i := 2) sc__law_all_checks.nd rfl (Or.inr rfl)) (pss_one (ps_expr (pe_bm PySem.F.plainAttrs_list PySem.F.slot_list_extend PySem.F.type_list_extend mt_extend (pv 1) (pa_cons (pe_lc (own := [("_law_word", 4)]) (g := gName 4) (by rfl) sc__law_all_checks.nd (pi_list (pe_lst (pa_cons pe_str (pa_cons pe_str (pa_cons pe_str (pa_cons pe_str (pa_cons pe_str pa_nil))))))) (blkOk_by (own := [("_law_word", 4)]) (N := N__law_all_checks) (sc := defScope s__law_all_checks) (by decide +kernel)) (fun _ _ _ _ _ => (pg_name (i := 4) sc__law_all_checks.nd rfl (Or.inl rfl) (Or.inr rfl))) (fun _ _ _ _ _ => pts_nil) (fun _ _ _ _ _ => (pe_op op_add_str (pe_op op_add_str (pv 4) pe_str) (pe_ix (ixU K) (pv 2) pe_int (fun _ _ => rfl))))) pa_nil)))))
      (pss_cons (ps_for PassesOwn.never rfl (pi_list (pe_dget hu (pv 0) pe_str (fun _ _ => rfl))) (pg_name (i := 3) sc__law_all_checks.nd rfl (Or.inr rfl)) (pss_one (ps_expr (pe_bm PySem.F.plainAttrs_list PySem.F.slot_list_extend PySem.F.type_list_extend mt_extend (pv 1) (pa_cons (pe_lc (own := [("_law_word", 4)]) (g := gName 4) (by rfl) sc__law_all_checks.nd (pi_list (pe_lst (pa_cons pe_str (pa_cons pe_str (pa_cons pe_str pa_nil))))) (blkOk_by (own := [("_law_word", 4)]) (N := N__law_all_checks) (sc := defScope s__law_all_checks) (by decide +kernel)) (fun _ _ _ _ _ => (pg_name (i := 4) sc__law_all_checks.nd rfl (Or.inl rfl) (Or.inr rfl))) (fun _ _ _ _ _ => pts_nil) (fun _ _ _ _ _ => (pe_op op_add_str (pe_op op_add_str (pv 4) pe_str) (pe_ix (ixU K) (pv 3) pe_int (fun _ _ => rfl))))) pa_nil)))))
      (pss_one (ps_ret (pe_op op_cat (pv 1) (pe_lst (pa_cons pe_str (pa_cons pe_str pa_nil))))))))), ?_⟩
    refine ⟨Nat.zero_le _, fun p hp => ?_⟩
    walk_at "ls"
    have nbp : b ≠ p := ne_of_none hb hp
    have nca : ca ≠ p := ne_of_none hca hp
    have s0 : Same H (upd H p (.lst [])) := same_new hp
    refine ⟨b, _, rfl, dg2_columns (s0 _ _ hb), ca, rfl, ⟨_, .inl (.inl (s0 _ _ hca))⟩, ?_⟩
    refine for_it (walk_list (xs := cx)) (fun i σ H1 => ∃ v : Option V, σ = [some (.ref b), some (.ref p), v, none, none] ∧ H1 p = some (.lst (((cn.take i).flatMap (withN colW)).map V.str)) ∧ Same H H1)
      ⟨none, rfl, upd_same, s0⟩ (fun i σ H1 _ ⟨_, _, _, s1⟩ => .inl (.inl (s1 _ _ hca))) ?_ ?_
    · rintro i x σ Hz H1 hi ⟨v, rfl, h1, s1⟩ ⟨rfl, hx⟩
      obtain ⟨ys, hys, t, rfl, ht⟩ := RowsAt.get (hct.same s1) hx
      obtain ⟨c, hc, rfl⟩ := map_get hys
      obtain ⟨z, hz, ecz⟩ := names_at ecn hc
      have hnm : z.length ≤ 8 := nc _ (List.mem_of_getElem? hz)
      unfold colU at ht
      rw [ecz] at ht
      walk_at "ls"
      refine ⟨(by show 5 ≤ sizeLine; decide), fun w1 hw1 => ?_⟩
      refine ⟨w1, rfl, ⟨_, .inl (.inl upd_same)⟩, fun D hD => ?_⟩
      have nwD : w1 ≠ D := ne_of_none upd_same hD
      have npw : p ≠ w1 := ne_of_none h1 hw1
      have npD : p ≠ D := ne_of_none (by rw [upd_ne npw]; exact h1) hD
      refine lc_pure (walk_list (xs := colW.map V.str)) (colW.map V.str) (addN z) rfl (fun i H x H' hi hy => hy) (by decide +kernel) (fun acc => .inl (.inl (by rw [upd_ne nwD]; exact upd_same))) (fun k y hk hy => ?_) ?_
      · obtain ⟨a, ha, rfl⟩ := map_get hy
        have hal : a.length ≤ 5 := colW_len a (List.mem_of_getElem? ha)
        refine ⟨rfl, ?_⟩
        walk_at "ls"
        refine ⟨room_str (m := 1) hal (by decide +kernel) (by decide), ?_⟩
        walk_at "ls"
        refine ⟨t, _, 0, _, rfl, rfl, Stays.sqU ((same_new hw1).trans (same_new hD)) ht, rfl, ?_⟩
        walk_at "ls"
        refine ⟨room_str (n := 6) (m := 8) (word_len hal) hnm (by decide), ?_⟩
        exact lc_yes hy hk (by decide +kernel) rfl
      rw [addN_all]
      refine ⟨_, _, _, _, rfl, rfl, (by rw [upd_ne npD, upd_ne npw]; exact h1), upd_same, ?_, ?_⟩
      · rw [List.length_map, List.length_map, flat_len _ 5 (fun c => by rw [withN, List.length_map]; rfl), withN, List.length_map, List.length_take]
        show 5 * _ + 5 ≤ sizeLine
        exact Nat.le_trans (by omega) (show 10000 ≤ sizeLine by decide)
      · refine ⟨_, rfl, ?_, ?_⟩
        · rw [upd_same, flat_snocU hz, List.map_append]
        · intro u o e
          have nup : u ≠ p := ne_of_none e hp
          have e1 := s1 _ _ e
          have nuw : u ≠ w1 := ne_of_none e1 hw1
          rw [upd_ne nup, upd_ne (ne_of_none (by rw [upd_ne nuw]; exact e1) hD), upd_ne nuw]
          exact e1
    · rintro σ H1 ⟨v, rfl, h1, s1⟩
      have e1 : cn.take cx.length = cn := by
        have := hct.len
        rw [List.length_map] at this
        rw [this, ← lcn, List.take_length]
      rw [e1] at h1
      walk_at "ls"
      refine ⟨b, _, rfl, dg2_kinds (s1 _ _ hb), ka, rfl, ⟨_, .inl (.inl (s1 _ _ hka))⟩, ?_⟩
      refine for_it (walk_list (xs := kx)) (fun i σ H1 => ∃ v v3 : Option V, σ = [some (.ref b), some (.ref p), v, v3, none] ∧ H1 p = some (.lst ((cn.flatMap (withN colW) ++ (kn.take i).flatMap (withN kindW)).map V.str)) ∧ Same H H1)
        ⟨v, none, rfl, (by rw [List.take_zero, List.flatMap_nil, List.append_nil]; exact h1), s1⟩ (fun i σ H1 _ ⟨_, _, _, _, s1⟩ => .inl (.inl (s1 _ _ hka))) ?_ ?_
      · clear h1 s1 v
        rintro i x σ Hz H1 hi ⟨v, v3, rfl, h1, s1⟩ ⟨rfl, hx⟩
        obtain ⟨ys, hys, t, rfl, ht⟩ := RowsAt.get (hkt.same s1) hx
        obtain ⟨c, hc, rfl⟩ := map_get hys
        obtain ⟨z, hz, ecz⟩ := names_at ekn hc
        have hnm : z.length ≤ 8 := nk _ (List.mem_of_getElem? hz)
        rw [ecz] at ht
        walk_at "ls"
        refine ⟨(by show 3 ≤ sizeLine; decide), fun w1 hw1 => ?_⟩
        refine ⟨w1, rfl, ⟨_, .inl (.inl upd_same)⟩, fun D hD => ?_⟩
        have nwD : w1 ≠ D := ne_of_none upd_same hD
        have npw : p ≠ w1 := ne_of_none h1 hw1
        have npD : p ≠ D := ne_of_none (by rw [upd_ne npw]; exact h1) hD
        refine lc_pure (walk_list (xs := kindW.map V.str)) (kindW.map V.str) (addN z) rfl (fun i H x H' hi hy => hy) (by decide +kernel) (fun acc => .inl (.inl (by rw [upd_ne nwD]; exact upd_same))) (fun k y hk hy => ?_) ?_
        · obtain ⟨a, ha, rfl⟩ := map_get hy
          have hal : a.length ≤ 5 := kindW_len a (List.mem_of_getElem? ha)
          refine ⟨rfl, ?_⟩
          walk_at "ls"
          refine ⟨room_str (m := 1) hal (by decide +kernel) (by decide), ?_⟩
          walk_at "ls"
          refine ⟨t, _, 0, _, rfl, rfl, Stays.sqU ((same_new hw1).trans (same_new hD)) ht, rfl, ?_⟩
          walk_at "ls"
          refine ⟨room_str (n := 6) (m := 8) (word_len hal) hnm (by decide), ?_⟩
          exact lc_yes hy hk (by decide +kernel) rfl
        rw [addN_all]
        refine ⟨_, _, _, _, rfl, rfl, (by rw [upd_ne npD, upd_ne npw]; exact h1), upd_same, ?_, ?_⟩
        · rw [List.length_map, List.length_append, List.length_map, flat_len _ 5 (fun c => by rw [withN, List.length_map]; rfl), flat_len _ 3 (fun c => by rw [withN, List.length_map]; rfl), withN, List.length_map, List.length_take]
          show 5 * _ + 3 * _ + 3 ≤ sizeLine
          exact Nat.le_trans (by omega) (show 10000 ≤ sizeLine by decide)
        · refine ⟨_, _, rfl, ?_, ?_⟩
          · rw [upd_same, flat_snocU hz, List.map_append, List.map_append, List.map_append, List.append_assoc]
          · intro u o e
            have nup : u ≠ p := ne_of_none e hp
            have e1 := s1 _ _ e
            have nuw : u ≠ w1 := ne_of_none e1 hw1
            rw [upd_ne nup, upd_ne (ne_of_none (by rw [upd_ne nuw]; exact e1) hD), upd_ne nuw]
            exact e1
      · clear h1 s1 v
        rintro σ H1 ⟨v, v3, rfl, h1, s1⟩
        have e2 : kn.take kx.length = kn := by
          have := hkt.len
          rw [List.length_map] at this
          rw [this, ← lkn, List.take_length]
        rw [e2] at h1
        walk_at "ls"
        refine ⟨(by show 2 ≤ sizeLine; decide), fun p2 hp2 => ?_⟩
        have np2 : p ≠ p2 := ne_of_none h1 hp2
        refine ⟨_, _, _, _, rfl, rfl, (by rw [upd_ne np2]; exact h1), upd_same, ?_, fun p3 hp3 => ?_⟩
        · have e3 := menuU_len kn cn
          unfold menuU at e3
          rw [List.length_append] at e3
          rw [List.length_map]
          refine Nat.le_trans ?_ (show 10000 ≤ sizeLine by decide)
          show _ + 2 ≤ 10000
          have e4 : bookW.length = 2 := rfl
          omega
        · have s2 : Same H (upd H1 p2 (.lst [.str "lone", .str "fresh"])) := s1.trans (same_new hp2)
          refine q _ p3 (s2.free hp3) ?_ (s2.trans (same_new hp3))
          rw [upd_same]
          unfold menuU
          rw [List.map_append (l₂ := bookW)]
          rfl
end
end Ls
namespace Ls
open PySem PySem.Spec PyProof.Rows L2
/-! ### short steps -/
local macro_rules | `(tactic| walk_at "ls_ne") => `(tactic| first | assumption | exact Ne.symm (by assumption) | exact ne_of_none (by assumption) (by assumption) | exact Ne.symm (ne_of_none (by assumption) (by assumption)))
local macro_rules | `(tactic| walk_at "ls_hp") => `(tactic| first
  | with_reducible assumption
  | exact upd_same
  | exact Eq.trans (upd_ne (by walk_at "ls_ne")) (by walk_at "ls_hp"))
local macro_rules | `(tactic| walk_at "ls_st") => `(tactic| first
  | with_reducible assumption
  | exact Stm.upd (by walk_at "ls_st") (by first | walk_at "ls_ne" | exact (Stm.noneS (by assumption) (by assumption)).1) (by first | walk_at "ls_ne" | exact (Stm.noneS (by assumption) (by assumption)).2))
local macro_rules | `(tactic| walk_at "ls1") => `(tactic| first
  | refine ⟨_, rfl, ?_⟩
  | refine ⟨_, _, rfl, rfl, ?_⟩
  | refine ⟨_, _, _, _, rfl, rfl, .inl (.inl (by walk_at "ls_hp")), rfl, ?_⟩
  | refine ⟨_, _, _, _, rfl, rfl, (by walk_at "ls_hp"), rfl, ?_⟩
  | refine ⟨rfl, _, rfl, ?_⟩
  | refine ⟨.inl ⟨rfl, _, .inl (.inl (by walk_at "ls_hp"))⟩, ?_⟩)
local macro_rules | `(tactic| walk_at "ls") => `(tactic| repeat (walk_at "ls1"))

section
variable {P : Program} {w : World} {K : PySem.W.Frag} {mg : Str → Option Value} {base : Heap}
/-! ### _law_is_name -/
abbrev s__law_is_name : Stmt := topS 40
theorem sc__law_is_name : FnScope ["_law_thing", "_law_sign"] ["_law_thing"] (defScope s__law_is_name) := ⟨rfl, rfl, rfl, by decide +kernel, rfl, by decide +kernel, by decide +kernel⟩
abbrev N__law_is_name : List Str := ["_law_thing", "_law_sign"]
theorem ok_lis {f : Addr} {fd : FuncData} (F : Fun K "_law_is_name" "_law_is_name" s__law_is_name f fd) (T : Bt mg) : FnOk P w K mg base CX0 1 f fd ["_law_thing"] (spIsName K) := by
  refine F.ok sc__law_is_name (fun vs H Q E h => ?_) (fun cdv A outer s H vs Q E hr h => ?_)
  · obtain ⟨z, rfl, _⟩ := h
    rfl
  · obtain ⟨v, rfl, hv, q⟩ := h
    have hu := hu_of hr
    refine ⟨_, (pss_cons (ps_if (PW.pt (pw_or (pt_not (pt_val (pe_callB call_isi (by rfl) T.m_isinstance (by decide +kernel) (pa_cons (pv 0) (pa_cons (pe_bltn (v := V.ty "str") (by rfl) T.m_str boot_str rfl) pa_nil))))) (pw_or (pt_cmpR op_lt (pe_callB call_len_str (by rfl) T.m_len (by decide +kernel) (pa_cons (pv 0) pa_nil)) pe_int (nomark _)) (pw_or (pt_cmpR op_gt (pe_callB call_len_str (by rfl) T.m_len (by decide +kernel) (pa_cons (pv 0) pa_nil)) pe_int (nomark _)) (pw_or1 (pt_cmpR op_eq (pv 0) pe_str (nomark _))))))) (pss_one (ps_ret pe_bl)) pss_nil)
      (pss_one (ps_ret (pe_callB (cr_all rfl) (by rfl) T.m_all (by decide +kernel) (pa_cons (pe_lc (own := [("_law_sign", 1)]) (g := gName 1) (by rfl) sc__law_is_name.nd (pi_str (pv 0)) (blkOk_by (own := [("_law_sign", 1)]) (N := N__law_is_name) (sc := defScope s__law_is_name) (by decide +kernel)) (fun _ _ _ _ _ => (pg_name (i := 1) sc__law_is_name.nd rfl (Or.inl rfl) (Or.inr rfl))) (fun _ _ _ _ _ => pts_nil) (fun _ _ _ _ _ => (pe_cmpR op_in_sign (pv 1) pe_str (by rfl)))) pa_nil))))), ?_⟩
    rcases hv with ⟨z, rfl, hz⟩ | hv
    · have q : ∀ H', Same H H' → Q (.bl (isNameB z)) H' := q
      refine or2 false (decide ((z.length : Int) < 1) || (decide ((z.length : Int) > 8) || decide (V.str z = V.str "strike"))) (fun Q' q' => ?_) (fun _ Q' q' => ?_) ?_
      · refine ⟨_, rfl, ?_⟩
        exact ⟨_, _, _, _, true, rfl, .ty "str", .base (.str z), kit_ty (by decide +kernel), _, rfl, q'⟩
      · refine or2 (decide ((z.length : Int) < 1)) (decide ((z.length : Int) > 8) || decide (V.str z = V.str "strike")) (fun Q' q' => ?_) (fun _ Q' q' => ?_) q'
        · refine ⟨_, rfl, z, rfl, Nat.le_trans hz (show 1000 ≤ sizeLine by decide), ?_⟩
          exact ⟨_, _, rfl, rfl, _, rfl, q'⟩
        · refine or2 (decide ((z.length : Int) > 8)) (decide (V.str z = V.str "strike")) (fun Q' q' => ?_) (fun _ Q' q' => ?_) q'
          · refine ⟨_, rfl, z, rfl, Nat.le_trans hz (show 1000 ≤ sizeLine by decide), ?_⟩
            exact ⟨_, _, rfl, rfl, _, rfl, q'⟩
          · walk_at "ls"
            exact q'
      refine ite2 (fun e => ?_) (fun e => ?_)
      · have : isNameB z = false := by
          simp only [Bool.false_or, Bool.or_eq_true, decide_eq_true_eq] at e
          unfold isNameB
          rcases e with e | e | e
          · have h3 : ¬ 1 ≤ z.length := by omega
            simp [h3]
          · have h3 : ¬ z.length ≤ 8 := by omega
            simp [h3]
          · have h3 : z = "strike" := V.str.inj e
            simp [h3]
        have h := q H (Same.refl H)
        rw [this] at h
        exact h
      · have hb : (z.cps.toList.all fun c => decide (c ∈ letters)) = isNameB z := by
          simp only [Bool.false_or, Bool.or_eq_true, decide_eq_true_eq, not_or] at e
          obtain ⟨e1, e2, e3⟩ := e
          have h1 : 1 ≤ z.length := by omega
          have h2 : z.length ≤ 8 := by omega
          have h3 : ¬ z = "strike" := fun h => e3 (by rw [h])
          unfold isNameB
          simp [h1, h2, h3]
        walk_at "ls"
        intro D hD
        refine lc_pure walk_str (signs z) inL (signs_len _) yld_str (Nat.lt_of_le_of_lt hz (show 1000 < sizeLine by decide)) (fun _ => trivial) (fun i x hi hx => ?_) ?_
        · obtain ⟨c, rfl⟩ := signs_at hx
          refine ⟨rfl, ?_⟩
          walk_at "ls"
          exact lc_yes hx hi (Nat.lt_of_le_of_lt hz (show 1000 < sizeLine by decide)) (by show some (V.bl ([c].all fun c => decide (c ∈ letters))) = _; simp [letters])
        · rw [inL_all]
          refine ⟨D, _, rfl, .inl (.inl upd_same), ?_⟩
          have h := q _ (same_new (o := .lst ((z.cps.toList.map fun c => decide (c ∈ letters)).map V.bl)) hD)
          rw [← hb] at h
          have e4 : (z.cps.toList.all fun c => decide (c ∈ letters)) = (z.cps.toList.map fun c => decide (c ∈ letters)).all id := by
            rw [List.all_map]
            rfl
          rw [e4] at h
          exact h
    · obtain ⟨t, ht, kt⟩ := hv.1
      refine or2 true false (fun Q' q' => ?_) (fun z => nomatch z) ?_
      · refine ⟨_, rfl, ?_⟩
        exact ⟨_, _, _, _, false, rfl, .ty "str", ht, kt, _, rfl, q'⟩
      have h := q H (Same.refl H)
      rw [notS_name hv] at h
      exact iteT h
/-! ### _law_name_error -/
abbrev s__law_name_error : Stmt := topS 41
theorem sc__law_name_error : FnScope ["_law_word", "_law_known"] ["_law_word", "_law_known"] (defScope s__law_name_error) := ⟨rfl, rfl, rfl, by decide +kernel, rfl, by decide +kernel, by decide +kernel⟩
abbrev N__law_name_error : List Str := ["_law_word", "_law_known"]
/-- the word for what is wrong of a name -/
def nameWord (b : Bool) : Str := if b = true then "NameInUse" else "BadName"
def spNameErr (K : PySem.W.Frag) : Sp := fun vs H Q _ => ∃ (v : V) (a : Addr) (ts : List Str), vs = [v, .ref a] ∧ Thg K H v ∧ SqU K H a (ts.map V.str) ∧
  match nameErr ts v with
  | some b => ∀ H' t, Same H H' → H' t = some (.tup [.str (nameWord b), v]) → Q (.ref t) H'
  | none => ∀ H', Same H H' → Q .non H'
theorem ok_nerr {f : Addr} {fd : FuncData} (F : Fun K "_law_name_error" "_law_name_error" s__law_name_error f fd) (T : Bt mg) (O__law_is_name : Own P w K mg base CX0 1 "_law_is_name" ["_law_thing"] (spIsName K)) : FnOk P w K mg base CX0 2 f fd ["_law_word", "_law_known"] (spNameErr K) := by
  refine F.ok sc__law_name_error (fun vs H Q E h => ?_) (fun cdv A outer s H vs Q E hr h => ?_)
  · obtain ⟨z, a, ts, rfl, _⟩ := h
    rfl
  · obtain ⟨v, a, ts, rfl, hv, ha, q⟩ := h
    have hu := hu_of hr
    refine ⟨_, (pss_cons (ps_if (pt_not (pt_val (own_call O__law_is_name hr (by first | decide | omega) (pa_cons (pv 0) pa_nil)))) (pss_one (ps_ret (pe_tup (pa_cons pe_str (pa_cons (pv 0) pa_nil))))) pss_nil)
      (pss_one (ps_ret (pe_ifExp (pt_cmpR (in_seq K) (pv 0) (pv 1) (by rfl)) (pe_tup (pa_cons pe_str (pa_cons (pv 0) pa_nil))) pe_non)))), ?_⟩
    refine ⟨_, rfl, ?_⟩
    refine ⟨v, rfl, hv, fun H1 s1 => ?_⟩
    refine ⟨_, rfl, ?_⟩
    unfold nameErr at q
    cases hn : isNameV v with
    | false =>
      rw [hn, if_neg (by decide)] at q
      refine iteT ?_
      walk_at "ls"
      exact ⟨(by show 2 ≤ sizeLine; decide), fun t ht => q _ t (s1.trans (same_new ht)) upd_same⟩
    | true =>
      rw [hn, if_pos rfl] at q
      refine iteF ?_
      have ev := name_str hn
      rw [ev] at q ⊢
      walk_at "ls"
      refine ⟨a, _, rfl, Stays.sqU s1 ha, rfl, all_flat ts, _, rfl, ?_⟩
      show if inV (.str (strOf v)) (ts.map V.str) = true then _ else _
      rw [in_strs]
      have ew : isWordV ts (.str (strOf v)) = decide (strOf v ∈ ts) := rfl
      rw [ew] at q
      cases hw : decide (strOf v ∈ ts) with
      | true =>
        rw [hw, if_pos rfl] at q
        refine iteT ?_
        walk_at "ls"
        exact ⟨(by show 2 ≤ sizeLine; decide), fun t ht => q _ t (s1.trans (same_new ht)) upd_same⟩
      | false =>
        rw [hw, if_neg (by decide)] at q
        exact iteF (q _ s1)
end
end Ls
namespace Ls
open PySem PySem.Spec PyProof.Rows L2
/-! ### defs that run where no repr is under way -/
/-- the promise of a def, kept wherever no guard of the interpreter's own stands -/
structure FnG (P : Program) (w : World) (K : PySem.W.Frag) (mg : Str → Option Value) (base : Heap) (CX : CXT) (k : Nat) (f : Addr) (fd : FuncData) (ps : List Str) (sp : Sp) : Prop where
  len : ∀ vs H Q E, sp vs H Q E → vs.length = ps.length
  run : ∀ (A : Around) (outer : List Env) (s : Shared) (H : Hp) (args : Args) (us : List Value) (vs : List V) (Q : VK) (E : XK), A.guards = some [] → Room k A → Env0 P w K mg base A outer s H →
    BindsTo s fd args (ps.zip us) → Vals vs us → sp vs H Q E → codeAny (model P w) A (.call (.ref f) args) (CR CX outer P w H s Q E) s
/-- where it stands and how it is bound -/
structure OwnG (P : Program) (w : World) (K : PySem.W.Frag) (mg : Str → Option Value) (base : Heap) (CX : CXT) (k : Nat) (x : Str) (ps : List Str) (sp : Sp) : Prop where
  ex : ∃ (f : Addr) (fd : FuncData), FnG P w K mg base CX k f fd ps sp ∧ mg x = some (.ref f) ∧ PySem.W.keepIn K (.ref f) = true ∧ Binds K fd ps []
section
variable {X : Cx} {k j : Nat} {x : Str} {ps : List Str} {sp : Sp} {p pos : Pos} {e : Expr} {es : List Expr} {t : TA}
theorem own_callG (O : OwnG X.prog X.w X.K X.mg X.base CX0 k x ps sp) (hgd : X.A.guards = some []) (hr : Room j X.A) (hkj : k ≤ j) (ha : PA X (e :: es) t)
    (hg : Gl X x := by rfl) (hdb : (x == ("__debug__" : Str)) = false := by decide) (he : starEach (e :: es) X.env = (false, eval e X.env) :: starEach es X.env := by rfl) (hpl : (backTo pos (starEach es X.env)).any (·.1) = false := by rfl) :
    PE X (.Call (.Name x p) (e :: es) [] pos) (tCall sp [] E0 t) := by
  obtain ⟨f, fd, F, g, kp, b⟩ := O.ex
  refine ⟨fun pins s σ H Q I h => wpAny_Call_Name_kw (ld_glob I hg g (PySem.W.callWith_K (h₀ := X.base) I.ok.mod.kin kp ?_ he hpl) hdb)⟩
  refine thn (ha.run pos pins s σ H _ I h) fun us s1 hh => ?_
  obtain ⟨vs, H1, I1, r, q⟩ := hh
  refine ⟨I1.kIn, wpAny_call ?_⟩
  have q0 : sp vs H1 Q E0 := by simpa using q
  have b1 := b s1 us I1.kIn (by rw [List.append_nil, ← r.length]; exact F.len _ _ _ _ q0)
  rw [List.append_nil] at b1
  refine codeAny_mono (F.run X.A X.stack s1 H1 ⟨us, []⟩ us vs Q E0 hgd (hr.mono hkj) I1.env0 b1 r q0) fun res s2 hq => ?_
  match res, hq with
  | .ok (.ret u), hq => exact I1.after hq
  | .error z, hq => exact False.elim hq
end
section
variable {P : Program} {w : World} {K : PySem.W.Frag} {mg : Str → Option Value} {base : Heap}
/-- a def by its body, where no guard stands -/
theorem fun_okG {x qual : Str} {st : Stmt} {f : Addr} {fd : FuncData} {N ps : List Str} {k : Nat} {sp : Sp} (F : Fun K x qual st f fd) (S : FnScope N ps (defScope st)) (len : ∀ vs H Q E, sp vs H Q E → vs.length = ps.length)
    (body : ∀ (cdv : Value) (A : Around) (outer : List Env) (s : Shared) (H : Hp) (vs : List V) (Q : VK) (E : XK), A.guards = some [] → Room k (A.deeper (envOfC qual (defScope st) s.heap.objs.size f cdv)) → sp vs H Q E →
      ∃ t, PSs (cxOf CX0 P w K mg base N qual (defScope st) f cdv A outer s H E).nox (defBody st) t ∧ t { nx := fun _ H' => Q .non H', rt := Q } (start N vs) H) : FnG P w K mg base CX0 (k + 1) f fd ps sp := by
  obtain ⟨oc, od, kV, doc, pm, an, cdv, ct, osl, rfl, lk, hcd⟩ := F.ex
  refine ⟨len, fun A outer s H args us vs Q E hgd hr e0 hb r hsp => ?_⟩
  have kin : K.In s.heap := e0.mod.kin.keeps fun b o e => (e0.bs b o e).1
  have kinds : ∀ y ∈ ps.zip us, (defScope st).names.lookup y.1 = some .local ∨ ((defScope st).names.lookup y.1 = some .cell ∧ ((cellsFrom (s.heap.objs.size + 1) (defScope st).names []).lookup y.1).isSome = true) := by
    rintro ⟨n, v⟩ hy
    exact (S.par n (List.of_mem_zip hy).1).imp id fun q => ⟨q, PySem.W.cellsFrom_some _ _ _ (.inl q)⟩
  refine codeAny_call_function hr.depth (kin _ _ lk) rfl S.co S.gen rfl (PySem.W.codeRec_of kin hcd) (hb _ _ _ _ (wpAny_newFunctionEnv_cells S.kind kinds fun env he s1 x1 => ?_))
  subst he
  refine ⟨(e0.mod.nolimit.keeps fun b o e => (e0.bs b o e).1).keeps x1.toInCall.keep, codeAny_func ?_⟩
  obtain ⟨t, ht, hq⟩ := body cdv A outer s H vs Q E hgd (hr.deeper _) hsp
  have I := inv_start (P := P) (w := w) (mg := mg) (base := base) (CX := CX0) (E := E) S hr.hd e0 (len _ _ _ _ hsp) r x1
  refine wpAny_mono (ht.nox.run [] s1 (start N vs) H _ I hq) (fun fl s' hs => ?_) fun _ _ hs => hs
  match fl, hs with
  | .ret u, ⟨v, σ', H', J, rv, q⟩ => exact ⟨v, H', J.os, J.bare, J.base, J.hok, rv, q⟩
  | .next, ⟨σ', H', J, q⟩ => exact ⟨V.non, H', J.os, J.bare, J.base, J.hok, rfl, q⟩
  | .brk, ⟨_, _, _, q⟩ => exact False.elim q
  | .cont, ⟨_, _, _, q⟩ => exact False.elim q
theorem FnOk.toG {CX : CXT} {k : Nat} {f : Addr} {fd : FuncData} {ps : List Str} {sp : Sp} (F : FnOk P w K mg base CX k f fd ps sp) : FnG P w K mg base CX k f fd ps sp :=
  ⟨F.len, fun A outer s H args us vs Q E _ hr e0 hb r h => F.run A outer s H args us vs Q E hr e0 hb r h⟩
end
/-! ### repr of data -/
section
variable {X : Cx}
/-- repr(x): the text of x's data -/
def rRepr (K : PySem.W.Frag) : List V → Hp → VK → Prop := fun xs H Q => ∃ (a : Addr) (d : PyData), xs = [.ref a] ∧ Dp K H (.ref a) d ∧ d.showable = true ∧ d.hasDict = false ∧ d.depth ≤ 60 ∧ d.shown.length ≤ sizeLine ∧ Q (.str d.shown) H
theorem call_repr_data {k : Nat} (hgd : X.A.guards = some []) (hr : Room k X.A) : CallR X (.builtin "repr") (rRepr X.K) := by
  intro pins s σ H xs us Q I r h
  obtain ⟨a, d, rfl, hd, hs, hn, hdp, hz, q⟩ := h
  obtain ⟨u, rfl, ru⟩ := r.one
  obtain ⟨as, rd⟩ := Dp.reads I d _ u hd ru
  cases ru
  refine repr_of_reads' rd hs (fun z => by rw [hn] at z; cases z) hgd (by have := hr.un; omega) (fun b o e => e) (fun h' v tk keep => ?_) hz
  exact ⟨.str d.shown, H, I.kept (t' := tk) keep, ⟨_, rfl⟩, q⟩
end
/-! ### the law's own call -/
/-- the script's list, known to the object -/
def scriptO (vs : List Value) : Obj := { cls := .type "list", data := .seq vs.toArray }
/-- what is tracked at the law's entry: the script, if it is no object of the module -/
def H0 (K : PySem.W.Frag) (a : Addr) (vs : List Value) (ns : List Int) : Hp := fun b => if b = a ∧ K.lookup a = none then some (.frz (scriptO vs) (.lst (ns.map V.int))) else none
theorem H0_some {K : PySem.W.Frag} {a b : Addr} {vs : List Value} {ns : List Int} {u : HO} (h : H0 K a vs ns b = some u) : b = a ∧ K.lookup a = none ∧ u = .frz (scriptO vs) (.lst (ns.map V.int)) := by
  unfold H0 at h
  by_cases c : b = a ∧ K.lookup a = none
  · rw [if_pos c] at h
    exact ⟨c.1, c.2, (Option.some.inj h).symm⟩
  · rw [if_neg c] at h
    cases h
theorem ints_vals : ∀ {ns : List Int} {vs : List Value}, IntsAre vs ns → Vals (ns.map V.int) vs
  | _, _, .nil => .nil
  | _, _, .cons _ _ r => .cons ⟨_, rfl⟩ (ints_vals r)
theorem law_callG {P : Program} {w : World} {K : PySem.W.Frag} {mg mb : Str → Option Value} {k : Nat} {fa a : Addr} {fd : FuncData} {x : Str} {sp : Sp} {s₁ : Shared} {vs : List Value} {ns : List Int}
    (kin : K.In s₁.heap) (hm : s₁.heap.Ns mainGlobals mg) (hbl : s₁.heap.Ns builtinsNs mb) (hbt : ∀ y : Str, y ≠ "__name__" → mb y = bootBuiltins y) (lim : s₁.heap.NoLimit) (gens : s₁.gens = #[])
    (obj : s₁.heap.get? a = some (scriptO vs)) (hints : IntsAre vs ns) (size : ns.length ≤ sizeLine) (room : Room k callerA)
    (F : ∀ base : Heap, K.In base → base.Ns mainGlobals mg → FnG P w K mg base CX0 k fa fd [x] sp) (bind : ∀ (s : Shared) (u : Value), BindsTo s fd ⟨[u], []⟩ [(x, u)])
    (want : ∀ H : Hp, SqL K H a (ns.map V.int) → sp [.ref a] H (fun v _ => v = .bl true) E0) :
    codeAny (model P w) callerA (.call (.ref fa) ⟨[.ref a], []⟩) (fun r s' => r = .ok (.ret (.bool true)) ∧ OldK s₁.heap s'.heap ∧ s'.os = s₁.os ∧ AllBare s'.gens) s₁ := by
  have rv := ints_vals hints
  have ok : HOk P w (H0 K a vs ns) s₁.heap := fun b u h => by
    obtain ⟨rfl, _, rfl⟩ := H0_some h
    exact ⟨obj, by rw [List.length_map]; exact size, vs, _, rv, obj⟩
  have sq : SqL K (H0 K a vs ns) a (ns.map V.int) := by
    cases lk : K.lookup a with
    | none => exact .inl (.inr ⟨scriptO vs, if_pos ⟨rfl, lk⟩⟩)
    | some o =>
      have e := kin a o lk
      rw [obj] at e
      cases e
      exact .inr ⟨_, vs.toArray, _, lk, rfl, rfl, rfl, by rw [List.size_toArray, hints.length]; exact size, by simpa using rv⟩
  -- what is not tracked stays in sight
  have seen : ∀ {b : Addr} {o : Obj}, s₁.heap.get? b = some o → (b = a → K.lookup a ≠ none) → (hidT s₁.heap (H0 K a vs ns)).get? b = some o := fun {b o} e n => hidT_get e (by
    cases q : H0 K a vs ns b with
    | none => rfl
    | some u =>
      obtain ⟨h1, h2, _⟩ := H0_some q
      exact absurd h2 (n h1))
  have dicts : ∀ {b : Addr} {m : Str → Option Value}, s₁.heap.Ns b m → (hidT s₁.heap (H0 K a vs ns)).Ns b m := fun {b m} ⟨o, es, ep, e, d, r⟩ => ⟨o, es, ep, seen e (fun z => by
    subst z
    rw [obj] at e
    cases e
    cases (show Data.seq vs.toArray _ = Data.dict es ep from d)), d, r⟩
  have kinB : K.In (hidT s₁.heap (H0 K a vs ns)) := fun b o e => seen (kin b o e) (fun z => by subst z; rw [e]; simp)
  have md : Mod K mg (hidT s₁.heap (H0 K a vs ns)) := ⟨kinB, dicts hm, ⟨mb, dicts hbl, hbt⟩, let ⟨mc, h1, h2⟩ := lim; ⟨mc, dicts h1, h2⟩⟩
  have e0 : Env0 P w K mg (hidT s₁.heap (H0 K a vs ns)) callerA [] s₁ (H0 K a vs ns) :=
    { frames := rfl, mod := md, bs := fun b o e => of_hidT e, bsz := Nat.le_of_eq (hidT_size _ _), funs := trivial, frf := fun b hb => (List.not_mem_nil hb).elim, hok := ok, bare := .of_eq gens }
  refine codeAny_mono ((F _ kinB (dicts hm)).run callerA [] s₁ (H0 K a vs ns) ⟨[.ref a], []⟩ [.ref a] [.ref a] (fun v _ => v = .bl true) E0 rfl room e0 (bind s₁ (.ref a)) (.cons rfl .nil) (want _ sq)) fun r s' h => ?_
  match r, h with
  | .error z, h => exact False.elim h
  | .ok (.ret u), ⟨v, H', os, bare, un, ok', rv', q⟩ =>
    have q' : v = .bl true := q
    subst q'
    obtain rfl : u = Value.bool true := rv'
    refine ⟨rfl, OldK.of_keep fun b o e => ?_, os, bare⟩
    cases t : H0 K a vs ns b with
    | none => exact un.keep b o e t (fun z => (List.not_mem_nil z).elim) (fun z => (List.not_mem_nil z).elim)
    | some u =>
      obtain ⟨rfl, _, rfl⟩ := H0_some t
      have e2 := (ok' b _ (un.frzs b _ _ t)).1
      rw [obj] at e
      cases e
      exact e2
theorem walk_ofG {l : PySem.W.OpenLaw} {n k : Nat} {q : Program} {loose : List Str} {XP : (Str → Option Value) → Heap → Prop} {YP : World → Heap → Prop} {d : DefRec} {K : Params → PySem.W.Frag} {sp : World → Sp} {x : Str}
    (hn : l.most = some n) (hn2 : n ≤ sizeLine) (hdf : d.params.defaults = []) (room : Room k callerA) (hY : ∀ (w : World) (h : Heap), YP w h → (K w.params).In h)
    (F : ∀ (w : World) (mg : Str → Option Value) (fa : Addr) (h : Heap), (K w.params).In h → h.Ns mainGlobals mg → mg d.name = some (.ref fa) →
      ∃ fd : FuncData, (∀ (s : Shared) (u : Value), BindsTo s fd ⟨[u], []⟩ [(x, u)]) ∧ ∀ base : Heap, (K w.params).In base → base.Ns mainGlobals mg → FnG l.prog w (K w.params) mg base CX0 k fa fd [x] (sp w))
    (want : ∀ (w : World) (H : Hp) (a : Addr) (ns : List Int), ns.length ≤ n → SqL (K w.params) H a (ns.map V.int) → sp w [.ref a] H (fun v _ => v = .bl true) E0) :
    PySem.W.WalkO q loose XP YP l.row.toRowW d [] (fun f vs => PySem.call f vs) := by
  refine Att.attach_call hn hdf fun w s₀ s₁ mg mb fa o pm cd doc a vs ns G Y ho hd hcd hmg hobj hints hlen hg => ?_
  have kin := hY w _ Y
  obtain ⟨fd, hb, hF⟩ := F w mg fa _ kin G.T.g hmg
  exact law_callG kin G.T.g G.T.b G.T.builtins G.T.nolimit hg hobj hints (Nat.le_trans hlen hn2) room hF hb fun H hS => want w H a ns hlen hS
end Ls
namespace Ls
open PySem PySem.Spec PyProof.Rows L2
/-! ### repr of data, or of a pair of a text and an empty dict -/
def DpX (K : PySem.W.Frag) (H : Hp) (v : V) (d : PyData) : Prop := (Dp K H v d ∧ d.hasDict = false) ∨ ∃ (a e : Addr) (z : Str), v = .ref a ∧ H a = some (.tup [.str z, .ref e]) ∧ H e = some (.dK []) ∧ d = .tuple [.str z, .dict []]
section
variable {X : Cx} {pins : List (Addr × Obj)} {σ : L2.St} {H : Hp} {s : Shared}
theorem DpX.reads (I : Inv X pins σ H s) {v : V} {u : Value} {d : PyData} (h : DpX X.K H v d) (r : RelV v u) : ∃ as, Reads s.heap u d as ∧ (d.hasDict = true → sysModules ∉ as) := by
  rcases h with ⟨h, hn⟩ | ⟨a, e, z, rfl, ha, he, rfl⟩
  · obtain ⟨as, rd⟩ := Dp.reads I d v u h r
    exact ⟨as, rd, fun y => by rw [hn] at y; cases y⟩
  · cases r
    obtain ⟨its, rv, ⟨o, ho, hc, n, hd⟩, _⟩ := I.tuple (.inl (.inl ha))
    obtain ⟨_, hsm, vs, kv, oD, es, ep, hoD, hex, hdD, _, pr, _⟩ := dk_of I.hok he
    cases kv
    have e0 : es.toList = [] := by
      cases h : es.toList with
      | nil => rfl
      | cons x y => rw [h] at pr; cases pr
    have hcls : oD.cls = .type "dict" := hex.1
    cases rv with
    | cons r1 rr =>
      cases rr with
      | cons r2 rr =>
        cases rr
        obtain ⟨t, rfl⟩ := r1
        cases r2
        refine ⟨[] ++ ((e :: [] ++ []) ++ []), Reads.tuple ho hc hd (.cons (.str z t) (.cons (Reads.dict hoD hcls hdD ?_ ?_) .nil)), fun _ hm => ?_⟩
        · rw [e0]
          exact .nil
        · rw [e0]
          exact .nil
        · simp at hm
          rw [← hm] at hsm
          simp at hsm
/-- repr(x): the text of x's data -/
def rReprX (K : PySem.W.Frag) : List V → Hp → VK → Prop := fun xs H Q => ∃ (a : Addr) (d : PyData), xs = [.ref a] ∧ DpX K H (.ref a) d ∧ d.showable = true ∧ d.depth ≤ 60 ∧ d.shown.length ≤ sizeLine ∧ Q (.str d.shown) H
theorem call_repr_dataX {k : Nat} (hgd : X.A.guards = some []) (hr : Room k X.A) : CallR X (.builtin "repr") (rReprX X.K) := by
  intro pins s σ H xs us Q I r h
  obtain ⟨a, d, rfl, hd, hs, hdp, hz, q⟩ := h
  obtain ⟨u, rfl, ru⟩ := r.one
  obtain ⟨as, rd, hsm⟩ := DpX.reads I hd ru
  cases ru
  refine repr_of_reads' rd hs hsm hgd (by have := hr.un; omega) (fun b o e => e) (fun h' v tk keep => ?_) hz
  exact ⟨.str d.shown, H, I.kept (t' := tk) keep, ⟨_, rfl⟩, q⟩
end
end Ls
namespace Ls
open PySem PySem.Spec PyProof.Rows L2
/-! ### data whose text is not too long -/
structure DOk (k m : Nat) (d : PyData) : Prop where
  sh : d.showable = true
  nd : d.hasDict = false
  dp : d.depth ≤ k
  ls : d.leavesShort 100 = true
  bk : d.bulk ≤ m
theorem DOk.mono {k m k' m' : Nat} {d : PyData} (h : DOk k m d) (h1 : k ≤ k') (h2 : m ≤ m') : DOk k' m' d := ⟨h.sh, h.nd, Nat.le_trans h.dp h1, h.ls, Nat.le_trans h.bk h2⟩
theorem DOk.none {m : Nat} : DOk 0 m .none := ⟨rfl, rfl, by simp [PyData.depth], rfl, by simp [PyData.bulk]⟩
theorem DOk.bool {m : Nat} (b : Bool) : DOk 0 m (.bool b) := ⟨rfl, rfl, by simp [PyData.depth], rfl, by simp [PyData.bulk]⟩
theorem log_small {i : Int} (h : i.natAbs < 2 ^ 1920) : i.natAbs.log2 < 1920 := by
  by_cases z : i.natAbs = 0
  · rw [z]
    decide
  · exact (Nat.log2_lt z).mpr h
theorem DOk.int {m : Nat} {i : Int} (h : i.natAbs < 10 ^ 60) : DOk 0 m (.int i) :=
  ⟨by
    have e := log_small (Nat.lt_trans h (show 10 ^ 60 < 2 ^ 1920 by decide +kernel))
    simp [PyData.showable, e], by simp [PyData.hasDict], by simp [PyData.depth], by
    have e := int_text_length_le10 (k := 60) (by decide) h
    simp only [PyData.leavesShort, PyData.shown, decide_eq_true_eq]
    refine decide_eq_true ?_
    rw [PySem.ofString_length]
    omega, by simp [PyData.bulk]⟩
/-- a text of at most m signs -/
def okB (m : Nat) (z : Str) : Bool := decide (z.length ≤ m) && z.cps.toList.all fun c => decide (c < 1114112)
theorem okB_len {m : Nat} {z : Str} (h : okB m z = true) : z.length ≤ m := of_decide_eq_true (Bool.and_eq_true_iff.mp h).1
theorem okB_cp {m : Nat} {z : Str} (h : okB m z = true) : ∀ c ∈ z.cps.toList, c < 1114112 := fun c hc => of_decide_eq_true (List.all_eq_true.mp (Bool.and_eq_true_iff.mp h).2 c hc)
theorem okB_ch {m : Nat} {z : Str} (h : okB m z = true) : ∀ c ∈ z.cps.toList, c < 16 ^ 8 := fun c hc => Nat.lt_trans (okB_cp h c hc) (by decide)
theorem okB_strOk {m : Nat} {z : Str} (h : okB m z = true) : PyData.strOk z = true := by
  unfold PyData.strOk
  rw [← Array.all_toList]
  exact List.all_eq_true.mpr fun c hc => decide_eq_true (okB_cp h c hc)
theorem okB_mono {m m' : Nat} {z : Str} (h : okB m z = true) (h1 : m ≤ m') : okB m' z = true := by
  unfold okB at h ⊢
  obtain ⟨a, b⟩ := Bool.and_eq_true_iff.mp h
  rw [b, decide_eq_true (Nat.le_trans (of_decide_eq_true a) h1)]
  rfl
theorem okB_of {m : Nat} {z : Str} (h : z.length ≤ m) (h2 : ∀ c ∈ z.cps.toList, c < 1114112) : okB m z = true := by
  unfold okB
  rw [decide_eq_true h, Bool.true_and, List.all_eq_true]
  exact fun c hc => decide_eq_true (h2 c hc)
theorem okB_append {m n : Nat} {y z : Str} (h : okB m y = true) (h2 : okB n z = true) : okB (m + n) (y ++ z) = true := by
  unfold okB at h h2
  obtain ⟨a, b⟩ := Bool.and_eq_true_iff.mp h
  obtain ⟨c, d⟩ := Bool.and_eq_true_iff.mp h2
  have a := of_decide_eq_true a
  have c := of_decide_eq_true c
  refine okB_of ?_ fun x hx => ?_
  · rw [strLen_append]
    omega
  · have e : (y ++ z).cps.toList = y.cps.toList ++ z.cps.toList := by rw [PySem.Str.cps_append, Array.toList_append]
    rw [e] at hx
    rcases List.mem_append.mp hx with h | h
    · exact of_decide_eq_true (List.all_eq_true.mp b x h)
    · exact of_decide_eq_true (List.all_eq_true.mp d x h)
theorem DOk.str {m : Nat} {z : Str} (h : okB m z = true) : DOk 0 m (.str z) :=
  ⟨rfl, rfl, by simp [PyData.depth], by
    simp only [PyData.leavesShort]
    exact List.all_eq_true.mpr fun c hc => decide_eq_true (okB_ch h c hc), by
    simp only [PyData.bulk]
    exact okB_len h⟩
theorem dok_all {k m : Nat} : ∀ {ds : List PyData}, (∀ d ∈ ds, DOk k m d) → PyData.showableAll ds = true ∧ PyData.hasDictAll ds = false ∧ PyData.depthAll ds ≤ k ∧ PyData.leavesShortAll 100 ds = true ∧ PyData.bulkAll ds ≤ (m + 1) * ds.length
  | [], _ => ⟨by simp [PyData.showableAll], by simp [PyData.hasDictAll], by simp [PyData.depthAll], by simp [PyData.leavesShortAll], by simp [PyData.bulkAll]⟩
  | d :: r, h => by
    obtain ⟨a, b, c, e, f⟩ := dok_all fun x hx => h x (.tail _ hx)
    obtain ⟨a1, b1, c1, e1, f1⟩ := h d (.head _)
    refine ⟨by simp [PyData.showableAll, a, a1], by simp [PyData.hasDictAll, b, b1], ?_, by simp [PyData.leavesShortAll, e, e1], ?_⟩
    · simp only [PyData.depthAll]
      omega
    · simp only [PyData.bulkAll, List.length_cons]
      rw [Nat.mul_add, Nat.mul_one]
      omega
theorem DOk.list {k m : Nat} {ds : List PyData} (h : ∀ d ∈ ds, DOk k m d) : DOk (k + 1) ((m + 1) * ds.length) (.list ds) := by
  obtain ⟨a, b, c, e, f⟩ := dok_all h
  exact ⟨by rw [PyData.showable]; exact a, by rw [PyData.hasDict]; exact b, by rw [PyData.depth]; omega, by rw [PyData.leavesShort]; exact e, by rw [PyData.bulk]; exact f⟩
theorem DOk.tuple {k m : Nat} {ds : List PyData} (h : ∀ d ∈ ds, DOk k m d) : DOk (k + 1) ((m + 1) * ds.length) (.tuple ds) := by
  obtain ⟨a, b, c, e, f⟩ := dok_all h
  exact ⟨by rw [PyData.showable]; exact a, by rw [PyData.hasDict]; exact b, by rw [PyData.depth]; omega, by rw [PyData.leavesShort]; exact e, by rw [PyData.bulk]; exact f⟩
theorem DOk.list' {k m n : Nat} {ds : List PyData} (h : ∀ d ∈ ds, DOk k m d) (hn : ds.length ≤ n) : DOk (k + 1) ((m + 1) * n) (.list ds) := (DOk.list h).mono (Nat.le_refl _) (Nat.mul_le_mul_left _ hn)
theorem DOk.tuple' {k m n : Nat} {ds : List PyData} (h : ∀ d ∈ ds, DOk k m d) (hn : ds.length ≤ n) : DOk (k + 1) ((m + 1) * n) (.tuple ds) := (DOk.tuple h).mono (Nat.le_refl _) (Nat.mul_le_mul_left _ hn)
theorem DOk.fits {k m : Nat} {d : PyData} (h : DOk k m d) (hk : k ≤ 60) (hm : m ≤ 160000) : d.showable = true ∧ d.depth ≤ 60 ∧ d.shown.length ≤ sizeLine := by
  refine ⟨h.sh, Nat.le_trans h.dp hk, ?_⟩
  have e := PyData.shown_le_bulk 100 (by decide) d h.ls
  have e2 := h.bk
  have e3 : (100 + 2) * d.bulk ≤ 102 * 160000 := Nat.mul_le_mul_left _ (by omega)
  exact Nat.le_trans (show _ ≤ 102 * 160000 + 100 by omega) (by decide)
end Ls
namespace Ls
open PySem PySem.Spec PyProof.Rows L2
/-! ### data that stay -/
mutual
theorem dp_same {K : PySem.W.Frag} {H H' : Hp} (s : Same H H') : ∀ (d : PyData) (v : V), Dp K H v d → Dp K H' v d
  | .none, _, h => by cases h; exact .non
  | .bool b, _, h => by cases h; exact .bl b
  | .int i, _, h => by cases h; exact .int i
  | .str x, _, h => by cases h; exact .str x
  | .list ds, _, h => by
    cases h with
    | lst q a => exact .lst (Stays.sqL s q) (dpAll_same s ds _ a)
  | .tuple ds, _, h => by
    cases h with
    | tup q a => exact .tup (Stays.sqT s q) (dpAll_same s ds _ a)
  | .dict _, _, h => by cases h
theorem dpAll_same {K : PySem.W.Frag} {H H' : Hp} (s : Same H H') : ∀ (ds : List PyData) (vs : List V), DpAll K H vs ds → DpAll K H' vs ds
  | [], _, h => by cases h; exact .nil
  | d :: ds, _, h => by
    cases h with
    | cons h1 h2 => exact .cons (dp_same s d _ h1) (dpAll_same s ds _ h2)
end
/-- data that may be compared -/
def Flat (d : PyData) : Prop := PyData.canLay0 d = true ∧ d.depth ≤ 60
def Cmp (K : PySem.W.Frag) (H : Hp) (v : V) : Prop := ∃ d, Dp K H v d ∧ Flat d
theorem flat_all : ∀ {ds : List PyData}, (∀ d ∈ ds, Flat d) → PyData.canLayAll0 ds = true ∧ PyData.depthAll ds ≤ 60
  | [], _ => ⟨by simp [PyData.canLayAll0], by simp [PyData.depthAll]⟩
  | d :: r, h => by
    obtain ⟨a, b⟩ := h d (.head _)
    obtain ⟨c, e⟩ := flat_all fun x hx => h x (.tail _ hx)
    refine ⟨by simp [PyData.canLayAll0, a, c], ?_⟩
    simp only [PyData.depthAll]
    omega
theorem shaped_list {ds : List PyData} (h : ∀ d ∈ ds, Flat d) : SeqAt.shaped (.list ds) = true := by
  obtain ⟨a, b⟩ := flat_all h
  unfold SeqAt.shaped
  have e : PyData.depth (.list ds) ≤ 64 := by
    rw [PyData.depth]
    omega
  rw [decide_eq_true e, PyData.canLay0, a]
  rfl
theorem Cmp.same {K : PySem.W.Frag} {H H' : Hp} {v : V} (h : Cmp K H v) (s : Same H H') : Cmp K H' v := by
  obtain ⟨d, a, b⟩ := h
  exact ⟨d, dp_same s d v a, b⟩
theorem cmp_all {K : PySem.W.Frag} {H : Hp} : ∀ {xs : List V}, (∀ v ∈ xs, Cmp K H v) → ∃ ds, DpAll K H xs ds ∧ (∀ d ∈ ds, Flat d) ∧ ds.length = xs.length
  | [], _ => ⟨[], .nil, (fun d hd => by cases hd), rfl⟩
  | v :: r, h => by
    obtain ⟨d, a, b⟩ := h v (.head _)
    obtain ⟨ds, c, e, l⟩ := cmp_all fun u hu => h u (.tail _ hu)
    refine ⟨d :: ds, .cons a c, fun x hx => ?_, by rw [List.length_cons, List.length_cons, l]⟩
    rcases List.mem_cons.mp hx with rfl | hx
    · exact b
    · exact e x hx
end Ls
namespace Ls
open PySem PySem.Spec PyProof.Rows L2
/-! ### short steps -/
local macro_rules | `(tactic| walk_at "ls_ne") => `(tactic| first | assumption | exact Ne.symm (by assumption) | exact ne_of_none (by assumption) (by assumption) | exact Ne.symm (ne_of_none (by assumption) (by assumption)))
local macro_rules | `(tactic| walk_at "ls_hp") => `(tactic| first
  | with_reducible assumption
  | exact upd_same
  | exact Eq.trans (upd_ne (by walk_at "ls_ne")) (by walk_at "ls_hp"))
local macro_rules | `(tactic| walk_at "ls_st") => `(tactic| first
  | with_reducible assumption
  | exact Stm.upd (by walk_at "ls_st") (by first | walk_at "ls_ne" | exact (Stm.noneS (by assumption) (by assumption)).1) (by first | walk_at "ls_ne" | exact (Stm.noneS (by assumption) (by assumption)).2))
local macro_rules | `(tactic| walk_at "ls1") => `(tactic| first
  | refine ⟨_, rfl, ?_⟩
  | refine ⟨_, _, rfl, rfl, ?_⟩
  | refine ⟨_, _, _, _, rfl, rfl, .inl (.inl (by walk_at "ls_hp")), rfl, ?_⟩
  | refine ⟨_, _, _, _, rfl, rfl, (by walk_at "ls_hp"), rfl, ?_⟩
  | refine ⟨rfl, _, rfl, ?_⟩
  | refine ⟨.inl ⟨rfl, _, .inl (.inl (by walk_at "ls_hp"))⟩, ?_⟩)
local macro_rules | `(tactic| walk_at "ls") => `(tactic| repeat (walk_at "ls1"))

def wrongF (mn : List Str) (v : V) : Option V := if isWordV mn v = true then none else some v
theorem wrong_all (mn : List Str) : ∀ ck : List V, ck.filterMap (wrongF mn) = ck.filter fun v => !isWordV mn v
  | [] => rfl
  | v :: r => by
    rw [List.filterMap_cons, List.filter_cons, wrong_all mn r]
    unfold wrongF
    cases h : isWordV mn v <;> simp
theorem find_filter (p : V → Bool) : ∀ l : List V, l.find? p = (l.filter p).head?
  | [] => rfl
  | v :: r => by
    rw [List.find?_cons, List.filter_cons, find_filter p r]
    cases p v <;> rfl
/-- the words for what is wrong -/
def BkE.word : BkE → Str
  | .col (.name b _) => nameWord b
  | .col (.kind _) => "UnknownKind"
  | .col (.rule _) => "BadRule"
  | .check _ => "UnknownCheck"
def BkE.val : BkE → V
  | .col (.name _ v) => v
  | .col (.kind v) => v
  | .col (.rule v) => v
  | .check v => v
theorem nerr_of {K : PySem.W.Frag} {a : Addr} {H : Hp} {Q : VK} {E : XK} {v : V} {ts : List Str} (hv : Thg K H v) (ha : SqU K H a (ts.map V.str))
    (h : match nameErr ts v with
      | some b => ∀ H' t, Same H H' → H' t = some (.tup [.str (nameWord b), v]) → Q (.ref t) H'
      | none => ∀ H', Same H H' → Q .non H') : spNameErr K [v, .ref a] H Q E := ⟨v, a, ts, rfl, hv, ha, h⟩
section
variable {P : Program} {w : World} {K : PySem.W.Frag} {mg : Str → Option Value} {base : Heap}
/-! ### _law_due -/
abbrev s__law_due : Stmt := topS 42
theorem sc__law_due : FnScope ["_law_kinds", "_law_columns", "_law_checks", "_law_names_here", "_law_word", "_law_is_open", "_law_many", "_law_home", "_law_goal", "_law_rule", "_law_kind", "_law_menu", "_law_wrong", "_law_check"] ["_law_kinds", "_law_columns", "_law_checks"] (defScope s__law_due) := ⟨rfl, rfl, rfl, by decide +kernel, rfl, by decide +kernel, by decide +kernel⟩
abbrev N__law_due : List Str := ["_law_kinds", "_law_columns", "_law_checks", "_law_names_here", "_law_word", "_law_is_open", "_law_many", "_law_home", "_law_goal", "_law_rule", "_law_kind", "_law_menu", "_law_wrong", "_law_check"]
def spDue (K : PySem.W.Frag) : Sp := fun vs H Q _ => ∃ (ka ca xa : Addr) (kx cx ck : List V) (ks : List (V × V)) (cs : List Col), vs = [.ref ka, .ref ca, .ref xa] ∧ H ka = some (.lst kx) ∧ RowsAt K H kx (ks.map fun k => [k.1, k.2]) ∧ H ca = some (.lst cx) ∧ RowsAt K H cx (cs.map colU) ∧ H xa = some (.lst ck) ∧
  (∀ k ∈ ks, Thg K H k.1) ∧ (∀ c ∈ cs, Thg K H c.1 ∧ Thg K H c.2.1 ∧ Thg K H c.2.2.1 ∧ Thg K H c.2.2.2) ∧ (∀ v ∈ ck, Thg K H v) ∧ (∀ v ∈ ck, Cmp K H v) ∧ ks.length ≤ 1000 ∧ cs.length ≤ 1000 ∧ ck.length ≤ 1000 ∧
  match bookErr ks cs ck with
  | some e => ∀ H' t, Same H H' → H' t = some (.tup [.str e.word, e.val]) → Q (.ref t) H'
  | none => ∀ H', Same H H' → Q .non H'
theorem ok_due {f : Addr} {fd : FuncData} (F : Fun K "_law_due" "_law_due" s__law_due f fd) (T : Bt mg) (O__law_name_error : Own P w K mg base CX0 2 "_law_name_error" ["_law_word", "_law_known"] (spNameErr K))
    (O__law_all_checks : Own P w K mg base CX0 1 "_law_all_checks" ["_law_b"] (spAllU K)) : FnOk P w K mg base CX0 3 f fd ["_law_kinds", "_law_columns", "_law_checks"] (spDue K) := by
  refine F.ok sc__law_due (fun vs H Q E h => ?_) (fun cdv A outer s H vs Q E hr h => ?_)
  · obtain ⟨ka, ca, xa, kx, cx, ck, ks, cs, rfl, _⟩ := h
    rfl
  · obtain ⟨ka, ca, xa, kx, cx, ck, ks, cs, rfl, hka, hkt, hca, hct, hxa, tk, tc, tx, dx, lk, lc, lx, q⟩ := h
    have hu := hu_of hr
    refine ⟨_, (pss_cons (ps_set (i := 3) sc__law_due.nd rfl (Or.inl rfl) (pe_lst pa_nil))
      (pss_cons (ps_for PassesOwn.never rfl (pi_list (pv 0)) (pg_seq rfl (pgs_cons (pg_name (i := 4) sc__law_due.nd rfl (Or.inl rfl)) (pgs_cons (pg_name (i := 5) sc__law_due.nd rfl (Or.inl rfl)) pgs_nil))) (pss_cons (ps_if (pt_cmpR op_notN (own_call O__law_name_error hr (by first | decide | omega) (pa_cons (pv 4) (pa_cons (pv 3) pa_nil))) pe_non (nomark _)) (pss_one (ps_ret (own_call O__law_name_error hr (by first | decide | omega) (pa_cons (pv 4) (pa_cons (pv 3) pa_nil))))) pss_nil)
      (pss_one (ps_expr (pe_bm PySem.F.plainAttrs_list PySem.F.slot_list_append PySem.F.type_list_append mt_append (pv 3) (pa_cons (pv 4) pa_nil))))))
      (pss_cons (ps_set (i := 6) sc__law_due.nd rfl (Or.inl rfl) (pe_callB (len_seq K) (by rfl) T.m_len (by decide +kernel) (pa_cons (pv 3) pa_nil)))
      (pss_cons (ps_for PassesOwn.never rfl (pi_list (pv 1)) (pg_seq rfl (pgs_cons (pg_name (i := 4) sc__law_due.nd rfl (Or.inl rfl)) (pgs_cons (pg_name (i := 7) sc__law_due.nd rfl (Or.inl rfl)) (pgs_cons (pg_name (i := 8) sc__law_due.nd rfl (Or.inl rfl)) (pgs_cons (pg_name (i := 9) sc__law_due.nd rfl (Or.inl rfl)) pgs_nil))))) (pss_cons (ps_if (pt_cmpR op_notN (own_call O__law_name_error hr (by first | decide | omega) (pa_cons (pv 4) (pa_cons (pv 3) pa_nil))) pe_non (nomark _)) (pss_one (ps_ret (own_call O__law_name_error hr (by first | decide | omega) (pa_cons (pv 4) (pa_cons (pv 3) pa_nil))))) pss_nil)
      (pss_cons (ps_for PassesOwn.never rfl (pi_list (pe_lst (pa_cons (pv 7) (pa_cons (pv 8) pa_nil)))) (pg_name (i := 10) sc__law_due.nd rfl (Or.inl rfl)) (pss_one (ps_if (PW.pt (pw_or (pt_not (pt_val (pe_callB call_isi (by rfl) T.m_isinstance (by decide +kernel) (pa_cons (pv 10) (pa_cons (pe_bltn (v := V.ty "str") (by rfl) T.m_str boot_str rfl) pa_nil))))) (pw_or1 (pt_cmpR (notIn_seq K) (pv 10) (pe_slice sl_list (pv 3) po_none (po_some (pv 6))) (by rfl))))) (pss_one (ps_ret (pe_tup (pa_cons pe_str (pa_cons (pv 10) pa_nil))))) pss_nil)))
      (pss_cons (ps_if (PW.pt (pw_or (pt_not (pt_val (pe_callB call_isi (by rfl) T.m_isinstance (by decide +kernel) (pa_cons (pv 9) (pa_cons (pe_bltn (v := V.ty "str") (by rfl) T.m_str boot_str rfl) pa_nil))))) (pw_or1 (pt_cmpR (notIn_seq K) (pv 9) (pe_lst (pa_cons pe_str (pa_cons pe_str pa_nil))) (by rfl))))) (pss_one (ps_ret (pe_tup (pa_cons pe_str (pa_cons (pv 9) pa_nil))))) pss_nil)
      (pss_one (ps_expr (pe_bm PySem.F.plainAttrs_list PySem.F.slot_list_append PySem.F.type_list_append mt_append (pv 3) (pa_cons (pv 4) pa_nil))))))))
      (pss_cons (ps_set (i := 11) sc__law_due.nd rfl (Or.inr rfl) (own_call O__law_all_checks hr (by first | decide | omega) (pa_cons (pe_disp (pps_cons pe_str (pv 0) (pps_cons pe_str (pv 1) pps_nil)) (by rfl) (by rfl) (fun z => by cases z) (by decide)) pa_nil)))
      (pss_cons (ps_setLc (i := 12) (own := [("_law_check", 13)]) (g := gName 13) (by rfl) sc__law_due.nd rfl rfl (sw_true rfl rfl rfl (by decide +kernel)) (pi_list (pv 2)) (blkOk_by (own := [("_law_check", 13)]) (N := N__law_due) (sc := defScope s__law_due) (by decide +kernel)) (fun _ _ _ _ _ => (pg_name (i := 13) sc__law_due.nd rfl (Or.inl rfl) (Or.inr rfl))) (fun _ _ _ _ _ => (pts_one (PW.pt (pw_or (pt_not (pt_val (pe_callB (isi_of K) (by rfl) T.m_isinstance (by decide +kernel) (pa_cons (pv 13) (pa_cons (pe_bltn (v := V.ty "str") (by rfl) T.m_str boot_str rfl) pa_nil))))) (pw_or1 (pt_cmpR (notIn_seq K) (pv 13) (pv 11) (by rfl))))))) (fun _ _ _ _ _ => (pv 13)))
      (pss_one (ps_ret (pe_ifExp (pt_cmpR (neD K hr) (pv 12) (pe_lst pa_nil) (nomark _)) (pe_tup (pa_cons pe_str (pa_cons (pe_ix (ixL K) (pv 12) pe_int (fun _ _ => rfl)) pa_nil))) pe_non))))))))), ?_⟩
    unfold bookErr at q
    refine ⟨Nat.zero_le _, fun p hp => ?_⟩
    have s0 : Same H (upd H p (.lst [])) := same_new hp
    walk_at "ls"
    refine ⟨⟨_, .inl (.inl (s0 _ _ hka))⟩, ?_⟩
    have lkx : kx.length = ks.length := by rw [hkt.len, List.length_map]
    refine for_it (walk_list (xs := kx)) (fun i σ H1 => ∃ (v4 v5 : Option V) (zs : List Str), σ = [some (.ref ka), some (.ref ca), some (.ref xa), some (.ref p), v4, v5, none, none, none, none, none, none, none, none] ∧ H1 p = some (.lst (zs.map V.str)) ∧ Same H H1 ∧
        zs = (knOf ks).take i ∧ kindsErr [] ks = kindsErr zs (ks.drop i))
      ⟨none, none, [], rfl, upd_same, s0, rfl, rfl⟩ (fun i σ H1 _ ⟨_, _, _, _, _, s1, _⟩ => .inl (.inl (s1 _ _ hka))) ?_ ?_
    · rintro i x σ Hz H1 hi ⟨v4, v5, zs, rfl, h1, s1, ez, ek⟩ ⟨rfl, hxi⟩
      obtain ⟨ys, hys, t, rfl, hto⟩ := RowsAt.get (hkt.same s1) hxi
      obtain ⟨k, hki, rfl⟩ := map_get hys
      refine ⟨t, _, rfl, hto, rfl, _, _, rfl, _, _, rfl, rfl, ?_⟩
      have tk1 := (tk _ (List.mem_of_getElem? hki)).same s1
      have e1 := kindsErr_step (taken := zs) hki
      walk_at "ls"
      simp only [tNil, List.set]
      refine nerr_of tk1 (.inl (.inl (.inl h1))) ?_
      cases hn : nameErr zs k.1 with
      | some b =>
        intro H2 t2 s2 ht2
        refine ⟨rfl, true, by simp, iteT ?_⟩
        walk_at "ls"
        simp only [tNil, List.set]
        refine nerr_of (tk1.same s2) (.inl (.inl (.inl (s2 _ _ h1)))) ?_
        rw [hn]
        intro H3 t3 s3 ht3
        have eb : kindsErr [] ks = some (b, k.1) := by rw [ek, e1, hn]
        rw [eb] at q
        exact q _ t3 ((s1.trans s2).trans s3) ht3
      | none =>
        intro H2 s2
        refine ⟨rfl, false, by simp, iteF ?_⟩
        obtain ⟨n1, n2⟩ := nameErr_none hn
        have h2 := s2 _ _ h1
        have lz : (zs.map V.str).length < sizeLine := by
          rw [List.length_map, ez, List.length_take]
          have : (knOf ks).length = ks.length := by unfold knOf; rw [List.length_map]
          exact Nat.lt_of_le_of_lt (show _ ≤ 1000 by omega) (show 1000 < sizeLine by decide)
        walk_at "ls"
        refine ⟨_, _, _, rfl, rfl, h2, lz, ?_⟩
        have ekk : (knOf ks)[i]? = some (strOf k.1) := by unfold knOf; rw [List.getElem?_map, hki]; rfl
        refine ⟨_, _, zs ++ [strOf k.1], rfl, ?_, Same.set (s1.trans s2) hp, ?_, ?_⟩
        · rw [upd_same, name_str n1, List.map_append]
          rfl
        · rw [List.take_add_one, ekk, ez]
          rfl
        · rw [ek, e1, hn]
    · rintro σ H1 ⟨v4, v5, zs, rfl, h1, s1, ez, ek⟩
      have ekn0 : (knOf ks).length = ks.length := by unfold knOf; rw [List.length_map]
      rw [lkx, ← ekn0, List.take_length] at ez
      rw [lkx, List.drop_length] at ek
      rw [ek] at q
      simp only [kindsErr] at q
      have hkg := kinds_good ek
      subst ez
      generalize hkn : knOf ks = kn at *
      walk_at "ls"
      refine ⟨p, _, rfl, .inl (.inl (.inl h1)), ?_⟩
      walk_at "ls"
      refine ⟨⟨_, .inl (.inl (s1 _ _ hca))⟩, ?_⟩
      have lcx : cx.length = cs.length := by rw [hct.len, List.length_map]
      have lkn : kn.length = ks.length := by rw [← hkn]; unfold knOf; rw [List.length_map]
      refine for_it (walk_list (xs := cx)) (fun i σ H2 => ∃ (v4 v7 v8 v9 v10 : Option V) (zs : List Str), σ = [some (.ref ka), some (.ref ca), some (.ref xa), some (.ref p), v4, v5, some (.int ((kn.map V.str).length : Int)), v7, v8, v9, v10, none, none, none] ∧ H2 p = some (.lst ((kn ++ zs).map V.str)) ∧ Same H H2 ∧
          zs = (cnOf cs).take i ∧ colsErr kn [] cs = colsErr kn zs (cs.drop i))
        ⟨v4, none, none, none, none, [], rfl, (by rw [List.append_nil]; exact h1), s1, rfl, rfl⟩ (fun i σ H2 _ ⟨_, _, _, _, _, _, _, _, s2, _⟩ => .inl (.inl (s2 _ _ hca))) ?_ ?_
      · clear h1 s1 v4
        rintro i x σ Hz H1 hi ⟨v4, v7, v8, v9, v10, zs, rfl, h1, s1, ez, ek2⟩ ⟨rfl, hxi⟩
        obtain ⟨ys, hys, t, rfl, hto⟩ := RowsAt.get (hct.same s1) hxi
        obtain ⟨c, hci, rfl⟩ := map_get hys
        refine ⟨t, _, rfl, hto, rfl, _, _, rfl, _, _, rfl, _, _, rfl, _, _, rfl, rfl, ?_⟩
        obtain ⟨g1, g2, g3, g4⟩ := tc _ (List.mem_of_getElem? hci)
        have e1 := colsErr_step (kn := kn) (taken := zs) hci
        rw [ek2, e1] at q
        unfold colErr at q e1
        walk_at "ls"
        simp only [tNil, List.set]
        refine nerr_of (ts := kn ++ zs) (g1.same s1) (.inl (.inl (.inl h1))) ?_
        cases hn : nameErr (kn ++ zs) c.1 with
        | some b =>
          intro H2 t2 s2 ht2
          refine ⟨rfl, true, by simp, iteT ?_⟩
          walk_at "ls"
          simp only [tNil, List.set]
          refine nerr_of (ts := kn ++ zs) (g1.same (s1.trans s2)) (.inl (.inl (.inl (s2 _ _ h1)))) ?_
          rw [hn] at q ⊢
          intro H3 t3 s3 ht3
          exact q _ t3 ((s1.trans s2).trans s3) ht3
        | none =>
          rw [hn] at q e1
          simp only at q e1
          intro H2 s2
          refine ⟨rfl, false, by simp, iteF ?_⟩
          obtain ⟨n1, n2⟩ := nameErr_none hn
          have h2 := s2 _ _ h1
          have sH2 : Same H H2 := s1.trans s2
          walk_at "ls"
          refine ⟨(by show 2 ≤ sizeLine; decide), fun g hg => ?_⟩
          refine ⟨g, rfl, ⟨_, .inl (.inl upd_same)⟩, ?_⟩
          have npg : p ≠ g := ne_of_none h2 hg
          have s2g : Same H2 (upd H2 g (.lst [c.2.1, c.2.2.1])) := same_new hg
          refine for_it (walk_list (xs := [c.2.1, c.2.2.1])) (fun j σ H4 => ∃ v10 : Option V, σ = [some (.ref ka), some (.ref ca), some (.ref xa), some (.ref p), some c.1, v5, some (.int ((kn.map V.str).length : Int)), some c.2.1, some c.2.2.1, some c.2.2.2, v10, none, none, none] ∧
              Same (upd H2 g (.lst [c.2.1, c.2.2.1])) H4 ∧ (1 ≤ j → isWordV kn c.2.1 = true) ∧ (2 ≤ j → isWordV kn c.2.2.1 = true))
            ⟨v10, rfl, Same.refl _, fun z => absurd z (by decide), fun z => absurd z (by decide)⟩ (fun j σ H4 _ ⟨_, _, e, _⟩ => .inl (.inl (e _ _ upd_same))) ?_ ?_
          · rintro j y σ Hy H4 hj ⟨v10, rfl, e4, w1, w2⟩ ⟨rfl, hyj⟩
            have sH4 : Same H H4 := (sH2.trans s2g).trans e4
            have h4 : H4 p = some (.lst ((kn ++ zs).map V.str)) := e4 _ _ (s2g _ _ h2)
            have hyt : Thg K H y := by
              match j, hj, hyj with
              | 0, _, h => rw [← Option.some.inj h]; exact g2
              | 1, _, h => rw [← Option.some.inj h]; exact g3
            rcases hyt with ⟨z, rfl, hz⟩ | hyt
            · refine ⟨_, rfl, ?_⟩
              refine ⟨_, _, _, _, true, rfl, .ty "str", .base (.str z), kit_ty (by decide +kernel), _, rfl, ?_⟩
              walk_at "ls"
              refine ⟨p, _, rfl, .inl (.inl h4), fun D hD => ?_⟩
              have ecut : cutV ((kn ++ zs).map V.str) none (some ((kn.map V.str).length : Int)) = kn.map V.str := by rw [cut_take, List.map_append, List.take_left]
              rw [ecut]
              refine ⟨D, _, rfl, .inl (.inl (.inl upd_same)), rfl, all_flat kn, _, rfl, ?_⟩
              rw [in_strs]
              have s4D : Same H4 (upd H4 D (.lst (kn.map V.str))) := same_new hD
              cases hw : decide (z ∈ kn) with
              | true =>
                have hw2 : isWordV kn (V.str z) = true := hw
                refine iteF ⟨_, rfl, e4.trans s4D, fun _ => ?_, fun zz => ?_⟩
                · match j, hj, hyj with
                  | 0, _, h =>
                    have e := Option.some.inj h
                    change c.2.1 = V.str z at e
                    rw [e]
                    exact hw2
                  | 1, _, h => exact w1 (Nat.le_refl _)
                · match j, hj, hyj with
                  | 0, _, h => exact absurd zz (by decide)
                  | 1, _, h =>
                    have e := Option.some.inj h
                    change c.2.2.1 = V.str z at e
                    rw [e]
                    exact hw2
              | false =>
                have hw2 : isWordV kn (V.str z) = false := hw
                refine iteT ?_
                walk_at "ls"
                refine ⟨(by show 2 ≤ sizeLine; decide), fun t ht => ?_⟩
                have sF : Same H (upd (upd H4 D (.lst (kn.map V.str))) t (.tup [.str "UnknownKind", .str z])) := (sH4.trans s4D).trans (same_new ht)
                match j, hj, hyj with
                | 0, _, h =>
                  have e := Option.some.inj h
                  change c.2.1 = V.str z at e
                  rw [e, hw2, if_neg (by decide)] at q
                  exact q _ t sF upd_same
                | 1, _, h =>
                  have e := Option.some.inj h
                  change c.2.2.1 = V.str z at e
                  rw [w1 (Nat.le_refl _), if_pos rfl, e, hw2, if_neg (by decide)] at q
                  exact q _ t sF upd_same
            · have hyN := hyt.same sH4
              obtain ⟨ty, hty, kty⟩ := hyN.1
              have hw2 := notS_word (ts := kn) hyt
              refine ⟨_, rfl, ?_⟩
              refine ⟨_, _, _, _, false, rfl, .ty "str", hty, kty, _, rfl, ?_⟩
              refine iteT (iteT ?_)
              walk_at "ls"
              refine ⟨(by show 2 ≤ sizeLine; decide), fun t ht => ?_⟩
              have sF : Same H (upd H4 t (.tup [.str "UnknownKind", y])) := sH4.trans (same_new ht)
              match j, hj, hyj with
              | 0, _, h =>
                have e := Option.some.inj h
                change c.2.1 = y at e
                rw [e, hw2, if_neg (by decide)] at q
                exact q _ t sF upd_same
              | 1, _, h =>
                have e := Option.some.inj h
                change c.2.2.1 = y at e
                rw [w1 (Nat.le_refl _), if_pos rfl, e, hw2, if_neg (by decide)] at q
                exact q _ t sF upd_same
          · rintro σ H4 ⟨v10, rfl, e4, w1, w2⟩
            have ww1 := w1 (by show 1 ≤ 2; decide)
            have ww2 := w2 (Nat.le_refl _)
            rw [ww1, ww2, if_pos rfl, if_pos rfl] at q e1
            have sH4 : Same H H4 := (sH2.trans s2g).trans e4
            have h4 : H4 p = some (.lst ((kn ++ zs).map V.str)) := e4 _ _ (s2g _ _ h2)
            have lz : ((kn ++ zs).map V.str).length < sizeLine := by
              have lcn : (cnOf cs).length = cs.length := by unfold cnOf; rw [List.length_map]
              rw [List.length_map, List.length_append, ez, List.length_take]
              exact Nat.lt_of_le_of_lt (show _ ≤ 2000 by omega) (show 2000 < sizeLine by decide)
            have fin : ∀ H5, Same H4 H5 → isWordV ruleW c.2.2.2 = true → ∃ (v4 v7 v8 v9 v10' : Option V) (zs' : List Str), [some (.ref ka), some (.ref ca), some (.ref xa), some (.ref p), some c.1, v5, some (.int ((kn.map V.str).length : Int)), some c.2.1, some c.2.2.1, some c.2.2.2, v10, none, none, none] = [some (.ref ka), some (.ref ca), some (.ref xa), some (.ref p), v4, v5, some (.int ((kn.map V.str).length : Int)), v7, v8, v9, v10', none, none, none] ∧
                (upd H5 p (.lst ((kn ++ zs).map V.str ++ [c.1]))) p = some (.lst ((kn ++ zs').map V.str)) ∧ Same H (upd H5 p (.lst ((kn ++ zs).map V.str ++ [c.1]))) ∧ zs' = (cnOf cs).take (i + 1) ∧ colsErr kn [] cs = colsErr kn zs' (cs.drop (i + 1)) := by
              intro H5 s5 hr5
              refine ⟨_, _, _, _, _, zs ++ [strOf c.1], rfl, ?_, Same.set (sH4.trans s5) hp, ?_, ?_⟩
              · rw [upd_same]
                conv => lhs; rw [name_str n1]
                rw [← List.append_assoc, List.map_append (l₂ := [strOf c.1])]
                rfl
              · have ekk : (cnOf cs)[i]? = some (strOf c.1) := by unfold cnOf; rw [List.getElem?_map, hci]; rfl
                rw [List.take_add_one, ekk, ez]
                rfl
              · rw [ek2, e1, hr5, if_pos rfl]
            have bad : isWordV ruleW c.2.2.2 = false → ∀ H5 t, Same H H5 → H5 t = some (.tup [.str "BadRule", c.2.2.2]) → Q (.ref t) H5 := by
              intro hr5
              rw [hr5, if_neg (by decide)] at q
              exact q
            walk_at "ls"
            rcases g4 with ⟨z, er, hz⟩ | g4
            · rw [er]
              rw [er] at fin bad
              refine ⟨_, _, _, _, true, rfl, .ty "str", .base (.str z), kit_ty (by decide +kernel), _, rfl, ?_⟩
              walk_at "ls"
              refine ⟨(by show 2 ≤ sizeLine; decide), fun D hD => ?_⟩
              have s4D : Same H4 (upd H4 D (.lst [.str "fall", .str "clear"])) := same_new hD
              refine ⟨D, _, rfl, .inl (.inl (.inl upd_same)), rfl, all_flat ruleW, _, rfl, ?_⟩
              have eiv : inV (.str z) [V.str "fall", V.str "clear"] = decide (z ∈ ruleW) := in_strs z ruleW
              rw [eiv]
              cases hw : decide (z ∈ ruleW) with
              | true =>
                have hw2 : isWordV ruleW (V.str z) = true := hw
                refine iteF ?_
                walk_at "ls"
                refine ⟨_, _, _, rfl, rfl, s4D _ _ h4, lz, ?_⟩
                exact fin _ s4D hw2
              | false =>
                have hw2 : isWordV ruleW (V.str z) = false := hw
                refine iteT ?_
                walk_at "ls"
                refine ⟨(by show 2 ≤ sizeLine; decide), fun t ht => ?_⟩
                exact bad hw2 _ t ((sH4.trans s4D).trans (same_new ht)) upd_same
            · have g4' := g4.same sH4
              obtain ⟨ty, hty, kty⟩ := g4'.1
              refine ⟨_, _, _, _, false, rfl, .ty "str", hty, kty, _, rfl, ?_⟩
              refine iteT (iteT ?_)
              walk_at "ls"
              refine ⟨(by show 2 ≤ sizeLine; decide), fun t ht => ?_⟩
              exact bad (notS_word g4) _ t (sH4.trans (same_new ht)) upd_same
      · clear h1 s1 v4
        rintro σ H2 ⟨v4, v7, v8, v9, v10, zs, rfl, h2, s2, ez, ek2⟩
        rw [lcx, List.drop_length] at ek2
        rw [ek2] at q
        simp only [colsErr] at q
        obtain ⟨ecn, gcn⟩ := cols_good ek2
        refine at_heap (φ := fun H2 => Same H H2) s2 ?_
        clear h2 s2 H2
        intro H2 s2 b hb
        walk_at "ls"
        refine ⟨upd_same, [(.inr "kinds", .ref ka), (.inr "columns", .ref ca)], rfl, (by show 2 ≤ 15; decide), ?_⟩
        refine at_heap (φ := fun H3 => Same H H3 ∧ H3 b = some (.dK [(.inr "kinds", .ref ka), (.inr "columns", .ref ca)])) ⟨?_, upd_same⟩ ?_
        · rw [upd_upd]
          exact s2.trans (same_new hb)
        rintro H3 ⟨s3, h3b⟩
        refine ⟨b, ka, ca, kx, cx, ks, cs, rfl, h3b, s3 _ _ hka, hkt.same s3, s3 _ _ hca, hct.same s3, (by rw [hkn]; exact hkg.1), ecn, lk, lc, (fun z hz => name_len (hkg.2 z (by rw [← hkn]; exact hz))), (fun z hz => name_len (gcn z hz)), fun H4 m hm0 h4m s4 => ?_⟩
        rw [hkn] at h4m
        have lmn : (menuU kn (cnOf cs)).length ≤ 10000 := by
          rw [menuU_len]
          have : (cnOf cs).length = cs.length := by unfold cnOf; rw [List.length_map]
          omega
        generalize menuU kn (cnOf cs) = mn at *
        have sH4 : Same H H4 := s3.trans s4
        walk_at "ls"
        have lz : ck.length < sizeLine := Nat.lt_of_le_of_lt lx (show 1000 < sizeLine by decide)
        refine ⟨⟨_, .inl (.inl (sH4 _ _ hxa))⟩, fun D hD => ?_⟩
        have nxD : xa ≠ D := ne_of_none (sH4 _ _ hxa) hD
        have nmD : m ≠ D := ne_of_none h4m hD
        refine lc_pure (walk_list (xs := ck)) ck (wrongF mn) rfl (fun i H x H' hi hy => hy) lz (fun acc => .inl (.inl (by rw [upd_ne nxD]; exact sH4 _ _ hxa))) (fun j y hj hyj => ?_) ?_
        · refine ⟨rfl, ?_⟩
          have gy := tx y (List.mem_of_getElem? hyj)
          have e : ∀ acc : List V, Same H (upd H4 D (.lst acc)) := fun acc => sH4.trans (same_new hD)
          rcases gy with ⟨z, rfl, hz⟩ | gy
          · refine or2 false (!decide (z ∈ mn)) (fun Q' q' => ?_) (fun _ Q' q' => ?_) ?_
            · refine ⟨_, rfl, ?_⟩
              exact ⟨_, _, _, _, true, rfl, .ty "str", .base (.str z), kit_ty (by decide +kernel), _, rfl, q'⟩
            · walk_at "ls"
              refine ⟨m, _, rfl, .inl (.inl (.inl (by rw [upd_ne nmD]; exact h4m))), rfl, all_flat mn, _, rfl, ?_⟩
              rw [in_strs]
              exact q'
            refine ite2 (fun e => ?_) (fun e => ?_)
            · walk_at "ls"
              exact lc_yes hyj hj lz (by unfold wrongF; rw [if_neg (by show ¬ decide (z ∈ mn) = true; simpa using e)])
            · exact lc_no hyj (by unfold wrongF; rw [if_pos (by show decide (z ∈ mn) = true; simpa using e)])
          · obtain ⟨ty, hty, kty⟩ := (gy.same (e _)).1
            refine or2 true false (fun Q' q' => ?_) (fun z => nomatch z) ?_
            · refine ⟨_, rfl, ?_⟩
              exact ⟨_, _, _, _, false, rfl, .ty "str", hty, kty, _, rfl, q'⟩
            refine iteT ?_
            walk_at "ls"
            exact lc_yes hyj hj lz (by unfold wrongF; rw [notS_word gy]; rfl)
        · rw [wrong_all]
          have ef : checksErr mn ck = (ck.filter fun v => !isWordV mn v).head? := find_filter _ _
          rw [ef] at q
          have hcmp : ∀ v ∈ ck.filter (fun v => !isWordV mn v), Cmp K H v := fun v hv => dx v ((List.mem_filter.mp hv).1)
          have lzw : (ck.filter fun v => !isWordV mn v).length ≤ 1000 := Nat.le_trans (List.length_filter_le _ _) lx
          generalize (ck.filter fun v => !isWordV mn v) = ws at *
          have sW : Same H (upd H4 D (.lst ws)) := sH4.trans (same_new hD)
          walk_at "ls"
          refine ⟨Nat.zero_le _, fun e he => ?_⟩
          have sWe : Same H (upd (upd H4 D (.lst ws)) e (.lst [])) := sW.trans (same_new he)
          have nDe : D ≠ e := ne_of_none upd_same he
          have hWD : (upd (upd H4 D (.lst ws)) e (.lst [])) D = some (.lst ws) := by rw [upd_ne nDe, upd_same]
          obtain ⟨ds, da, df, dl⟩ := cmp_all fun v hv => (hcmp v hv).same sWe
          refine ⟨.list ds, .list [], .lst (.inl (.inl hWD)) da, .lst (.inl (.inl upd_same)) .nil, shaped_list df, by decide +kernel, _, rfl, ?_⟩
          cases ws with
          | nil =>
            have e0 : ds = [] := List.eq_nil_of_length_eq_zero (by rw [dl]; rfl)
            subst e0
            have ev : PyData.eqv (.list []) (.list []) = true := by simp [PyData.eqv, PyData.eqvAll]
            rw [ev]
            exact iteF (q _ sWe)
          | cons v r =>
            have ev : PyData.eqv (.list ds) (.list []) = false := by
              cases ds with
              | nil => cases dl
              | cons a b => simp [PyData.eqv, PyData.eqvAll]
            rw [ev]
            refine iteT ?_
            walk_at "ls"
            refine ⟨D, v :: r, 0, v, rfl, rfl, .inl (.inl hWD), (show atI (v :: r) ((0 : Nat) : Int) = some v from atI_nat rfl), ?_⟩
            refine ⟨(by show 2 ≤ sizeLine; decide), fun t ht => ?_⟩
            exact q _ t (sWe.trans (same_new ht)) upd_same
end
end Ls
namespace Ls
open PySem PySem.Spec PyProof.Rows L2
/-! ### short steps -/
local macro_rules | `(tactic| walk_at "ls_ne") => `(tactic| first | assumption | exact Ne.symm (by assumption) | exact ne_of_none (by assumption) (by assumption) | exact Ne.symm (ne_of_none (by assumption) (by assumption)))
local macro_rules | `(tactic| walk_at "ls_hp") => `(tactic| first
  | with_reducible assumption
  | exact upd_same
  | exact Eq.trans (upd_ne (by walk_at "ls_ne")) (by walk_at "ls_hp"))
local macro_rules | `(tactic| walk_at "ls_st") => `(tactic| first
  | with_reducible assumption
  | exact Stm.upd (by walk_at "ls_st") (by first | walk_at "ls_ne" | exact (Stm.noneS (by assumption) (by assumption)).1) (by first | walk_at "ls_ne" | exact (Stm.noneS (by assumption) (by assumption)).2))
local macro_rules | `(tactic| walk_at "ls1") => `(tactic| first
  | refine ⟨_, rfl, ?_⟩
  | refine ⟨_, _, rfl, rfl, ?_⟩
  | refine ⟨_, _, _, _, rfl, rfl, .inl (.inl (by walk_at "ls_hp")), rfl, ?_⟩
  | refine ⟨_, _, _, _, rfl, rfl, (by walk_at "ls_hp"), rfl, ?_⟩
  | refine ⟨rfl, _, rfl, ?_⟩
  | refine ⟨.inl ⟨rfl, _, .inl (.inl (by walk_at "ls_hp"))⟩, ?_⟩)
local macro_rules | `(tactic| walk_at "ls") => `(tactic| repeat (walk_at "ls1"))

/-- the five error classes, apart -/
structure Exm (K : PySem.W.Frag) (A : ErrA) : Prop where
  all : ∀ a ∈ [A.name, A.used, A.kind, A.rule, A.check], ∀ b ∈ [A.name, A.used, A.kind, A.rule, A.check], PySem.W.exmOne K (.ref a) (.ref b) = some (decide (a = b))
  nd : [A.name, A.used, A.kind, A.rule, A.check].Nodup
section
variable {P : Program} {w : World} {K : PySem.W.Frag} {mg : Str → Option Value} {base : Heap}
/-! ### _law_end -/
abbrev s__law_end : Stmt := topS 43
theorem sc__law_end : FnScope ["_law_kinds", "_law_columns", "_law_checks", "_law_book", "_law_found", "e"] ["_law_kinds", "_law_columns", "_law_checks"] (defScope s__law_end) := ⟨rfl, rfl, rfl, by decide +kernel, rfl, by decide +kernel, by decide +kernel⟩
abbrev N__law_end : List Str := ["_law_kinds", "_law_columns", "_law_checks", "_law_book", "_law_found", "e"]
def spEnd (K : PySem.W.Frag) : Sp := fun vs H Q _ => ∃ (ka ca xa : Addr) (kx cx ck : List V) (ks : List (V × V)) (cs : List Col), vs = [.ref ka, .ref ca, .ref xa] ∧ H ka = some (.lst kx) ∧ RowsAt K H kx (ks.map fun k => [k.1, k.2]) ∧ H ca = some (.lst cx) ∧ RowsAt K H cx (cs.map colU) ∧ H xa = some (.lst ck) ∧
  (∀ k ∈ ks, Thg K H k.1) ∧ (∀ c ∈ cs, Thg K H c.1 ∧ Thg K H c.2.1 ∧ Thg K H c.2.2.1 ∧ Thg K H c.2.2.2) ∧ (∀ v ∈ ck, Thg K H v) ∧ ks.length ≤ 1000 ∧ cs.length ≤ 1000 ∧ ck.length ≤ 1000 ∧
  match bookErr ks cs ck with
  | some e => ∀ H' t, Same H H' → H' t = some (.tup [.str e.word, e.val]) → Q (.ref t) H'
  | none => ∀ H' t a b kx' cx', Same H H' → H' t = some (.tup [.str "made", .ref a, .ref b]) → H' a = some (.lst kx') → TupsAt H' kx' (ks.map fun k => [k.1, k.2]) → H' b = some (.lst cx') → TupsAt H' cx' (cs.map colU) → Q (.ref t) H'
theorem ok_end {f : Addr} {fd : FuncData} {C C_BadName C_NameInUse C_UnknownKind C_BadRule C_UnknownCheck : Addr} (F : Fun K "_law_end" "_law_end" s__law_end f fd) (T : Bt mg) (X : Exm K ⟨C_BadName, C_NameInUse, C_UnknownKind, C_BadRule, C_UnknownCheck⟩)
    (O_Book : OwnCR P w K mg base 5 C "Book" ["self", "kinds", "columns", "checks"] (spInit K C ⟨C_BadName, C_NameInUse, C_UnknownKind, C_BadRule, C_UnknownCheck⟩))
    (O_Book_kinds : OwnM P w K mg base CX0 1 C "kinds" ["self"] (spKinds C)) (O_Book_columns : OwnM P w K mg base CX0 1 C "columns" ["self"] (spColumns C))
    (O_BadName : OwnX P w K mg base "BadName" ["name"] (spI1 C_BadName "name") C_BadName) (O_NameInUse : OwnX P w K mg base "NameInUse" ["name"] (spI1 C_NameInUse "name") C_NameInUse) (O_UnknownKind : OwnX P w K mg base "UnknownKind" ["kind"] (spI1 C_UnknownKind "kind") C_UnknownKind)
    (O_BadRule : OwnX P w K mg base "BadRule" ["rule"] (spI1 C_BadRule "rule") C_BadRule) (O_UnknownCheck : OwnX P w K mg base "UnknownCheck" ["check"] (spI1 C_UnknownCheck "check") C_UnknownCheck) :
    FnOk P w K mg base CX0 7 f fd ["_law_kinds", "_law_columns", "_law_checks"] (spEnd K) := by
  refine F.ok sc__law_end (fun vs H Q E h => ?_) (fun cdv A outer s H vs Q E hr h => ?_)
  · obtain ⟨ka, ca, xa, kx, cx, ck, ks, cs, rfl, _⟩ := h
    rfl
  · obtain ⟨ka, ca, xa, kx, cx, ck, ks, cs, rfl, hka, hkt, hca, hct, hxa, tk, tc, tx, lk, lc, lx, q⟩ := h
    have hu := hu_of hr
    refine ⟨_, (pss_cons (ps_try_asM rfl rfl sc__law_end.nd L2.takes0 (fun W pn xe tk po => (pss_cons (ps_set (i := 3) sc__law_end.nd rfl (Or.inl rfl) (own_makeR O_Book hr (by first | decide | omega) tk (pa_cons (pv 0) (pa_cons (pv 1) (pa_cons (pv 2) pa_nil)))))
      (pss_one (ps_set (i := 4) sc__law_end.nd rfl (Or.inl rfl) (pe_tup (pa_cons pe_str (pa_cons (own_meth0 O_Book_kinds hr (by first | decide | omega) (pv 3)) (pa_cons (own_meth0 O_Book_columns hr (by first | decide | omega) (pv 3)) pa_nil))))))))
        (.cons (q := ⟨.ref C_BadName, 5, _⟩) rfl rfl ⟨rfl, by decide, .inl O_BadName.gl⟩ (fun a oe cls d pn hz hf => (pss_one (ps_set (i := 4) sc__law_end.nd rfl (Or.inl rfl) (pe_tup (pa_cons pe_str (pa_cons (pe_xf O_BadName.xf (O_BadName.nof _ (.head _)) hz hf (pv 5)) pa_nil))))))
        (.cons (q := ⟨.ref C_NameInUse, 5, _⟩) rfl rfl ⟨rfl, by decide, .inl O_NameInUse.gl⟩ (fun a oe cls d pn hz hf => (pss_one (ps_set (i := 4) sc__law_end.nd rfl (Or.inl rfl) (pe_tup (pa_cons pe_str (pa_cons (pe_xf O_NameInUse.xf (O_NameInUse.nof _ (.head _)) hz hf (pv 5)) pa_nil))))))
        (.cons (q := ⟨.ref C_UnknownKind, 5, _⟩) rfl rfl ⟨rfl, by decide, .inl O_UnknownKind.gl⟩ (fun a oe cls d pn hz hf => (pss_one (ps_set (i := 4) sc__law_end.nd rfl (Or.inl rfl) (pe_tup (pa_cons pe_str (pa_cons (pe_xf O_UnknownKind.xf (O_UnknownKind.nof _ (.head _)) hz hf (pv 5)) pa_nil))))))
        (.cons (q := ⟨.ref C_BadRule, 5, _⟩) rfl rfl ⟨rfl, by decide, .inl O_BadRule.gl⟩ (fun a oe cls d pn hz hf => (pss_one (ps_set (i := 4) sc__law_end.nd rfl (Or.inl rfl) (pe_tup (pa_cons pe_str (pa_cons (pe_xf O_BadRule.xf (O_BadRule.nof _ (.head _)) hz hf (pv 5)) pa_nil))))))
        (.cons (q := ⟨.ref C_UnknownCheck, 5, _⟩) rfl rfl ⟨rfl, by decide, .inl O_UnknownCheck.gl⟩ (fun a oe cls d pn hz hf => (pss_one (ps_set (i := 4) sc__law_end.nd rfl (Or.inl rfl) (pe_tup (pa_cons pe_str (pa_cons (pe_xf O_UnknownCheck.xf (O_UnknownCheck.nof _ (.head _)) hz hf (pv 5)) pa_nil))))))
        .nil))))))
      (pss_one (ps_ret (pv 4)))), ?_⟩
    walk_at "ls"
    intro o dx ho hdx hne
    have s0 : Same H (upd (upd H dx (.own o)) o (.ins C dx [])) := (same_new hdx).trans (same_new (by rw [upd_ne (Ne.symm hne)]; exact ho))
    refine ⟨o, dx, ka, ca, xa, kx, cx, ck, ks, cs, rfl, upd_same, .inl (.inl (.inl (s0 _ _ hka))), hkt.same s0, .inl (.inl (.inl (s0 _ _ hca))), hct.same s0, .inl (.inl (.inl (s0 _ _ hxa))), fun k hk => (tk k hk).same s0,
      fun c hc => ⟨(tc c hc).1.same s0, (tc c hc).2.1.same s0, (tc c hc).2.2.1.same s0, (tc c hc).2.2.2.same s0⟩, fun v hv => (tx v hv).same s0, lk, lc, lx, ?_⟩
    have sB : ∀ {H2 : Hp}, But o (upd (upd H dx (.own o)) o (.ins C dx [])) H2 → Same H H2 := fun {H2} bt b u e => bt b u (ne_of_none e ho) (s0 _ _ e)
    cases hb : bookErr ks cs ck with
    | none =>
      rw [hb] at q
      intro H2 hB bt
      have s2 := sB bt
      refine ⟨rfl, ?_⟩
      obtain ⟨dx2, k2, c2, m2, x2, kx2, cx2, h1, h2, h3, h4, h5, h6, h7⟩ := id hB
      walk_at "ls"
      refine ⟨o, _, _, rfl, h1, bookF_no (by decide +kernel) (by decide +kernel) (by decide +kernel) (by decide +kernel), ?_⟩
      refine ⟨o, ks, cs, _, rfl, hB, fun l1 lx1 hl1 ht1 => ?_⟩
      have s3 : Same H2 (upd H2 l1 (.lst lx1)) := same_new hl1
      walk_at "ls"
      refine ⟨o, _, _, rfl, s3 _ _ h1, bookF_no (by decide +kernel) (by decide +kernel) (by decide +kernel) (by decide +kernel), ?_⟩
      refine ⟨o, ks, cs, _, rfl, hB.same s3, fun l2 lx2 hl2 ht2 => ?_⟩
      have s4 : Same (upd H2 l1 (.lst lx1)) (upd (upd H2 l1 (.lst lx1)) l2 (.lst lx2)) := same_new hl2
      have n12 : l1 ≠ l2 := ne_of_none upd_same hl2
      refine ⟨(by show 3 ≤ sizeLine; decide), fun t ht => ?_⟩
      have s5 : Same (upd (upd H2 l1 (.lst lx1)) l2 (.lst lx2)) (upd (upd (upd H2 l1 (.lst lx1)) l2 (.lst lx2)) t (.tup [.str "made", .ref l1, .ref l2])) := same_new ht
      walk_at "ls"
      exact q _ t l1 l2 lx1 lx2 (((s2.trans s3).trans s4).trans s5) upd_same (s5 _ _ (s4 _ _ upd_same)) (ht1.keep (.same ((s3.trans s4).trans s5))) (s5 _ _ upd_same) (ht2.keep (.same (s4.trans s5)))
    | some e =>
      rw [hb] at q
      intro H2 d bt hd
      have s2 := sB bt
      have yes : ∀ {a : Addr}, a ∈ [C_BadName, C_NameInUse, C_UnknownKind, C_BadRule, C_UnknownCheck] → PySem.W.exmOne K (.ref a) (.ref a) = some true := fun {a} h => by
        have z := X.all a h a h
        rw [decide_eq_true rfl] at z
        exact z
      have no : ∀ {a b : Addr}, a ∈ [C_BadName, C_NameInUse, C_UnknownKind, C_BadRule, C_UnknownCheck] → b ∈ [C_BadName, C_NameInUse, C_UnknownKind, C_BadRule, C_UnknownCheck] → a ≠ b → PySem.W.exmOne K (.ref a) (.ref b) = some false := fun {a b} h1 h2 h => by
        have z := X.all a h1 b h2
        rw [decide_eq_false h] at z
        exact z
      have m1 : C_BadName ∈ [C_BadName, C_NameInUse, C_UnknownKind, C_BadRule, C_UnknownCheck] := .head _
      have m2 : C_NameInUse ∈ [C_BadName, C_NameInUse, C_UnknownKind, C_BadRule, C_UnknownCheck] := .tail _ (.head _)
      have m3 : C_UnknownKind ∈ [C_BadName, C_NameInUse, C_UnknownKind, C_BadRule, C_UnknownCheck] := .tail _ (.tail _ (.head _))
      have m4 : C_BadRule ∈ [C_BadName, C_NameInUse, C_UnknownKind, C_BadRule, C_UnknownCheck] := .tail _ (.tail _ (.tail _ (.head _)))
      have m5 : C_UnknownCheck ∈ [C_BadName, C_NameInUse, C_UnknownKind, C_BadRule, C_UnknownCheck] := .tail _ (.tail _ (.tail _ (.tail _ (.head _))))
      have nd := X.nd
      simp only [List.nodup_cons, List.mem_cons, not_or, List.not_mem_nil, not_false_eq_true, and_true, List.nodup_nil] at nd
      obtain ⟨⟨n12, n13, n14, n15⟩, ⟨n23, n24, n25⟩, ⟨n34, n35⟩, n45⟩ := nd
      have fin : ∀ (f : Str) (v : V) (wd : Str) (H3 : Hp) (t : Addr), (∀ H' t', Same H H' → H' t' = some (.tup [.str wd, v]) → Q (.ref t') H') → H3 = upd H2 d (.xd [(f, v)]) → H3 t = none → Q (.ref t) (upd H3 t (.tup [.str wd, v])) := fun f v wd H3 t hq e3 ht => by
        subst e3
        exact hq _ t ((s2.trans (same_new hd)).trans (same_new ht)) upd_same
      cases e with
      | check v =>
        refine ⟨false, no m5 m1 (Ne.symm n15), (fun z => nomatch z), fun _ => ⟨false, no m5 m2 (Ne.symm n25), (fun z => nomatch z), fun _ => ⟨false, no m5 m3 (Ne.symm n35), (fun z => nomatch z), fun _ => ⟨false, no m5 m4 (Ne.symm n45), (fun z => nomatch z), fun _ => ⟨true, yes m5, fun _ a ha => ?_, (fun z => nomatch z)⟩⟩⟩⟩⟩
        walk_at "ls"
        refine ⟨rfl, rfl, d, _, v, rfl, upd_same, rfl, ?_⟩
        refine ⟨(by show 2 ≤ sizeLine; decide), fun t ht => ?_⟩
        walk_at "ls"
        exact fin _ _ _ _ t q rfl ht
      | col e =>
        cases e with
        | name b v =>
          cases b with
          | true =>
            refine ⟨false, no m2 m1 (Ne.symm n12), (fun z => nomatch z), fun _ => ⟨true, yes m2, fun _ a ha => ?_, (fun z => nomatch z)⟩⟩
            walk_at "ls"
            refine ⟨rfl, rfl, d, _, v, rfl, upd_same, rfl, ?_⟩
            refine ⟨(by show 2 ≤ sizeLine; decide), fun t ht => ?_⟩
            walk_at "ls"
            exact fin _ _ _ _ t q rfl ht
          | false =>
            refine ⟨true, yes m1, fun _ a ha => ?_, (fun z => nomatch z)⟩
            walk_at "ls"
            refine ⟨rfl, rfl, d, _, v, rfl, upd_same, rfl, ?_⟩
            refine ⟨(by show 2 ≤ sizeLine; decide), fun t ht => ?_⟩
            walk_at "ls"
            exact fin _ _ _ _ t q rfl ht
        | kind v =>
          refine ⟨false, no m3 m1 (Ne.symm n13), (fun z => nomatch z), fun _ => ⟨false, no m3 m2 (Ne.symm n23), (fun z => nomatch z), fun _ => ⟨true, yes m3, fun _ a ha => ?_, (fun z => nomatch z)⟩⟩⟩
          walk_at "ls"
          refine ⟨rfl, rfl, d, _, v, rfl, upd_same, rfl, ?_⟩
          refine ⟨(by show 2 ≤ sizeLine; decide), fun t ht => ?_⟩
          walk_at "ls"
          exact fin _ _ _ _ t q rfl ht
        | rule v =>
          refine ⟨false, no m4 m1 (Ne.symm n14), (fun z => nomatch z), fun _ => ⟨false, no m4 m2 (Ne.symm n24), (fun z => nomatch z), fun _ => ⟨false, no m4 m3 (Ne.symm n34), (fun z => nomatch z), fun _ => ⟨true, yes m4, fun _ a ha => ?_, (fun z => nomatch z)⟩⟩⟩⟩
          walk_at "ls"
          refine ⟨rfl, rfl, d, _, v, rfl, upd_same, rfl, ?_⟩
          refine ⟨(by show 2 ≤ sizeLine; decide), fun t ht => ?_⟩
          walk_at "ls"
          exact fin _ _ _ _ t q rfl ht
end
end Ls
namespace Ls
open PySem PySem.Spec PyProof.Rows L2
/-! ### short steps -/
local macro_rules | `(tactic| walk_at "ls_ne") => `(tactic| first | assumption | exact Ne.symm (by assumption) | exact ne_of_none (by assumption) (by assumption) | exact Ne.symm (ne_of_none (by assumption) (by assumption)))
local macro_rules | `(tactic| walk_at "ls_hp") => `(tactic| first
  | with_reducible assumption
  | exact upd_same
  | exact Eq.trans (upd_ne (by walk_at "ls_ne")) (by walk_at "ls_hp"))
local macro_rules | `(tactic| walk_at "ls_st") => `(tactic| first
  | with_reducible assumption
  | exact Stm.upd (by walk_at "ls_st") (by first | walk_at "ls_ne" | exact (Stm.noneS (by assumption) (by assumption)).1) (by first | walk_at "ls_ne" | exact (Stm.noneS (by assumption) (by assumption)).2))
local macro_rules | `(tactic| walk_at "ls1") => `(tactic| first
  | refine ⟨_, rfl, ?_⟩
  | refine ⟨_, _, rfl, rfl, ?_⟩
  | refine ⟨_, _, _, _, rfl, rfl, .inl (.inl (by walk_at "ls_hp")), rfl, ?_⟩
  | refine ⟨_, _, _, _, rfl, rfl, (by walk_at "ls_hp"), rfl, ?_⟩
  | refine ⟨rfl, _, rfl, ?_⟩
  | refine ⟨.inl ⟨rfl, _, .inl (.inl (by walk_at "ls_hp"))⟩, ?_⟩)
local macro_rules | `(tactic| walk_at "ls") => `(tactic| repeat (walk_at "ls1"))

section
variable {P : Program} {w : World} {K : PySem.W.Frag} {mg : Str → Option Value} {base : Heap}
/-! ### _law_rules -/
abbrev s__law_rules : Stmt := topS 37
theorem sc__law_rules : FnScope ["_law_stream", "_law_many", "_law_most"] ["_law_stream", "_law_many", "_law_most"] (defScope s__law_rules) := ⟨rfl, rfl, rfl, by decide +kernel, rfl, by decide +kernel, by decide +kernel⟩
abbrev N__law_rules : List Str := ["_law_stream", "_law_many", "_law_most"]
def spRules : Sp := fun vs H Q _ => ∃ (S L : Addr) (n m c : Nat), vs = [.ref S, .int (m : Int), .int (c : Int)] ∧ Stm H S L n ∧ n ≤ 9900000 ∧ 0 < m ∧ m ≤ 3 ∧ 0 < c ∧ c ≤ 8 ∧
  ∀ (H' : Hp) (b : Addr) (B : Shp) (ck : List Str), B.Ok → B.ks.length ≤ m → B.cs.length ≤ c → H b = none → ck.Sublist (menu B) → ShpAt S L H' b B ck → Stm H' S L (n + 300) → Old S L H H' → Q (.ref b) H'
theorem ok_rules {f : Addr} {fd : FuncData} (F : Fun K "_law_rules" "_law_rules" s__law_rules f fd) (T : Bt mg) (O__law_draw : Own P w K mg base CX0 1 "_law_draw" ["_law_stream", "_law_many"] spDraw)
    (O__law_shape : Own P w K mg base CX0 4 "_law_shape" ["_law_stream", "_law_many", "_law_most"] spShape) (O__law_checked : Own P w K mg base CX0 2 "_law_checked" ["_law_stream", "_law_b"] spChecked) : FnOk P w K mg base CX0 5 f fd ["_law_stream", "_law_many", "_law_most"] spRules := by
  refine F.ok sc__law_rules (fun vs H Q E h => ?_) (fun cdv A outer s H vs Q E hr h => ?_)
  · obtain ⟨S, L, n, m, c, rfl, _⟩ := h
    rfl
  · obtain ⟨S, L, n, m, c, rfl, st, hn, hm0, hm3, hc0, hc8, q⟩ := h
    have hu := hu_of hr
    refine ⟨_, (pss_one (ps_ret (own_call O__law_checked hr (by first | decide | omega) (pa_cons (pv 0) (pa_cons (own_call O__law_shape hr (by first | decide | omega) (pa_cons (pv 0) (pa_cons (pe_op op_add pe_int (own_call O__law_draw hr (by first | decide | omega) (pa_cons (pv 0) (pa_cons (pv 1) pa_nil)))) (pa_cons (pv 2) pa_nil)))) pa_nil))))), ?_⟩
    walk_at "ls"
    refine ⟨S, L, n, (m : Int), rfl, st, by omega, by omega, by omega, fun H1 r r0 r1 st1 od1 => ?_⟩
    refine ⟨_, _, rfl, rfl, ?_⟩
    have er : (1 : Int) + r = ((1 + r.toNat : Nat) : Int) := by omega
    walk_at "ls"
    refine ⟨S, L, n + 1, 1 + r.toNat, c, (by show [V.ref S, V.int (1 + r), V.int (c : Int)] = _; rw [er]), st1, by omega, by omega, by omega, hc0, hc8, fun H2 b B hB hBk hBc hb2 hsh st2 od2 => ?_⟩
    refine ⟨S, L, b, _, B, [], rfl, st2, by omega, hsh, hB, fun H3 p ck' hp hck hsh3 st3 od3 => ?_⟩
    exact q _ p B ck' hB (by omega) hBc ((od1.trans od2).none hp (st2.noneS hp)) hck hsh3 (st3.mono (by omega)) ((od1.trans od2).trans od3)
end
end Ls
namespace Ls
open PySem PySem.Spec PyProof.Rows L2
/-! ### short steps -/
local macro_rules | `(tactic| walk_at "ls_ne") => `(tactic| first | assumption | exact Ne.symm (by assumption) | exact ne_of_none (by assumption) (by assumption) | exact Ne.symm (ne_of_none (by assumption) (by assumption)))
local macro_rules | `(tactic| walk_at "ls_hp") => `(tactic| first
  | with_reducible assumption
  | exact upd_same
  | exact Eq.trans (upd_ne (by walk_at "ls_ne")) (by walk_at "ls_hp"))
local macro_rules | `(tactic| walk_at "ls_st") => `(tactic| first
  | with_reducible assumption
  | exact Stm.upd (by walk_at "ls_st") (by first | walk_at "ls_ne" | exact (Stm.noneS (by assumption) (by assumption)).1) (by first | walk_at "ls_ne" | exact (Stm.noneS (by assumption) (by assumption)).2))
local macro_rules | `(tactic| walk_at "ls1") => `(tactic| first
  | refine ⟨_, rfl, ?_⟩
  | refine ⟨_, _, rfl, rfl, ?_⟩
  | refine ⟨_, _, _, _, rfl, rfl, .inl (.inl (by walk_at "ls_hp")), rfl, ?_⟩
  | refine ⟨_, _, _, _, rfl, rfl, (by walk_at "ls_hp"), rfl, ?_⟩
  | refine ⟨rfl, _, rfl, ?_⟩
  | refine ⟨.inl ⟨rfl, _, .inl (.inl (by walk_at "ls_hp"))⟩, ?_⟩)
local macro_rules | `(tactic| walk_at "ls") => `(tactic| repeat (walk_at "ls1"))

section
variable {P : Program} {w : World} {K : PySem.W.Frag} {mg : Str → Option Value} {base : Heap}
/-! ### _law_same -/
abbrev s__law_same : Stmt := topS 31
theorem sc__law_same : FnScope ["_law_found", "_law_due_here"] ["_law_found", "_law_due_here"] (defScope s__law_same) := ⟨rfl, rfl, rfl, by decide +kernel, rfl, by decide +kernel, by decide +kernel⟩
abbrev N__law_same : List Str := ["_law_found", "_law_due_here"]
def spSame (K : PySem.W.Frag) : Sp := fun vs H Q _ => ∃ (a b : Addr) (d : PyData), vs = [.ref a, .ref b] ∧ DpX K H (.ref a) d ∧ DpX K H (.ref b) d ∧ (d.showable = true ∧ d.depth ≤ 60 ∧ d.shown.length ≤ sizeLine) ∧ Q (.bl true) H
theorem ok_same {f : Addr} {fd : FuncData} (F : Fun K "_law_same" "_law_same" s__law_same f fd) (T : Bt mg) : FnG P w K mg base CX0 1 f fd ["_law_found", "_law_due_here"] (spSame K) := by
  refine fun_okG F sc__law_same (fun vs H Q E h => ?_) (fun cdv A outer s H vs Q E hgd hr h => ?_)
  · obtain ⟨a, b, d, rfl, _⟩ := h
    rfl
  · obtain ⟨a, b, d, rfl, ha, hb, ⟨h1, h3, h4⟩, q⟩ := h
    have hu := hu_of hr
    refine ⟨_, (pss_one (ps_ret (pe_cmpR op_eq (pe_callB (call_repr_dataX hgd hr) (by rfl) T.m_repr (by decide +kernel) (pa_cons (pv 0) pa_nil)) (pe_callB (call_repr_dataX hgd hr) (by rfl) T.m_repr (by decide +kernel) (pa_cons (pv 1) pa_nil)) (nomark _)))), ?_⟩
    walk_at "ls"
    refine ⟨a, d, rfl, ha, h1, h3, h4, ?_⟩
    walk_at "ls"
    refine ⟨b, d, rfl, hb, h1, h3, h4, ?_⟩
    refine ⟨rfl, ?_⟩
    rw [decide_eq_true rfl]
    exact q
end
end Ls
namespace Ls
open PySem PySem.Spec PyProof.Rows L2
/-! ### names and checks are short -/
theorem nm_ok {z : Str} (h : Nm z) : okB 8 z = true := okB_of h.1.2.1 fun c hc => by
  have := (h.1.2.2 c hc).2
  omega
theorem nm_ok100 {z : Str} (h : Nm z) : okB 100 z = true := okB_mono (nm_ok h) (by decide)
theorem with_ok {ws : List Str} {z : Str} (hw : ∀ a ∈ ws, okB 5 a = true) (hz : Nm z) : ∀ x ∈ withN ws z, okB 14 x = true := fun x hx => by
  obtain ⟨a, ha, rfl⟩ := List.mem_map.mp hx
  exact okB_append (okB_append (hw a ha) (show okB 1 " " = true by decide +kernel)) (nm_ok hz)
theorem menu_ok {B : Shp} (hB : B.Ok) : ∀ z ∈ menu B, okB 14 z = true := fun z hz => by
  unfold menu at hz
  rcases List.mem_append.mp hz with hz | hz
  · rcases List.mem_append.mp hz with hz | hz
    · obtain ⟨c, hc, h⟩ := List.mem_flatMap.mp hz
      exact with_ok (show ∀ a ∈ colW, okB 5 a = true by decide +kernel) (hB.nm _ (List.mem_append_right _ (List.mem_map_of_mem hc))) z h
    · obtain ⟨c, hc, h⟩ := List.mem_flatMap.mp hz
      exact with_ok (show ∀ a ∈ kindW, okB 5 a = true by decide +kernel) (hB.nm _ (List.mem_append_left _ (List.mem_map_of_mem hc))) z h
  · exact (show ∀ z ∈ bookW, okB 14 z = true by decide +kernel) z hz
theorem menu_small {B : Shp} (hB : B.Ok) : (menu B).length ≤ 51 := by
  have h2 := menu_len B
  have h3 := hB.nc
  have h4 := hB.nk3
  omega
theorem menu_pos (B : Shp) : 0 < (menu B).length := by
  have h2 := menu_len B
  omega
end Ls
namespace Ls
open PySem PySem.Spec PyProof.Rows L2
/-! ### short steps -/
local macro_rules | `(tactic| walk_at "ls_ne") => `(tactic| first | assumption | exact Ne.symm (by assumption) | exact ne_of_none (by assumption) (by assumption) | exact Ne.symm (ne_of_none (by assumption) (by assumption)))
local macro_rules | `(tactic| walk_at "ls_hp") => `(tactic| first
  | with_reducible assumption
  | exact upd_same
  | exact Eq.trans (upd_ne (by walk_at "ls_ne")) (by walk_at "ls_hp"))
local macro_rules | `(tactic| walk_at "ls_st") => `(tactic| first
  | with_reducible assumption
  | exact Stm.upd (by walk_at "ls_st") (by first | walk_at "ls_ne" | exact (Stm.noneS (by assumption) (by assumption)).1) (by first | walk_at "ls_ne" | exact (Stm.noneS (by assumption) (by assumption)).2))
local macro_rules | `(tactic| walk_at "ls1") => `(tactic| first
  | refine ⟨_, rfl, ?_⟩
  | refine ⟨_, _, rfl, rfl, ?_⟩
  | refine ⟨_, _, _, _, rfl, rfl, .inl (.inl (by walk_at "ls_hp")), rfl, ?_⟩
  | refine ⟨_, _, _, _, rfl, rfl, (by walk_at "ls_hp"), rfl, ?_⟩
  | refine ⟨rfl, _, rfl, ?_⟩
  | refine ⟨.inl ⟨rfl, _, .inl (.inl (by walk_at "ls_hp"))⟩, ?_⟩)
local macro_rules | `(tactic| walk_at "ls") => `(tactic| repeat (walk_at "ls1"))

/-- what an odd name may be -/
inductive OddV (H : Hp) : V → Prop
  | str (z : Str) (h : okB 100 z = true) : OddV H (.str z)
  | int (i : Int) (h : i.natAbs ≤ 100) : OddV H (.int i)
  | non : OddV H .non
  | bl (b : Bool) : OddV H (.bl b)
  | tup (t : Addr) (z : Str) (h : okB 100 z = true) (e : H t = some (.tup [.str z])) : OddV H (.ref t)
  | lst (t : Addr) (z : Str) (h : okB 100 z = true) (e : H t = some (.lst [.str z])) : OddV H (.ref t)
  | dct (t : Addr) (e : H t = some (.dK [])) : OddV H (.ref t)
theorem OddV.thg {K : PySem.W.Frag} {H : Hp} {v : V} (h : OddV H v) : Thg K H v := by
  cases h with
  | str z h => exact .inl ⟨z, rfl, Nat.le_trans (okB_len h) (by decide)⟩
  | int i => exact .inr ⟨⟨_, .base (.int i), kit_ty (by decide +kernel)⟩, fun z e => nomatch e⟩
  | non => exact .inr ⟨⟨_, .base .non, kit_ty (by decide +kernel)⟩, fun z e => nomatch e⟩
  | bl b => exact .inr ⟨⟨_, .base (.bl b), kit_ty (by decide +kernel)⟩, fun z e => nomatch e⟩
  | tup t z h e => exact .inr ⟨⟨_, .base (.tup e), kit_ty (by decide +kernel)⟩, fun z e => nomatch e⟩
  | lst t z h e => exact .inr ⟨⟨_, .base (.lst e), kit_ty (by decide +kernel)⟩, fun z e => nomatch e⟩
  | dct t e => exact .inr ⟨⟨_, .base (.dK e), kit_ty (by decide +kernel)⟩, fun z e => nomatch e⟩
section
variable {P : Program} {w : World} {K : PySem.W.Frag} {mg : Str → Option Value} {base : Heap}
/-! ### _law_odd_name -/
abbrev s__law_odd_name : Stmt := topS 38
theorem sc__law_odd_name : FnScope ["_law_stream"] ["_law_stream"] (defScope s__law_odd_name) := ⟨rfl, rfl, rfl, by decide +kernel, rfl, by decide +kernel, by decide +kernel⟩
abbrev N__law_odd_name : List Str := ["_law_stream"]
def spOdd : Sp := fun vs H Q _ => ∃ (S L : Addr) (n : Nat), vs = [.ref S] ∧ Stm H S L n ∧ n ≤ 9900000 ∧ ∀ (H' : Hp) (v : V), OddV H' v → Stm H' S L (n + 1) → Old S L H H' → Q v H'
theorem ok_odd {f : Addr} {fd : FuncData} (F : Fun K "_law_odd_name" "_law_odd_name" s__law_odd_name f fd) (T : Bt mg) (O__law_pick : Own P w K mg base CX0 2 "_law_pick" ["_law_stream", "_law_things"] (spPick K)) : FnOk P w K mg base CX0 3 f fd ["_law_stream"] spOdd := by
  refine F.ok sc__law_odd_name (fun vs H Q E h => ?_) (fun cdv A outer s H vs Q E hr h => ?_)
  · obtain ⟨S, L, n, rfl, _⟩ := h
    rfl
  · obtain ⟨S, L, n, rfl, st, hn, q⟩ := h
    have hu := hu_of hr
    refine ⟨_, (pss_one (ps_ret (own_call O__law_pick hr (by first | decide | omega) (pa_cons (pv 0) (pa_cons (pe_lst (pa_cons pe_str (pa_cons pe_str (pa_cons pe_str (pa_cons pe_str (pa_cons pe_str (pa_cons pe_str (pa_cons pe_int (pa_cons pe_non (pa_cons pe_bl (pa_cons (pe_tup (pa_cons pe_str pa_nil)) (pa_cons (pe_lst (pa_cons pe_str pa_nil)) (pa_cons pe_dnewK pa_nil))))))))))))) pa_nil))))), ?_⟩
    walk_at "ls"
    refine ⟨(by show 1 ≤ sizeLine; decide), fun t ht => ?_⟩
    refine ⟨(by show 1 ≤ sizeLine; decide), fun l hl => ?_⟩
    intro d hd
    refine ⟨(by show 12 ≤ sizeLine; decide), fun p hp => ?_⟩
    generalize eH1 : upd (upd (upd H t (.tup [.str "a"])) l (.lst [.str "a"])) d (.dK []) = H1 at *
    have s1 : Same H H1 := by rw [← eH1]; exact ((same_new ht).trans (same_new hl)).trans (same_new hd)
    have ntl : t ≠ l := ne_of_none upd_same hl
    have nld : l ≠ d := ne_of_none upd_same hd
    have ntd : t ≠ d := ne_of_none (by rw [upd_ne ntl]; exact upd_same) hd
    have ht1 : H1 t = some (.tup [.str "a"]) := by rw [← eH1, upd_ne ntd, upd_ne ntl]; exact upd_same
    have hl1 : H1 l = some (.lst [.str "a"]) := by rw [← eH1, upd_ne nld]; exact upd_same
    have hd1 : H1 d = some (.dK []) := by rw [← eH1]; exact upd_same
    have st1 := st.keep s1
    have np := st1.noneS hp
    have nt := st.noneS ht
    have nl : l ≠ S ∧ l ≠ L := (st.keep (same_new ht)).noneS hl
    have nd : d ≠ S ∧ d ≠ L := (st.keep ((same_new ht).trans (same_new hl))).noneS hd
    walk_at "ls"
    refine ⟨S, L, p, n, _, rfl, st1.upd np.1 np.2, by omega, .inl (.inl upd_same), np.1, np.2, (by show 0 < 12; decide), (by show 12 ≤ 1000000; decide), fun H2 v hv st2 od2 => ?_⟩
    have sp : Same H1 (upd H1 p (.lst [.str "", .str "A", .str "abcdefghi", .str "a b", .str "strike", .str "a1", .int 5, .non, .bl true, .ref t, .ref l, .ref d])) := same_new hp
    refine q H2 v ?_ st2 ((Old.same (s1.trans sp)).trans od2)
    have g : ∀ {b : Addr} {o : HO}, b ≠ S ∧ b ≠ L → H1 b = some o → H2 b = some o := fun {b o} n e => od2 b o n.1 n.2 (sp _ _ e)
    simp only [List.mem_cons, List.not_mem_nil, or_false] at hv
    rcases hv with rfl | rfl | rfl | rfl | rfl | rfl | rfl | rfl | rfl | rfl | rfl | rfl
    · exact .str _ (by decide +kernel)
    · exact .str _ (by decide +kernel)
    · exact .str _ (by decide +kernel)
    · exact .str _ (by decide +kernel)
    · exact .str _ (by decide +kernel)
    · exact .str _ (by decide +kernel)
    · exact .int _ (by decide)
    · exact .non
    · exact .bl _
    · exact .tup t "a" (by decide +kernel) (g nt ht1)
    · exact .lst l "a" (by decide +kernel) (g nl hl1)
    · exact .dct d (g nd hd1)
end
end Ls
namespace Ls
open PySem PySem.Spec PyProof.Rows L2
/-! ### a list of any things, compared with an empty list -/
def rNeE (K : PySem.W.Frag) : R2 := fun x y H Q => ∃ (a b : Addr) (xs : List V), x = .ref a ∧ y = .ref b ∧ SqL K H a xs ∧ SqL K H b [] ∧ Q (.bl (!xs.isEmpty)) H
theorem op_neE {X : Cx} (hu : X.A.units + 64 < cLine) : OpR X (compareOp .NotEq) (rNeE X.K) := by
  intro pins s σ H x y v u Q I rx ry h
  obtain ⟨a, b, xs, rfl, rfl, ha, hb, q⟩ := h
  cases rx
  cases ry
  obtain ⟨its, rv, p, hz⟩ := I.list ha
  obtain ⟨its2, rv2, p2, hz2⟩ := I.list hb
  cases rv2
  have hc : X.A.units < cLine := by omega
  cases xs with
  | nil =>
    cases rv
    have h1 := SeqAt.RcNeAt.lists (A := X.A) (s := s) (e := fun _ => true) p.isList p2.isList rfl hc (fun j h1 _ => absurd h1 (by simp))
    exact h1 X.prog X.w X.xe _ ⟨.bl _, H, I, rfl, q⟩
  | cons z r =>
    have hl : its.length ≠ 0 := by rw [← rv.length]; simp
    have h1 := SeqAt.RcNeAt.lists_lengths (A := X.A) (s := s) p.isList p2.isList (by simpa using hl) hc
    exact h1 X.prog X.w X.xe _ ⟨.bl _, H, I, rfl, q⟩
theorem neE {X : Cx} (K : PySem.W.Frag) {k : Nat} (hr : Room k X.A) (h : X.K = K := by rfl) : OpR X (compareOp .NotEq) (rNeE K) := by subst h; exact op_neE hr.units
/-! ### methods of built-in types where the context is bound -/
section
variable {X : Cx} {o e : Expr} {es : List Expr} {to : TE} {t : TA} {name : Str} {apos cpos : Pos} {T id : String} {r : V → List V → Hp → VK → Prop}
theorem pe_bm0K (K : PySem.W.Frag) (pa : PlainAttrs T) (slot : Slot T name id) (hty : typeOf (.builtin id) = pure (.type "method_descriptor")) (hm : MtM X id r) (ho : PE X o to) (hK : X.K = K := by rfl)
    (hbase : attributeBase o name X.env (eval o X.env) = eval o X.env := by rfl) (hline : (apos.endLine == cpos.line) = true := by rfl) : PE X (.Call (.Attribute o name apos) [] [] cpos) (tBM0 K T r to) := by
  subst hK
  exact pe_bm0 pa slot hty hm ho hbase hline
theorem pe_bmK (K : PySem.W.Frag) (pa : PlainAttrs T) (slot : Slot T name id) (hty : typeOf (.builtin id) = pure (.type "method_descriptor")) (hm : MtM X id r) (ho : PE X o to) (ha : PA X (e :: es) t) (hK : X.K = K := by rfl)
    (hbase : attributeBase o name X.env (eval o X.env) = eval o X.env := by rfl)
    (hfew : ((backTo cpos (starEach (e :: es) X.env)).all (fun x => !x.1) && (backToKw cpos (keywordEach [] X.env)).all (fun x => x.1.isSome)
      && decide ((e :: es).length + ([] : List Keyword).length + (if ([] : List Keyword).isEmpty then 0 else 1) < 30)) = true := by rfl)
    (hline : (apos.endLine == cpos.line) = true := by rfl) (hs : starEach (e :: es) X.env = (false, eval e X.env) :: starEach es X.env := by rfl) (hplain : (backTo cpos (starEach es X.env)).any (·.1) = false := by rfl) :
    PE X (.Call (.Attribute o name apos) (e :: es) [] cpos) (tBM K T r to t) := by
  subst hK
  exact pe_bm pa slot hty hm ho ha hbase hfew hline hs hplain
end
end Ls
namespace Ls
open PySem PySem.Spec PyProof.Rows L2
/-! ### short steps -/
local macro_rules | `(tactic| walk_at "ls_ne") => `(tactic| first | assumption | exact Ne.symm (by assumption) | exact ne_of_none (by assumption) (by assumption) | exact Ne.symm (ne_of_none (by assumption) (by assumption)))
local macro_rules | `(tactic| walk_at "ls_hp") => `(tactic| first
  | with_reducible assumption
  | exact upd_same
  | exact Eq.trans (upd_ne (by walk_at "ls_ne")) (by walk_at "ls_hp"))
local macro_rules | `(tactic| walk_at "ls_st") => `(tactic| first
  | with_reducible assumption
  | exact Stm.upd (by walk_at "ls_st") (by first | walk_at "ls_ne" | exact (Stm.noneS (by assumption) (by assumption)).1) (by first | walk_at "ls_ne" | exact (Stm.noneS (by assumption) (by assumption)).2))
local macro_rules | `(tactic| walk_at "ls1") => `(tactic| first
  | refine ⟨_, rfl, ?_⟩
  | refine ⟨_, _, rfl, rfl, ?_⟩
  | refine ⟨_, _, _, _, rfl, rfl, .inl (.inl (by walk_at "ls_hp")), rfl, ?_⟩
  | refine ⟨_, _, _, _, rfl, rfl, (by walk_at "ls_hp"), rfl, ?_⟩
  | refine ⟨rfl, _, rfl, ?_⟩
  | refine ⟨.inl ⟨rfl, _, .inl (.inl (by walk_at "ls_hp"))⟩, ?_⟩)
local macro_rules | `(tactic| walk_at "ls") => `(tactic| repeat (walk_at "ls1"))

section
variable {P : Program} {w : World} {K : PySem.W.Frag} {mg : Str → Option Value} {base : Heap}
/-! ### _law_mixed -/
abbrev s__law_mixed : Stmt := topS 30
theorem sc__law_mixed : FnScope ["_law_stream", "_law_things", "_law_left", "_law_k"] ["_law_stream", "_law_things"] (defScope s__law_mixed) := ⟨rfl, rfl, rfl, by decide +kernel, rfl, by decide +kernel, by decide +kernel⟩
abbrev N__law_mixed : List Str := ["_law_stream", "_law_things", "_law_left", "_law_k"]
theorem seqIx_nat {n r : Nat} (h : r < n) : seqIndex? (r : Int) n = some r := by
  unfold seqIndex?
  simp
  omega
theorem perm_erase {α : Type} : ∀ (zs : List α) (r : Nat) (h : r < zs.length), ([zs[r]] ++ zs.eraseIdx r).Perm zs
  | z :: zs, 0, _ => .refl _
  | z :: zs, r + 1, h => by
    have h' : r < zs.length := by simpa using h
    have ih := perm_erase zs r h'
    exact List.Perm.trans (List.Perm.swap z (zs[r]'h') (zs.eraseIdx r)) (List.Perm.cons z ih)
def spMixed (K : PySem.W.Frag) : Sp := fun vs H Q _ => ∃ (S L a : Addr) (n : Nat) (xs : List V), vs = [.ref S, .ref a] ∧ Stm H S L n ∧ n + xs.length ≤ 9990000 ∧ SqL K H a xs ∧ xs.length ≤ 1000 ∧
  ∀ (H' : Hp) (p : Addr) (ys : List V), H p = none → ys.Perm xs → H' p = some (.lst ys) → (p ≠ S ∧ p ≠ L) → Stm H' S L (n + xs.length) → Old S L H H' → Q (.ref p) H'
theorem ok_mixed {f : Addr} {fd : FuncData} (F : Fun K "_law_mixed" "_law_mixed" s__law_mixed f fd) (T : Bt mg) (O__law_draw : Own P w K mg base CX0 1 "_law_draw" ["_law_stream", "_law_many"] spDraw) : FnOk P w K mg base CX0 2 f fd ["_law_stream", "_law_things"] (spMixed K) := by
  refine F.ok sc__law_mixed (fun vs H Q E h => ?_) (fun cdv A outer s H vs Q E hr h => ?_)
  · obtain ⟨S, L, a, n, xs, rfl, _⟩ := h
    rfl
  · obtain ⟨S, L, a, n, xs, rfl, st, hn, ha, lx, q⟩ := h
    have hu := hu_of hr
    refine ⟨_, (pss_cons (ps_set (i := 2) sc__law_mixed.nd rfl (Or.inr rfl) (pe_callTy (list_of K) (by rfl) T.m_list (by decide +kernel) (pa_cons (pv 1) pa_nil)))
      (pss_one (ps_ret (pe_lc (own := [("_law_k", 3)]) (g := gName 3) (by rfl) sc__law_mixed.nd (pi_range1 rfl T.m_range (pa_cons (pe_callB (len_seq K) (by rfl) T.m_len (by decide +kernel) (pa_cons (pv 2) pa_nil)) pa_nil)) (blkOk_by (own := [("_law_k", 3)]) (N := N__law_mixed) (sc := defScope s__law_mixed) (by decide +kernel)) (fun _ _ _ _ _ => (pg_name (i := 3) sc__law_mixed.nd rfl (Or.inl rfl) (Or.inr rfl))) (fun _ _ _ _ _ => pts_nil) (fun _ _ _ _ _ => (pe_bmK K PySem.F.plainAttrs_list PySem.F.slot_list_pop PySem.F.type_list_pop mt_popAt (pv 2) (pa_cons (own_call O__law_draw hr (by first | decide | omega) (pa_cons (pv 0) (pa_cons (pe_callB (len_seq K) (by rfl) T.m_len (by decide +kernel) (pa_cons (pv 2) pa_nil)) pa_nil))) pa_nil))))))), ?_⟩
    walk_at "ls"
    refine ⟨a, xs, rfl, .inl ha, fun l hl => ?_⟩
    have nl := st.noneS hl
    walk_at "ls"
    refine ⟨l, _, rfl, .inl (.inl (.inl upd_same)), ?_⟩
    refine ⟨xs.length, rfl, by omega, by omega, fun D hD => ?_⟩
    have nlD : l ≠ D := ne_of_none upd_same hD
    have st1 := st.upd (o := .lst xs) nl.1 nl.2
    have nD := st1.noneS hD
    refine lc_it walk_range (fun i H3 => ∃ ys zs : List V, H3 D = some (.lst ys) ∧ H3 l = some (.lst zs) ∧ ys.length = i ∧ zs.length + i = xs.length ∧ (ys ++ zs).Perm xs ∧ Stm H3 S L (n + i) ∧ Old S L H H3)
      ⟨[], xs, upd_same, (by rw [upd_ne nlD]; exact upd_same), rfl, rfl, .refl _, st1.upd nD.1 nD.2, (Old.new hl).trans (.new hD)⟩ (fun _ _ _ _ => trivial) (fun i x H3 H4 hi hP hy => ?_) (fun H3 hP => ?_)
    · obtain ⟨ys, zs, h3D, h3l, ly, lz, pm, st3, od3⟩ := hP
      obtain ⟨rfl, rfl⟩ := hy
      refine ⟨rfl, ?_⟩
      have lz1 : 0 < zs.length := by omega
      walk_at "ls"
      refine ⟨l, zs, rfl, .inl (.inl (.inl h3l)), ?_⟩
      refine ⟨S, L, n + i, _, rfl, st3, by omega, by omega, by omega, fun H5 r r0 r1 st5 od5 => ?_⟩
      obtain ⟨r, rfl⟩ := Int.eq_ofNat_of_zero_le r0
      have hr' : r < zs.length := by omega
      have h5D := od5 _ _ nD.1 nD.2 h3D
      have h5l := od5 _ _ nl.1 nl.2 h3l
      refine ⟨l, zs, (r : Int), r, zs[r], rfl, rfl, h5l, by omega, by omega, seqIx_nat hr', List.getElem?_eq_getElem hr', ys, (by rw [upd_ne nlD.symm]; exact h5D), small1000 (by omega), ys ++ [zs[r]], zs.eraseIdx r, upd_same, ?_, ?_, ?_, ?_, ?_, ?_⟩
      · rw [upd_ne nlD]
        exact upd_same
      · rw [List.length_append, ly]
        rfl
      · rw [List.length_eraseIdx_of_lt hr']
        omega
      · refine List.Perm.trans ?_ pm
        rw [List.append_assoc]
        exact List.Perm.append_left ys (perm_erase zs r hr')
      · exact ((st5.mono (by omega)).upd nl.1 nl.2).upd nD.1 nD.2
      · exact Old.set (Old.set (od3.trans od5) hl) (Same.free (same_new hl) hD)
    · obtain ⟨ys, zs, h3D, h3l, ly, lz, pm, st3, od3⟩ := hP
      have ez : zs = [] := List.eq_nil_of_length_eq_zero (by omega)
      subst ez
      rw [List.append_nil] at pm
      exact q H3 D ys (Same.free (same_new hl) hD) pm h3D nD st3 od3
end
end Ls
namespace Ls
open PySem PySem.Spec PyProof.Rows L2
/-! ### lists of their own -/
def LstOf (H : Hp) (v : V) (ys : List V) : Prop := ∃ t, v = .ref t ∧ H t = some (.lst ys)
def LstsAt (H : Hp) (xs : List V) (yss : List (List V)) : Prop := Paired (LstOf H) xs yss
theorem LstsAt.len {H : Hp} {xs : List V} {yss : List (List V)} (h : LstsAt H xs yss) : xs.length = yss.length := Paired.length h
theorem LstsAt.get {H : Hp} : ∀ {xs : List V} {yss : List (List V)} {i : Nat} {x : V}, LstsAt H xs yss → xs[i]? = some x → ∃ ys, yss[i]? = some ys ∧ LstOf H x ys
  | _ :: _, _ :: _, 0, x, .cons h r, e => ⟨_, rfl, by cases e; exact h⟩
  | _ :: xs, _ :: yss, i + 1, x, .cons h r, e => LstsAt.get (xs := xs) (yss := yss) (i := i) r e
theorem LstsAt.mem {H : Hp} {xs : List V} {yss : List (List V)} {x : V} (h : LstsAt H xs yss) (hx : x ∈ xs) : ∃ t ys, x = .ref t ∧ H t = some (.lst ys) ∧ ys ∈ yss := by
  obtain ⟨i, hi⟩ := List.mem_iff_getElem?.mp hx
  obtain ⟨ys, hy, t, e, ht⟩ := h.get hi
  exact ⟨t, ys, e, ht, List.mem_of_getElem? hy⟩
/-- what holds of all that stand there -/
theorem LstsAt.imp {H H' : Hp} : ∀ {xs : List V} {yss : List (List V)}, LstsAt H xs yss → (∀ t ys, V.ref t ∈ xs → H t = some (.lst ys) → H' t = some (.lst ys)) → LstsAt H' xs yss
  | _, _, .nil, _ => .nil
  | _, _, .cons ⟨t, e, ht⟩ r, k => .cons ⟨t, e, k t _ (by rw [← e]; exact .head _) ht⟩ (LstsAt.imp r fun t ys hm h => k t ys (.tail _ hm) h)
theorem LstsAt.same {H H' : Hp} {xs : List V} {yss : List (List V)} (h : LstsAt H xs yss) (s : Same H H') : LstsAt H' xs yss := h.imp fun _ _ _ e => s _ _ e
theorem LstsAt.snoc {H : Hp} : ∀ {xs : List V} {yss : List (List V)} {v : V} {ys : List V}, LstsAt H xs yss → LstOf H v ys → LstsAt H (xs ++ [v]) (yss ++ [ys])
  | _, _, _, _, .nil, r => .cons r .nil
  | _, _, _, _, .cons a t, r => .cons a (LstsAt.snoc t r)
theorem LstsAt.set {H : Hp} : ∀ {xs : List V} {yss : List (List V)} {i : Nat} {t : Addr} {zs : List V}, LstsAt H xs yss → xs.Nodup → xs[i]? = some (.ref t) → LstsAt (upd H t (.lst zs)) xs (yss.set i zs)
  | _ :: xs, _ :: yss, 0, t, zs, .cons h r, nd, e => by
    have ht := Option.some.inj e
    refine .cons ⟨t, ht, upd_same⟩ (LstsAt.imp r fun t2 ys hm h2 => ?_)
    rw [upd_ne (fun z => (List.nodup_cons.mp nd).1 (by rw [show _ = V.ref t from ht, ← z]; exact hm))]
    exact h2
  | x :: xs, _ :: yss, i + 1, t, zs, .cons ⟨t2, e2, h2⟩ r, nd, e => by
    have nd' := List.nodup_cons.mp nd
    have e' : xs[i]? = some (.ref t) := e
    refine .cons ⟨t2, e2, ?_⟩ (LstsAt.set r nd'.2 e')
    rw [upd_ne (fun z => nd'.1 (by rw [e2, z]; exact List.mem_of_getElem? e'))]
    exact h2
theorem LstsAt.rows {K : PySem.W.Frag} {H : Hp} : ∀ {xs : List V} {yss : List (List V)}, LstsAt H xs yss → RowsAt K H xs yss
  | _, _, .nil => .nil
  | _, _, .cons ⟨t, e, h⟩ r => .cons ⟨t, e, .inl (.inl (.inl h))⟩ (LstsAt.rows r)
theorem fst_lst {H : Hp} {v y : V} {ys : List V} (h : LstOf H v (y :: ys)) : ∃ t, v = .ref t ∧ H t = some (.lst (y :: ys)) := h
def fstL (H : Hp) : V → Option V
  | .ref t => match H t with
    | some (.lst (y :: _)) => some y
    | _ => none
  | _ => none
theorem fstL_of {H : Hp} {v y : V} {ys : List V} (h : LstOf H v (y :: ys)) : fstL H v = some y := by
  obtain ⟨t, rfl, h⟩ := h
  show (match H t with | some (.lst (y :: _)) => some y | _ => none) = some y
  rw [h]
theorem fstL_all {α : Type} {H : Hp} (g : α → V) (r : α → List V) : ∀ {xs : List V} {l : List α}, LstsAt H xs (l.map fun a => g a :: r a) → xs.filterMap (fstL H) = l.map g
  | [], [], _ => rfl
  | x :: xs, a :: l, h => by
    cases h with
    | cons h1 h2 =>
      rw [List.filterMap_cons, fstL_of h1, fstL_all g r h2]
      rfl
  | [], a :: l, h => by cases h
  | x :: xs, [], h => by cases h
/-! ### a sublist by its members -/
theorem sub_filter {α : Type} [DecidableEq α] {l m : List α} (h : l.Sublist m) (nd : m.Nodup) : m.filter (fun z => decide (z ∈ l)) = l := by
  induction h with
  | slnil => rfl
  | @cons l m a h ih =>
    obtain ⟨n1, n2⟩ := List.nodup_cons.mp nd
    rw [List.filter_cons, decide_eq_false (fun z => n1 (h.subset z)), if_neg (by decide), ih n2]
  | @cons_cons l m a h ih =>
    obtain ⟨n1, n2⟩ := List.nodup_cons.mp nd
    rw [List.filter_cons, decide_eq_true (List.mem_cons_self ..), if_pos rfl]
    congr 1
    refine Eq.trans (List.filter_congr fun z hz => ?_) (ih n2)
    have hne : z ≠ a := fun e => n1 (e ▸ hz)
    simp [hne]
/-! ### the menu has nothing twice -/
theorem cps_inj {a b : Str} (h : a.cps.toList = b.cps.toList) : a = b := by
  obtain ⟨⟨x⟩⟩ := a
  obtain ⟨⟨y⟩⟩ := b
  simp only at h
  rw [h]
theorem cut_32 : ∀ {a b n m : List Nat}, 32 ∉ a → 32 ∉ b → a ++ 32 :: n = b ++ 32 :: m → a = b ∧ n = m
  | [], [], n, m, _, _, h => ⟨rfl, by simpa using h⟩
  | [], b :: r, n, m, _, hb, h => by
    have : 32 = b := by simpa using (List.cons.inj h).1
    exact absurd (this ▸ List.mem_cons_self ..) hb
  | a :: r, [], n, m, ha, _, h => by
    have : a = 32 := by simpa using (List.cons.inj h).1
    exact absurd (this ▸ List.mem_cons_self ..) ha
  | a :: r, b :: r2, n, m, ha, hb, h => by
    obtain ⟨h1, h2⟩ := List.cons.inj h
    obtain ⟨e1, e2⟩ := cut_32 (fun z => ha (.tail _ z)) (fun z => hb (.tail _ z)) h2
    exact ⟨by rw [h1, e1], e2⟩
theorem form_cps (a n : Str) : (a ++ " " ++ n).cps.toList = a.cps.toList ++ 32 :: n.cps.toList := by
  have e : ∀ a b : Str, (a ++ b).cps.toList = a.cps.toList ++ b.cps.toList := fun a b => by rw [PySem.Str.cps_append, Array.toList_append]
  rw [e, e, show (" " : Str).cps.toList = [32] by decide +kernel]
  simp
theorem form_inj {a b n m : Str} (ha : 32 ∉ a.cps.toList) (hb : 32 ∉ b.cps.toList) (h : a ++ " " ++ n = b ++ " " ++ m) : a = b ∧ n = m := by
  have e := congrArg (fun z : Str => z.cps.toList) h
  simp only [form_cps] at e
  obtain ⟨e1, e2⟩ := cut_32 ha hb e
  exact ⟨cps_inj e1, cps_inj e2⟩
theorem with_nodup {ws : List Str} (h : ws.Nodup) (h32 : ∀ a ∈ ws, 32 ∉ a.cps.toList) (n : Str) : (withN ws n).Nodup := by
  unfold withN
  refine List.pairwise_map.mpr (List.Pairwise.imp_of_mem (fun {a b} ha hb hne e => hne (form_inj (h32 a ha) (h32 b hb) e).1) h)
theorem flat_nodup {α : Type} {ws : List Str} (h : ws.Nodup) (h32 : ∀ a ∈ ws, 32 ∉ a.cps.toList) (g : α → Str) : ∀ {l : List α}, (l.map g).Nodup → (l.flatMap fun c => withN ws (g c)).Nodup
  | [], _ => List.nodup_nil
  | c :: r, nd => by
    rw [List.map_cons] at nd
    obtain ⟨n1, n2⟩ := List.nodup_cons.mp nd
    rw [List.flatMap_cons]
    refine List.nodup_append.mpr ⟨with_nodup h h32 _, flat_nodup h h32 g n2, fun x hx y hy e => ?_⟩
    subst e
    obtain ⟨a, ha, rfl⟩ := List.mem_map.mp hx
    obtain ⟨d, hd, h2⟩ := List.mem_flatMap.mp hy
    obtain ⟨b, hb, e⟩ := List.mem_map.mp h2
    have e2 := (form_inj (h32 b hb) (h32 a ha) e).2
    exact n1 (by rw [← e2]; exact List.mem_map_of_mem hd)
theorem col32 : ∀ a ∈ colW, 32 ∉ a.cps.toList := by decide +kernel
theorem kind32 : ∀ a ∈ kindW, 32 ∉ a.cps.toList := by decide +kernel
theorem menu_nodup {B : Shp} (nd : (B.ks.map (·.1) ++ B.cs.map (·.1)).Nodup) : (menu B).Nodup := by
  obtain ⟨d1, d2, d3⟩ := List.nodup_append.mp nd
  unfold menu
  refine List.nodup_append.mpr ⟨List.nodup_append.mpr ⟨flat_nodup (by decide +kernel) col32 _ d2, flat_nodup (by decide +kernel) kind32 _ d1, fun x hx y hy e => ?_⟩, by decide +kernel, fun x hx y hy e => ?_⟩
  · subst e
    obtain ⟨c, hc, h1⟩ := List.mem_flatMap.mp hx
    obtain ⟨a, ha, rfl⟩ := List.mem_map.mp h1
    obtain ⟨d, hd, h2⟩ := List.mem_flatMap.mp hy
    obtain ⟨b, hb, e⟩ := List.mem_map.mp h2
    have e2 := (form_inj (kind32 b hb) (col32 a ha) e).2
    exact d3 d.1 (List.mem_map_of_mem hd) c.1 (List.mem_map_of_mem hc) e2
  · subst e
    have h32 : 32 ∈ x.cps.toList := by
      rcases List.mem_append.mp hx with h | h
      · obtain ⟨c, hc, h1⟩ := List.mem_flatMap.mp h
        obtain ⟨a, ha, rfl⟩ := List.mem_map.mp h1
        rw [form_cps]
        exact List.mem_append_right _ (List.mem_cons_self ..)
      · obtain ⟨c, hc, h1⟩ := List.mem_flatMap.mp h
        obtain ⟨a, ha, rfl⟩ := List.mem_map.mp h1
        rw [form_cps]
        exact List.mem_append_right _ (List.mem_cons_self ..)
    exact (show ∀ y ∈ bookW, 32 ∉ y.cps.toList by decide +kernel) x hy h32
end Ls
namespace Ls
open PySem PySem.Spec PyProof.Rows L2
/-! ### short steps -/
local macro_rules | `(tactic| walk_at "ls_ne") => `(tactic| first | assumption | exact Ne.symm (by assumption) | exact ne_of_none (by assumption) (by assumption) | exact Ne.symm (ne_of_none (by assumption) (by assumption)))
local macro_rules | `(tactic| walk_at "ls_hp") => `(tactic| first
  | with_reducible assumption
  | exact upd_same
  | exact Eq.trans (upd_ne (by walk_at "ls_ne")) (by walk_at "ls_hp"))
local macro_rules | `(tactic| walk_at "ls_st") => `(tactic| first
  | with_reducible assumption
  | exact Stm.upd (by walk_at "ls_st") (by first | walk_at "ls_ne" | exact (Stm.noneS (by assumption) (by assumption)).1) (by first | walk_at "ls_ne" | exact (Stm.noneS (by assumption) (by assumption)).2))
local macro_rules | `(tactic| walk_at "ls1") => `(tactic| first
  | refine ⟨_, rfl, ?_⟩
  | refine ⟨_, _, rfl, rfl, ?_⟩
  | refine ⟨_, _, _, _, rfl, rfl, .inl (.inl (by walk_at "ls_hp")), rfl, ?_⟩
  | refine ⟨_, _, _, _, rfl, rfl, (by walk_at "ls_hp"), rfl, ?_⟩
  | refine ⟨rfl, _, rfl, ?_⟩
  | refine ⟨.inl ⟨rfl, _, .inl (.inl (by walk_at "ls_hp"))⟩, ?_⟩)
local macro_rules | `(tactic| walk_at "ls") => `(tactic| repeat (walk_at "ls1"))

/-! ### odd things stay -/
theorem OddV.imp {H H' : Hp} {v : V} (h : OddV H v) (k : ∀ t o, H t = some o → (∀ xs, o = .lst xs → ∃ z, xs = [V.str z]) → H' t = some o) : OddV H' v := by
  cases h with
  | str z h => exact .str z h
  | int i h => exact .int i h
  | non => exact .non
  | bl b => exact .bl b
  | tup t z h e => exact .tup t z h (k _ _ e fun xs q => nomatch q)
  | lst t z h e => exact .lst t z h (k _ _ e fun xs q => ⟨z, (HO.lst.inj q).symm⟩)
  | dct t e => exact .dct t (k _ _ e fun xs q => nomatch q)
theorem OddV.same {H H' : Hp} {v : V} (h : OddV H v) (s : Same H H') : OddV H' v := h.imp fun _ _ e _ => s _ _ e
theorem OddV.old {H H' : Hp} {S L : Addr} {n : Nat} {v : V} (h : OddV H v) (st : Stm H S L n) (od : Old S L H H') : OddV H' v := by
  obtain ⟨ns, d, c, m, h1, h2, _⟩ := st
  refine h.imp fun t o e k => od _ _ (fun z => ?_) (fun z => ?_) e
  · subst z
    rw [h1] at e
    obtain ⟨z, q⟩ := k _ (Option.some.inj e).symm
    cases q
  · subst z
    rw [h2] at e
    obtain ⟨z, q⟩ := k _ (Option.some.inj e).symm
    cases ns with
    | nil => cases q
    | cons a r => rw [List.map_cons] at q; injection q with q1; cases q1
theorem OddV.upd {H : Hp} {t : Addr} {y z : V} {ys : List V} {o : HO} {v : V} (h : OddV H v) (ht : H t = some (.lst (y :: z :: ys))) : OddV (upd H t o) v := by
  refine h.imp fun t2 o2 e k => ?_
  rw [upd_ne (fun q => ?_)]
  · exact e
  · subst q
    rw [ht] at e
    obtain ⟨z, q⟩ := k _ (Option.some.inj e).symm
    cases q
theorem OddV.name {H : Hp} {z : Str} (h : Nm z) : OddV H (.str z) := .str z (nm_ok100 h)
/-! ### the kinds and columns of a book, to be spoilt -/
structure Spl (S L : Addr) (H : Hp) (ka ca : Addr) (kx cx : List V) (ks : List (V × V)) (cs : List Col) : Prop where
  hka : H ka = some (.lst kx)
  hca : H ca = some (.lst cx)
  kt : LstsAt H kx (ks.map fun k => [k.1, k.2])
  ct : LstsAt H cx (cs.map colU)
  nd : (V.ref ka :: V.ref ca :: (kx ++ cx)).Nodup
  nS : ∀ t, V.ref t ∈ V.ref ka :: V.ref ca :: (kx ++ cx) → t ≠ S ∧ t ≠ L
  wk : ∀ k ∈ ks, OddV H k.1 ∧ ∃ b, k.2 = .bl b
  wc : ∀ c ∈ cs, OddV H c.1 ∧ OddV H c.2.1 ∧ OddV H c.2.2.1 ∧ OddV H c.2.2.2
section
variable {S L ka ca : Addr} {H H' : Hp} {kx cx : List V} {ks : List (V × V)} {cs : List Col} {n : Nat}
theorem Spl.old (h : Spl S L H ka ca kx cx ks cs) (st : Stm H S L n) (od : Old S L H H') : Spl S L H' ka ca kx cx ks cs := by
  obtain ⟨h1, h2, h3, h4, nd, nS, wk, wc⟩ := h
  have a1 := nS ka (.head _)
  have a2 := nS ca (.tail _ (.head _))
  refine ⟨od _ _ a1.1 a1.2 h1, od _ _ a2.1 a2.2 h2, h3.imp fun t ys hm e => ?_, h4.imp fun t ys hm e => ?_, nd, nS, fun k hk => ⟨(wk k hk).1.old st od, (wk k hk).2⟩, fun c hc => ⟨(wc c hc).1.old st od, (wc c hc).2.1.old st od, (wc c hc).2.2.1.old st od, (wc c hc).2.2.2.old st od⟩⟩
  · have a := nS t (.tail _ (.tail _ (List.mem_append_left _ hm)))
    exact od _ _ a.1 a.2 e
  · have a := nS t (.tail _ (.tail _ (List.mem_append_right _ hm)))
    exact od _ _ a.1 a.2 e
theorem nd_parts {α : Type} {a b : α} {xs ys : List α} (h : (a :: b :: (xs ++ ys)).Nodup) : a ∉ xs ∧ a ∉ ys ∧ b ∉ xs ∧ b ∉ ys ∧ xs.Nodup ∧ ys.Nodup ∧ ∀ x ∈ xs, x ∉ ys := by
  obtain ⟨h1, h⟩ := List.nodup_cons.mp h
  obtain ⟨h2, h⟩ := List.nodup_cons.mp h
  obtain ⟨h3, h4, h5⟩ := List.nodup_append.mp h
  have h1' : a ∉ xs ++ ys := fun z => h1 (.tail _ z)
  exact ⟨fun z => h1' (List.mem_append_left _ z), fun z => h1' (List.mem_append_right _ z), fun z => h2 (List.mem_append_left _ z), fun z => h2 (List.mem_append_right _ z), h3, h4, fun x hx hy => h5 x hx x hy rfl⟩
theorem Spl.setK {i : Nat} {t : Addr} {k : V × V} {v : V} (h : Spl S L H ka ca kx cx ks cs) (ht : kx[i]? = some (.ref t)) (hk : ks[i]? = some k) (hv : OddV H v) : Spl S L (upd H t (.lst [v, k.2])) ka ca kx cx (ks.set i (v, k.2)) cs := by
  obtain ⟨h1, h2, h3, h4, nd, nS, wk, wc⟩ := h
  obtain ⟨n1, n2, n3, n4, n5, n6, n7⟩ := nd_parts nd
  have hm := List.mem_of_getElem? ht
  have hkm := List.mem_of_getElem? hk
  have htt : H t = some (.lst [k.1, k.2]) := by
    obtain ⟨ys, hy, t2, e, h5⟩ := h3.get ht
    rw [List.getElem?_map, hk] at hy
    cases e
    rw [h5, ← Option.some.inj hy]
  refine ⟨?_, ?_, ?_, h4.imp fun t2 ys hm2 e => ?_, nd, nS, fun k2 hk2 => ?_, fun c hc => ⟨(wc c hc).1.upd htt, (wc c hc).2.1.upd htt, (wc c hc).2.2.1.upd htt, (wc c hc).2.2.2.upd htt⟩⟩
  · rw [upd_ne (fun z => n1 (by rw [z]; exact hm))]
    exact h1
  · rw [upd_ne (fun z => n3 (by rw [z]; exact hm))]
    exact h2
  · have z := h3.set (zs := [v, k.2]) n5 ht
    rw [List.map_set]
    exact z
  · rw [upd_ne (fun z => n7 _ hm (by rw [← z]; exact hm2))]
    exact e
  · rcases List.mem_or_eq_of_mem_set hk2 with h | rfl
    · exact ⟨(wk k2 h).1.upd htt, (wk k2 h).2⟩
    · exact ⟨hv.upd htt, (wk k hkm).2⟩
theorem Spl.setC {i : Nat} {t : Addr} {c c' : Col} (h : Spl S L H ka ca kx cx ks cs) (ht : cx[i]? = some (.ref t)) (hk : cs[i]? = some c) (hv : OddV H c'.1 ∧ OddV H c'.2.1 ∧ OddV H c'.2.2.1 ∧ OddV H c'.2.2.2) : Spl S L (upd H t (.lst (colU c'))) ka ca kx cx ks (cs.set i c') := by
  obtain ⟨h1, h2, h3, h4, nd, nS, wk, wc⟩ := h
  obtain ⟨n1, n2, n3, n4, n5, n6, n7⟩ := nd_parts nd
  have hm := List.mem_of_getElem? ht
  have hkm := List.mem_of_getElem? hk
  have htt : H t = some (.lst (colU c)) := by
    obtain ⟨ys, hy, t2, e, h5⟩ := h4.get ht
    rw [List.getElem?_map, hk] at hy
    cases e
    rw [h5, ← Option.some.inj hy]
  refine ⟨?_, ?_, h3.imp fun t2 ys hm2 e => ?_, ?_, nd, nS, fun k2 hk2 => ⟨(wk k2 hk2).1.upd htt, (wk k2 hk2).2⟩, fun c2 hc => ?_⟩
  · rw [upd_ne (fun z => n2 (by rw [z]; exact hm))]
    exact h1
  · rw [upd_ne (fun z => n4 (by rw [z]; exact hm))]
    exact h2
  · rw [upd_ne (fun z => n7 _ hm2 (by rw [z]; exact hm))]
    exact e
  · have z := h4.set (zs := colU c') n6 ht
    rw [List.map_set]
    exact z
  · rcases List.mem_or_eq_of_mem_set hc with h | rfl
    · exact ⟨(wc c2 h).1.upd htt, (wc c2 h).2.1.upd htt, (wc c2 h).2.2.1.upd htt, (wc c2 h).2.2.2.upd htt⟩
    · exact ⟨hv.1.upd htt, hv.2.1.upd htt, hv.2.2.1.upd htt, hv.2.2.2.upd htt⟩
end
section
variable {P : Program} {w : World} {K : PySem.W.Frag} {mg : Str → Option Value} {base : Heap}
/-! ### _law_spoiled -/
abbrev s__law_spoiled : Stmt := topS 39
theorem sc__law_spoiled : FnScope ["_law_stream", "_law_b", "_law_kind", "_law_column", "_law_kinds", "_law_columns", "_law_names_here", "_law_k", "_law_way", "_law_word"] ["_law_stream", "_law_b"] (defScope s__law_spoiled) := ⟨rfl, rfl, rfl, by decide +kernel, rfl, by decide +kernel, by decide +kernel⟩
abbrev N__law_spoiled : List Str := ["_law_stream", "_law_b", "_law_kind", "_law_column", "_law_kinds", "_law_columns", "_law_names_here", "_law_k", "_law_way", "_law_word"]
def spSpoil : Sp := fun vs H Q _ => ∃ (S L b : Addr) (n : Nat) (B : Shp) (ck : List Str), vs = [.ref S, .ref b] ∧ Stm H S L n ∧ n ≤ 9800000 ∧ ShpAt S L H b B ck ∧ B.Ok ∧
  ∀ (H' : Hp) (r ka ca : Addr) (kx cx : List V) (ks : List (V × V)) (cs : List Col), H' r = some (.lst [.ref ka, .ref ca]) → Spl S L H' ka ca kx cx ks cs → ks.length = B.ks.length → cs.length = B.cs.length → Stm H' S L (n + 40) → Old S L H H' → Q (.ref r) H'
theorem ok_spoil {f : Addr} {fd : FuncData} (F : Fun K "_law_spoiled" "_law_spoiled" s__law_spoiled f fd) (T : Bt mg) (O__law_draw : Own P w K mg base CX0 1 "_law_draw" ["_law_stream", "_law_many"] spDraw)
    (O__law_pick : Own P w K mg base CX0 2 "_law_pick" ["_law_stream", "_law_things"] (spPick K)) (O__law_odd_name : Own P w K mg base CX0 3 "_law_odd_name" ["_law_stream"] spOdd) : FnOk P w K mg base CX0 4 f fd ["_law_stream", "_law_b"] spSpoil := by
  refine F.ok sc__law_spoiled (fun vs H Q E h => ?_) (fun cdv A outer s H vs Q E hr h => ?_)
  · obtain ⟨S, L, b, n, B, ck, rfl, _⟩ := h
    rfl
  · obtain ⟨S, L, b, n, B, ck, rfl, st, hn, hb, hB, q⟩ := h
    have hu := hu_of hr
    refine ⟨_, (pss_cons (ps_par (i := 4) (j := 5) (by rfl) sc__law_spoiled.nd rfl rfl (by decide) rfl rfl (pa_cons (pe_lc (own := [("_law_kind", 2)]) (g := gName 2) (by rfl) sc__law_spoiled.nd (pi_list (pe_dget hu (pv 1) pe_str (fun _ _ => rfl))) (blkOk_by (own := [("_law_kind", 2)]) (N := N__law_spoiled) (sc := defScope s__law_spoiled) (by decide +kernel)) (fun _ _ _ _ _ => (pg_name (i := 2) sc__law_spoiled.nd rfl (Or.inl rfl) (Or.inr rfl))) (fun _ _ _ _ _ => pts_nil) (fun _ _ _ _ _ => (pe_callTy (list_of K) (by rfl) T.m_list (by decide +kernel) (pa_cons (pv 2) pa_nil)))) (pa_cons (pe_lc (own := [("_law_column", 3)]) (g := gName 3) (by rfl) sc__law_spoiled.nd (pi_list (pe_dget hu (pv 1) pe_str (fun _ _ => rfl))) (blkOk_by (own := [("_law_column", 3)]) (N := N__law_spoiled) (sc := defScope s__law_spoiled) (by decide +kernel)) (fun _ _ _ _ _ => (pg_name (i := 3) sc__law_spoiled.nd rfl (Or.inl rfl) (Or.inr rfl))) (fun _ _ _ _ _ => pts_nil) (fun _ _ _ _ _ => (pe_callTy (list_of K) (by rfl) T.m_list (by decide +kernel) (pa_cons (pv 3) pa_nil)))) pa_nil)) (by rfl))
      (pss_cons (ps_set (i := 6) sc__law_spoiled.nd rfl (Or.inl rfl) (pe_op op_cat (pe_lc (own := [("_law_kind", 2)]) (g := gName 2) (by rfl) sc__law_spoiled.nd (pi_list (pv 4)) (blkOk_by (own := [("_law_kind", 2)]) (N := N__law_spoiled) (sc := defScope s__law_spoiled) (by decide +kernel)) (fun _ _ _ _ _ => (pg_name (i := 2) sc__law_spoiled.nd rfl (Or.inl rfl) (Or.inr rfl))) (fun _ _ _ _ _ => pts_nil) (fun _ _ _ _ _ => (pe_ix (ixL K) (pv 2) pe_int (fun _ _ => rfl)))) (pe_lc (own := [("_law_column", 3)]) (g := gName 3) (by rfl) sc__law_spoiled.nd (pi_list (pv 5)) (blkOk_by (own := [("_law_column", 3)]) (N := N__law_spoiled) (sc := defScope s__law_spoiled) (by decide +kernel)) (fun _ _ _ _ _ => (pg_name (i := 3) sc__law_spoiled.nd rfl (Or.inl rfl) (Or.inr rfl))) (fun _ _ _ _ _ => pts_nil) (fun _ _ _ _ _ => (pe_ix (ixL K) (pv 3) pe_int (fun _ _ => rfl))))))
      (pss_cons (ps_for PassesOwn.never rfl (pi_range1 rfl T.m_range (pa_cons (own_call O__law_draw hr (by first | decide | omega) (pa_cons (pv 0) (pa_cons pe_int pa_nil))) pa_nil)) (pg_name (i := 7) sc__law_spoiled.nd rfl (Or.inl rfl)) (pss_cons (ps_set (i := 8) sc__law_spoiled.nd rfl (Or.inl rfl) (own_call O__law_draw hr (by first | decide | omega) (pa_cons (pv 0) (pa_cons pe_int pa_nil))))
      (C8.pss_cut (ps_set (i := 9) sc__law_spoiled.nd rfl (Or.inl rfl) (pe_ifExp (pt_cmpR op_eq (own_call O__law_draw hr (by first | decide | omega) (pa_cons (pv 0) (pa_cons pe_int pa_nil))) pe_int (nomark _)) (own_call O__law_odd_name hr (by first | decide | omega) (pa_cons (pv 0) pa_nil)) (own_call O__law_pick hr (by first | decide | omega) (pa_cons (pv 0) (pa_cons (pv 6) pa_nil)))))
      (pss_one (ps_if (pt_cmpR op_eq (pv 8) pe_int (nomark _)) (pss_cons (ps_set (i := 2) sc__law_spoiled.nd rfl (Or.inl rfl) (own_call O__law_pick hr (by first | decide | omega) (pa_cons (pv 0) (pa_cons (pv 4) pa_nil))))
      (pss_one (ps_asg (pv 9) (pg_sub (pv 2) pe_int set_list)))) (pss_one (ps_if (pt_cmpR (neE K hr) (pv 5) (pe_lst pa_nil) (nomark _)) (pss_cons (ps_set (i := 3) sc__law_spoiled.nd rfl (Or.inl rfl) (own_call O__law_pick hr (by first | decide | omega) (pa_cons (pv 0) (pa_cons (pv 5) pa_nil))))
      (pss_one (ps_if (pt_cmpR op_eq (pv 8) pe_int (nomark _)) (pss_one (ps_asg (own_call O__law_pick hr (by first | decide | omega) (pa_cons (pv 0) (pa_cons (pe_lst (pa_cons pe_str (pa_cons pe_str (pa_cons pe_str (pa_cons pe_str (pa_cons pe_str (pa_cons pe_non (pa_cons pe_int (pa_cons (pe_lst (pa_cons pe_str pa_nil)) pa_nil))))))))) pa_nil))) (pg_sub (pv 3) pe_int set_list))) (pss_one (ps_asg (pv 9) (pg_sub (pv 3) (pe_ix (ixL K) (pe_lst (pa_cons pe_int (pa_cons pe_int (pa_cons pe_int (pa_cons pe_int pa_nil))))) (pe_op op_sub (pv 8) pe_int) (fun _ _ => rfl)) set_list)))))) pss_nil)))))))
      (pss_one (ps_ret (pe_lst (pa_cons (pv 4) (pa_cons (pv 5) pa_nil)))))))), ?_⟩
    obtain ⟨kb, cb, eb, kbx, cbx, hbb, hkb, hkbt, hcb, hcbt, heb, nkb, ncb, neb⟩ := id hb
    walk_at "ls"
    refine ⟨b, _, rfl, dg_kinds hbb, kb, rfl, ⟨_, .inl (.inl hkb)⟩, fun ka hka => ?_⟩
    have lkb : kbx.length = B.ks.length := by rw [hkbt.len, List.length_map]
    have lcb : cbx.length = B.cs.length := by rw [hcbt.len, List.length_map]
    have bk3 := hB.nk3
    have bc8 := hB.nc
    refine lc_it (walk_list (xs := kbx)) (fun j H1 => ∃ kx : List V, H1 ka = some (.lst kx) ∧ LstsAt H1 kx ((B.ks.take j).map kindV) ∧ kx.Nodup ∧ (∀ t, V.ref t ∈ kx → H t = none ∧ t ≠ ka) ∧ Same H H1)
      ⟨[], upd_same, .nil, List.nodup_nil, (fun t h => nomatch h), same_new hka⟩ (fun j H1 _ ⟨_, _, _, _, _, s1⟩ => .inl (.inl (s1 _ _ hkb))) ?_ ?_
    · rintro j y Hy H1 hj ⟨kx, h1, h1t, nd, fr, s1⟩ ⟨rfl, hy⟩
      obtain ⟨ys, hys, t, rfl, ht⟩ := TupsAt.get (hkbt.keep (.same s1)) hy
      obtain ⟨kd, hkd, rfl⟩ := map_get hys
      refine ⟨rfl, ?_⟩
      walk_at "ls"
      refine ⟨t, _, rfl, .inr (.inl (.inl ht)), fun l hl => ?_⟩
      have nkl : ka ≠ l := ne_of_none h1 hl
      have lkx : kx.length ≤ 3 := by
        rw [h1t.len, List.length_map, List.length_take]
        omega
      refine ⟨kx, (by rw [upd_ne nkl]; exact h1), small1000 (by omega), kx ++ [.ref l], upd_same, ?_, ?_, ?_, ?_⟩
      · rw [List.take_add_one, hkd, Option.toList_some, List.map_append]
        refine LstsAt.snoc (h1t.imp fun t2 ys hm e => ?_) ⟨l, rfl, by rw [upd_ne nkl.symm]; exact upd_same⟩
        rw [upd_ne (fr t2 hm).2, upd_ne (ne_of_none e hl)]
        exact e
      · refine nodup_snoc nd fun hm => ?_
        obtain ⟨t2, ys, e, ht2, _⟩ := h1t.mem hm
        cases e
        exact ne_of_none ht2 hl rfl
      · intro t2 hm
        rcases List.mem_append.mp hm with h | h
        · exact fr t2 h
        · cases List.mem_singleton.mp h
          exact ⟨s1.free hl, nkl.symm⟩
      · exact Same.set (s1.trans (same_new hl)) hka
    rintro H1 ⟨kx, h1, h1t, nd, fr, s1⟩
    rw [lkb, List.take_length] at h1t
    have lkx : kx.length = B.ks.length := by rw [h1t.len, List.length_map]
    -- the columns
    walk_at "ls"
    refine ⟨b, _, rfl, dg_columns (s1 _ _ hbb), cb, rfl, ⟨_, .inl (.inl (s1 _ _ hcb))⟩, fun ca hca => ?_⟩
    refine lc_it (walk_list (xs := cbx)) (fun j H2 => ∃ cx : List V, H2 ca = some (.lst cx) ∧ LstsAt H2 cx ((B.cs.take j).map colV) ∧ cx.Nodup ∧ (∀ t, V.ref t ∈ cx → H1 t = none ∧ t ≠ ca) ∧ Same H1 H2)
      ⟨[], upd_same, .nil, List.nodup_nil, (fun t h => nomatch h), same_new hca⟩ (fun j H2 _ ⟨_, _, _, _, _, s2⟩ => .inl (.inl (s2 _ _ (s1 _ _ hcb)))) ?_ ?_
    · rintro j y Hy H2 hj ⟨cx, h2, h2t, nd2, fr2, s2⟩ ⟨rfl, hy⟩
      obtain ⟨ys, hys, t, rfl, ht⟩ := TupsAt.get (hcbt.keep (.same (s1.trans s2))) hy
      obtain ⟨kd, hkd, rfl⟩ := map_get hys
      refine ⟨rfl, ?_⟩
      walk_at "ls"
      refine ⟨t, _, rfl, .inr (.inl (.inl ht)), fun l hl => ?_⟩
      have nkl : ca ≠ l := ne_of_none h2 hl
      have lcx : cx.length ≤ 8 := by
        rw [h2t.len, List.length_map, List.length_take]
        omega
      refine ⟨cx, (by rw [upd_ne nkl]; exact h2), small1000 (by omega), cx ++ [.ref l], upd_same, ?_, ?_, ?_, ?_⟩
      · rw [List.take_add_one, hkd, Option.toList_some, List.map_append]
        refine LstsAt.snoc (h2t.imp fun t2 ys hm e => ?_) ⟨l, rfl, by rw [upd_ne nkl.symm]; exact upd_same⟩
        rw [upd_ne (fr2 t2 hm).2, upd_ne (ne_of_none e hl)]
        exact e
      · refine nodup_snoc nd2 fun hm => ?_
        obtain ⟨t2, ys, e, ht2, _⟩ := h2t.mem hm
        cases e
        exact ne_of_none ht2 hl rfl
      · intro t2 hm
        rcases List.mem_append.mp hm with h | h
        · exact fr2 t2 h
        · cases List.mem_singleton.mp h
          exact ⟨s2.free hl, nkl.symm⟩
      · exact Same.set (s2.trans (same_new hl)) hca
    rintro H2 ⟨cx, h2, h2t, nd2, fr2, s2⟩
    rw [lcb, List.take_length] at h2t
    have lcx : cx.length = B.cs.length := by rw [h2t.len, List.length_map]
    have nkc : ka ≠ ca := ne_of_none h1 hca
    have sH2 : Same H H2 := s1.trans s2
    have st2 := st.keep sH2
    have frA : ∀ t, V.ref t ∈ V.ref ka :: V.ref ca :: (kx ++ cx) → H t = none := fun t hm => by
      rcases List.mem_cons.mp hm with h | hm
      · cases h
        exact hka
      rcases List.mem_cons.mp hm with h | hm
      · cases h
        exact s1.free hca
      rcases List.mem_append.mp hm with h | h
      · exact (fr t h).1
      · exact s1.free (fr2 t h).1
    have sp2 : Spl S L H2 ka ca kx cx (B.ks.map fun k => (V.str k.1, V.bl k.2)) (B.cs.map fun c => (V.str c.1, V.str c.2.1, V.str c.2.2.1, V.str (ruleS c.2.2.2))) := by
      refine ⟨s2 _ _ h1, h2, ?_, ?_, ?_, fun t hm => st.noneS (frA t hm), fun k hk => ?_, fun c hc => ?_⟩
      · rw [List.map_map]
        exact h1t.same s2
      · rw [List.map_map]
        exact h2t
      · refine List.nodup_cons.mpr ⟨fun hm => ?_, List.nodup_cons.mpr ⟨fun hm => ?_, List.nodup_append.mpr ⟨nd, nd2, fun x hx y hy e => ?_⟩⟩⟩
        · rcases List.mem_cons.mp hm with h | hm
          · cases h
            exact nkc rfl
          rcases List.mem_append.mp hm with h | h
          · exact (fr ka h).2 rfl
          · exact ne_of_none h1 (fr2 ka h).1 rfl
        · rcases List.mem_append.mp hm with h | h
          · obtain ⟨t2, ys, e, ht2, _⟩ := h1t.mem h
            cases e
            exact ne_of_none ht2 hca rfl
          · exact (fr2 ca h).2 rfl
        · subst e
          obtain ⟨t2, ys, e, ht2, _⟩ := h1t.mem hx
          subst e
          exact ne_of_none ht2 (fr2 t2 hy).1 rfl
      · obtain ⟨k0, hk0, rfl⟩ := List.mem_map.mp hk
        exact ⟨.name (hB.nm _ (List.mem_append_left _ (List.mem_map_of_mem hk0))), _, rfl⟩
      · obtain ⟨c0, hc0, rfl⟩ := List.mem_map.mp hc
        refine ⟨.name (hB.nm _ (List.mem_append_right _ (List.mem_map_of_mem hc0))), .name (hB.nm _ (List.mem_append_left _ (hB.home c0 hc0))), .name (hB.nm _ (List.mem_append_left _ (hB.goal c0 hc0))), .str _ ?_⟩
        show okB 100 (ruleS c0.2.2.2) = true
        cases c0.2.2.2 <;> decide +kernel
    -- the names
    clear h1 h1t s1 hkbt hkb hcb hcbt hbb
    have hka2 := sp2.hka
    have hca2 := sp2.hca
    refine ⟨_, _, rfl, ?_⟩
    refine ⟨_, rfl, ka, rfl, ⟨_, .inl (.inl hka2)⟩, fun D1 hD1 => ?_⟩
    have nk1 : ka ≠ D1 := ne_of_none hka2 hD1
    refine lc_pure (walk_list (xs := kx)) kx (fstL H2) rfl (fun i H x H' hi hy => hy) (Nat.lt_of_le_of_lt (show kx.length ≤ 1000 by omega) (by decide)) (fun acc => .inl (.inl (by rw [upd_ne nk1]; exact hka2))) (fun j y hj hyj => ?_) ?_
    · obtain ⟨zs, hzs, hto⟩ := sp2.kt.get hyj
      obtain ⟨k2, hk2, rfl⟩ := map_get hzs
      obtain ⟨t2, rfl, ht2⟩ := id hto
      have n2 : t2 ≠ D1 := ne_of_none ht2 hD1
      refine ⟨rfl, ?_⟩
      walk_at "ls"
      exact lc_yes hyj hj (Nat.lt_of_le_of_lt (show kx.length ≤ 1000 by omega) (by decide)) (fstL_of hto)
    rw [fstL_all (fun a : V × V => a.1) (fun a => [a.2]) sp2.kt, List.map_map]
    have s1D : Same H2 (upd H2 D1 (.lst (B.ks.map fun k => V.str k.1))) := same_new hD1
    refine ⟨_, rfl, ca, rfl, ⟨_, .inl (.inl (s1D _ _ hca2))⟩, fun D2 hD2 => ?_⟩
    have nk2 : ca ≠ D2 := ne_of_none (s1D _ _ hca2) hD2
    refine lc_pure (walk_list (xs := cx)) cx (fstL H2) rfl (fun i H x H' hi hy => hy) (Nat.lt_of_le_of_lt (show cx.length ≤ 1000 by omega) (by decide)) (fun acc => .inl (.inl (by rw [upd_ne nk2]; exact s1D _ _ hca2))) (fun j y hj hyj => ?_) ?_
    · obtain ⟨zs, hzs, hto⟩ := sp2.ct.get hyj
      obtain ⟨k2, hk2, rfl⟩ := map_get hzs
      obtain ⟨t2, rfl, ht2⟩ := id hto
      have n1 : t2 ≠ D1 := ne_of_none ht2 hD1
      have n2 : t2 ≠ D2 := ne_of_none (s1D _ _ ht2) hD2
      refine ⟨rfl, ?_⟩
      walk_at "ls"
      exact lc_yes hyj hj (Nat.lt_of_le_of_lt (show cx.length ≤ 1000 by omega) (by decide)) (fstL_of hto)
    rw [fstL_all (fun a : Col => a.1) (fun a => [a.2.1, a.2.2.1, a.2.2.2]) sp2.ct, List.map_map]
    have n12 : D1 ≠ D2 := ne_of_none upd_same hD2
    refine ⟨_, _, _, _, rfl, rfl, (by rw [upd_ne n12]; exact upd_same), upd_same, ?_, fun na hna => ?_⟩
    · rw [List.length_map, List.length_map]
      exact Nat.le_trans (show _ ≤ 1000 by omega) (by decide)
    have f2n : H2 na = none := ((same_new hD1).trans (same_new hD2)).free hna
    refine at_heap (φ := fun H3 => Same H2 H3 ∧ ∃ nl : List V, H3 na = some (.lst nl) ∧ (∀ v ∈ nl, ∃ z, v = .str z ∧ okB 100 z = true) ∧ 0 < nl.length ∧ nl.length ≤ 11)
      ⟨((same_new hD1).trans (same_new hD2)).trans (same_new hna), _, upd_same, fun v hv => ?_, ?_, ?_⟩ ?_
    · have nm8 : ∀ {z : Str}, Nm z → okB 100 z = true := nm_ok100
      rcases List.mem_append.mp hv with h | h
      · obtain ⟨k0, hk0, rfl⟩ := List.mem_map.mp h
        exact ⟨_, rfl, nm8 (hB.nm _ (List.mem_append_left _ (List.mem_map_of_mem hk0)))⟩
      · obtain ⟨k0, hk0, rfl⟩ := List.mem_map.mp h
        exact ⟨_, rfl, nm8 (hB.nm _ (List.mem_append_right _ (List.mem_map_of_mem hk0)))⟩
    · have := hB.nk
      rw [List.length_append, List.length_map, List.length_map]
      omega
    · rw [List.length_append, List.length_map, List.length_map]
      omega
    rintro H3 ⟨s3, nl, h3n, hnl, ln0, ln11⟩
    have nnS : na ≠ S ∧ na ≠ L := st2.noneS f2n
    have nrow : ∀ t, V.ref t ∈ V.ref ka :: V.ref ca :: (kx ++ cx) → na ≠ t := fun t hm e => by
      subst e
      rcases List.mem_cons.mp hm with h | hm
      · cases h
        exact ne_of_none hka2 f2n rfl
      rcases List.mem_cons.mp hm with h | hm
      · cases h
        exact ne_of_none hca2 f2n rfl
      rcases List.mem_append.mp hm with h | h
      · obtain ⟨t2, ys, e, ht2, _⟩ := sp2.kt.mem h
        cases e
        exact ne_of_none ht2 f2n rfl
      · obtain ⟨t2, ys, e, ht2, _⟩ := sp2.ct.mem h
        cases e
        exact ne_of_none ht2 f2n rfl
    have st3 := st2.keep s3
    have sp3 := sp2.old st2 (.same s3)
    have od3 : Old S L H H3 := .same (sH2.trans s3)
    have hl1 : (B.ks.map fun k => (V.str k.1, V.bl k.2)).length = B.ks.length := List.length_map ..
    have hl2 : (B.cs.map fun c => (V.str c.1, V.str c.2.1, V.str c.2.2.1, V.str (ruleS c.2.2.2))).length = B.cs.length := List.length_map ..
    clear hka2 hca2 s1D hD1 hD2 nk1 nk2 n12 hna st2
    generalize (B.ks.map fun k => (V.str k.1, V.bl k.2)) = ks0 at *
    generalize (B.cs.map fun c => (V.str c.1, V.str c.2.1, V.str c.2.2.1, V.str (ruleS c.2.2.2))) = cs0 at *
    -- the changes
    walk_at "ls"
    refine ⟨S, L, n, 4, rfl, st3, by omega, by decide, by decide, fun H4 r r0 r1 st4 od4 => ?_⟩
    refine ⟨r, rfl, by omega, by omega, ?_⟩
    refine for_it walk_range (fun i σ H5 => ∃ (v2 v3 v7 v8 v9 : Option V) (ks : List (V × V)) (cs : List Col), σ = [some (.ref S), some (.ref b), v2, v3, some (.ref ka), some (.ref ca), some (.ref na), v7, v8, v9] ∧ Spl S L H5 ka ca kx cx ks cs ∧ ks.length = B.ks.length ∧ cs.length = B.cs.length ∧
        H5 na = some (.lst nl) ∧ Stm H5 S L (n + 1 + 6 * i) ∧ Old S L H H5)
      ⟨none, none, none, none, none, ks0, cs0, rfl, sp3.old st3 od4, hl1, hl2, od4 _ _ nnS.1 nnS.2 h3n, st4, od3.trans od4⟩ (fun _ _ _ _ _ => trivial) ?_ ?_
    · rintro i x σ H5 H6 hi ⟨v2, v3, v7, v8, v9, ks, cs, rfl, sp5, lk5, lc5, h5n, st5, od5⟩ ⟨rfl, rfl⟩
      walk_at "ls"
      refine ⟨S, L, _, 6, rfl, st5, by omega, by decide, by decide, fun H7 wy w0 w1 st7 od7 => ?_⟩
      have sp7 := sp5.old st5 od7
      have h7n := od7 _ _ nnS.1 nnS.2 h5n
      refine ⟨fun σ' H' => ∃ v : V, σ' = [some (.ref S), some (.ref b), v2, v3, some (.ref ka), some (.ref ca), some (.ref na), some ((fun i : Nat => V.int (0 + (i : Int))) i), some (.int wy), some v] ∧ OddV H' v ∧ Spl S L H' ka ca kx cx ks cs ∧ H' na = some (.lst nl) ∧ Stm H' S L (n + 1 + 6 * i + 4) ∧ Old S L H H', ?_, ?_⟩
      · walk_at "ls"
        refine ⟨S, L, _, 2, rfl, st7, by omega, by decide, by decide, fun H8 u u0 u1 st8 od8 => ?_⟩
        have sp8 := sp7.old st7 od8
        have h8n := od8 _ _ nnS.1 nnS.2 h7n
        walk_at "ls"
        refine ite2 (fun e => ?_) (fun e => ?_)
        · walk_at "ls"
          refine ⟨S, L, _, rfl, st8, by omega, fun H9 v ov st9 od9 => ?_⟩
          exact ⟨v, rfl, ov, sp8.old st8 od9, od9 _ _ nnS.1 nnS.2 h8n, st9.mono (by omega), ((od5.trans od7).trans od8).trans od9⟩
        · walk_at "ls"
          refine ⟨S, L, na, _, nl, rfl, st8, by omega, .inl (.inl h8n), nnS.1, nnS.2, ln0, by omega, fun H9 v hv st9 od9 => ?_⟩
          obtain ⟨z, rfl, hz⟩ := hnl v hv
          exact ⟨.str z, rfl, .str z hz, sp8.old st8 od9, od9 _ _ nnS.1 nnS.2 h8n, st9.mono (by omega), ((od5.trans od7).trans od8).trans od9⟩
      · rintro σ' H8 ⟨wv, rfl, ov, sp8, h8n, st8, od8⟩
        walk_at "ls"
        refine ite2 (fun e => ?_) (fun e => ?_)
        · walk_at "ls"
          have nka := sp8.nS ka (.head _)
          have nkl := hB.nk
          refine ⟨S, L, ka, _, kx, rfl, st8, by omega, .inl (.inl sp8.hka), nka.1, nka.2, by omega, by omega, fun H9 v hv st9 od9 => ?_⟩
          obtain ⟨j, hj⟩ := List.mem_iff_getElem?.mp hv
          have sp9 := sp8.old st8 od9
          obtain ⟨ys, hys, t, rfl, ht⟩ := sp9.kt.get hj
          obtain ⟨kd, hkd, rfl⟩ := map_get hys
          walk_at "ls"
          have hm : V.ref t ∈ V.ref ka :: V.ref ca :: (kx ++ cx) := .tail _ (.tail _ (List.mem_append_left _ (List.mem_of_getElem? hj)))
          have nt := sp9.nS t hm
          exact ⟨_, _, _, _, _, ks.set j (wv, kd.2), cs, rfl, sp9.setK hj hkd (ov.old st8 od9), (by rw [List.length_set]; exact lk5), lc5, (by rw [upd_ne (nrow t hm)]; exact od9 _ _ nnS.1 nnS.2 h8n), (st9.mono (by omega)).upd nt.1 nt.2, Old.set (od8.trans od9) (frA t hm)⟩
        · -- a column
          walk_at "ls"
          refine ⟨Nat.zero_le _, fun el hel => ?_⟩
          have sel : Same H8 (upd H8 el (.lst [])) := same_new hel
          have sp8 := sp8.old st8 (.same sel)
          have st8 := st8.keep sel
          have od8 := od8.trans (.same sel)
          have h8n := sel _ _ h8n
          have hel2 : (upd H8 el (.lst [])) el = some (.lst []) := upd_same
          have ov : OddV (upd H8 el (.lst [])) wv := ov.same sel
          refine ⟨ca, el, cx, rfl, rfl, .inl (.inl sp8.hca), .inl (.inl hel2), _, rfl, ?_⟩
          generalize upd H8 el (.lst []) = H9 at *
          show if (!cx.isEmpty) = true then _ else _
          refine ite2 (fun e2 => ?_) (fun e2 => ?_)
          · have lc0 : 0 < cx.length := by
              cases cx with
              | nil => cases e2
              | cons x r => simp
            have nca := sp8.nS ca (.tail _ (.head _))
            walk_at "ls"
            refine ⟨S, L, ca, _, cx, rfl, st8, by omega, .inl (.inl sp8.hca), nca.1, nca.2, lc0, by omega, fun H10 v hv st10 od10 => ?_⟩
            obtain ⟨j, hj⟩ := List.mem_iff_getElem?.mp hv
            have sp10 := sp8.old st8 od10
            obtain ⟨ys, hys, t, rfl, ht⟩ := sp10.ct.get hj
            obtain ⟨c, hc, rfl⟩ := map_get hys
            have ov10 := ov.old st8 od10
            have h10n := od10 _ _ nnS.1 nnS.2 h8n
            have hm : V.ref t ∈ V.ref ka :: V.ref ca :: (kx ++ cx) := .tail _ (.tail _ (List.mem_append_right _ (List.mem_of_getElem? hj)))
            have nt := sp10.nS t hm
            have fin : ∀ (H11 : Hp) (c' : Col), Spl S L H11 ka ca kx cx ks cs → H11 na = some (.lst nl) → Stm H11 S L (n + 1 + 6 * (i + 1)) → Old S L H H11 → (OddV H11 c'.1 ∧ OddV H11 c'.2.1 ∧ OddV H11 c'.2.2.1 ∧ OddV H11 c'.2.2.2) →
                Spl S L (upd H11 t (.lst (colU c'))) ka ca kx cx ks (cs.set j c') ∧ ks.length = B.ks.length ∧ (cs.set j c').length = B.cs.length ∧
                  (upd H11 t (.lst (colU c'))) na = some (.lst nl) ∧ Stm (upd H11 t (.lst (colU c'))) S L (n + 1 + 6 * (i + 1)) ∧ Old S L H (upd H11 t (.lst (colU c'))) := fun H11 c' sp h11 st11 od11 ov11 =>
              ⟨sp.setC hj hc ov11, lk5, (by rw [List.length_set]; exact lc5), (by rw [upd_ne (nrow t hm)]; exact h11), st11.upd nt.1 nt.2, Old.set od11 (frA t hm)⟩
            have od10 := od8.trans od10
            have wcc := sp10.wc c (List.mem_of_getElem? hc)
            walk_at "ls"
            refine ite2 (fun e3 => ?_) (fun e3 => ?_)
            · walk_at "ls"
              refine ⟨(by show 1 ≤ sizeLine; decide), fun fl hfl => ?_⟩
              refine ⟨(by show 8 ≤ sizeLine; decide), fun rl hrl => ?_⟩
              have sf : Same H10 (upd H10 fl (.lst [.str "fall"])) := same_new hfl
              have sr : Same (upd H10 fl (.lst [.str "fall"])) (upd (upd H10 fl (.lst [.str "fall"])) rl (.lst [.str "fall", .str "clear", .str "bar", .str "Fall", .str "", .non, .int 3, .ref fl])) := same_new hrl
              have st12 := (st10.keep sf).keep sr
              have nrl := (st10.keep sf).noneS hrl
              have nfl := st10.noneS hfl
              have hfl2 := sr _ _ (upd_same (H := H10) (a := fl) (o := .lst [.str "fall"]))
              refine ⟨S, L, rl, _, _, rfl, st12, by omega, .inl (.inl upd_same), nrl.1, nrl.2, (by show 0 < 8; decide), (by show 8 ≤ 1000000; decide), fun H13 v hv st13 od13 => ?_⟩
              have od1013 : Old S L H10 H13 := (Old.same (sf.trans sr)).trans od13
              have sp13 := sp10.old st10 od1013
              have ht13 := od1013 _ _ nt.1 nt.2 ht
              have ovv : OddV H13 v := by
                simp only [List.mem_cons, List.not_mem_nil, or_false] at hv
                rcases hv with rfl | rfl | rfl | rfl | rfl | rfl | rfl | rfl
                · exact .str _ (by decide +kernel)
                · exact .str _ (by decide +kernel)
                · exact .str _ (by decide +kernel)
                · exact .str _ (by decide +kernel)
                · exact .str _ (by decide +kernel)
                · exact .non
                · exact .int _ (by decide)
                · exact .lst fl "fall" (by decide +kernel) (od13 _ _ nfl.1 nfl.2 hfl2)
              refine ⟨_, rfl, t, _, 3, 3, rfl, rfl, ht13, rfl, ?_⟩
              exact ⟨_, _, _, _, _, ks, _, rfl, fin H13 (c.1, c.2.1, c.2.2.1, v) sp13 (od1013 _ _ nnS.1 nnS.2 h10n) (st13.mono (by omega)) (od10.trans od1013) ⟨wcc.1.old st10 od1013, wcc.2.1.old st10 od1013, wcc.2.2.1.old st10 od1013, ovv⟩⟩
            · walk_at "ls"
              refine ⟨(by show 4 ≤ sizeLine; decide), fun xl hxl => ?_⟩
              have sx : Same H10 (upd H10 xl (.lst [.int 0, .int 0, .int 1, .int 2])) := same_new hxl
              have st12 := st10.keep sx
              have sp12 := sp10.old st10 (.same sx)
              have ht12 := sx _ _ ht
              have w2 : ∃ (d : Nat), atI [V.int 0, V.int 0, V.int 1, V.int 2] (wy - 1) = some (.int (d : Int)) ∧ d < 3 := by
                have e' : wy ≠ 0 := fun z => e (by rw [z]; rfl)
                have e3' : wy ≠ 5 := fun z => e3 (by rw [z]; rfl)
                obtain ⟨w', rfl⟩ := Int.eq_ofNat_of_zero_le w0
                match w', (by omega : 0 < w' ∧ w' < 5) with
                | 1, _ => exact ⟨0, rfl, by decide⟩
                | 2, _ => exact ⟨0, rfl, by decide⟩
                | 3, _ => exact ⟨1, rfl, by decide⟩
                | 4, _ => exact ⟨2, rfl, by decide⟩
              obtain ⟨d, hd, d3⟩ := w2
              walk_at "ls"
              refine ⟨xl, _, _, _, rfl, rfl, .inl (.inl upd_same), hd, ?_⟩
              refine ⟨t, _, d, d, rfl, rfl, ht12, ?_, ?_⟩
              · match d, d3 with
                | 0, _ => rfl
                | 1, _ => rfl
                | 2, _ => rfl
              have ovs := ov10.same sx
              match d, d3 with
              | 0, _ => exact ⟨_, _, _, _, _, ks, _, rfl, fin _ (wv, c.2.1, c.2.2.1, c.2.2.2) sp12 (sx _ _ h10n) (st12.mono (by omega)) (od10.trans (.same sx)) ⟨ovs, wcc.2.1.same sx, wcc.2.2.1.same sx, wcc.2.2.2.same sx⟩⟩
              | 1, _ => exact ⟨_, _, _, _, _, ks, _, rfl, fin _ (c.1, wv, c.2.2.1, c.2.2.2) sp12 (sx _ _ h10n) (st12.mono (by omega)) (od10.trans (.same sx)) ⟨wcc.1.same sx, ovs, wcc.2.2.1.same sx, wcc.2.2.2.same sx⟩⟩
              | 2, _ => exact ⟨_, _, _, _, _, ks, _, rfl, fin _ (c.1, c.2.1, wv, c.2.2.2) sp12 (sx _ _ h10n) (st12.mono (by omega)) (od10.trans (.same sx)) ⟨wcc.1.same sx, wcc.2.1.same sx, ovs, wcc.2.2.2.same sx⟩⟩
          · exact ⟨_, _, _, _, _, ks, cs, rfl, sp8, lk5, lc5, h8n, st8.mono (by omega), od8⟩
    · rintro σ H5 ⟨v2, v3, v7, v8, v9, ks, cs, rfl, sp5, lk5, lc5, h5n, st5, od5⟩
      walk_at "ls"
      refine ⟨(by show 2 ≤ sizeLine; decide), fun rr hrr => ?_⟩
      have s5 : Same H5 (upd H5 rr (.lst [.ref ka, .ref ca])) := same_new hrr
      exact q _ rr ka ca kx cx ks cs upd_same (sp5.old st5 (.same s5)) lk5 lc5 ((st5.mono (by omega)).keep s5) (od5.trans (.same s5))
end
end Ls
namespace Ls
open PySem PySem.Spec PyProof.Rows L2
/-! ### short steps -/
local macro_rules | `(tactic| walk_at "ls_ne") => `(tactic| first | assumption | exact Ne.symm (by assumption) | exact ne_of_none (by assumption) (by assumption) | exact Ne.symm (ne_of_none (by assumption) (by assumption)))
local macro_rules | `(tactic| walk_at "ls_hp") => `(tactic| first
  | with_reducible assumption
  | exact upd_same
  | exact Eq.trans (upd_ne (by walk_at "ls_ne")) (by walk_at "ls_hp"))
local macro_rules | `(tactic| walk_at "ls_st") => `(tactic| first
  | with_reducible assumption
  | exact Stm.upd (by walk_at "ls_st") (by first | walk_at "ls_ne" | exact (Stm.noneS (by assumption) (by assumption)).1) (by first | walk_at "ls_ne" | exact (Stm.noneS (by assumption) (by assumption)).2))
local macro_rules | `(tactic| walk_at "ls1") => `(tactic| first
  | refine ⟨_, rfl, ?_⟩
  | refine ⟨_, _, rfl, rfl, ?_⟩
  | refine ⟨_, _, _, _, rfl, rfl, .inl (.inl (by walk_at "ls_hp")), rfl, ?_⟩
  | refine ⟨_, _, _, _, rfl, rfl, (by walk_at "ls_hp"), rfl, ?_⟩
  | refine ⟨rfl, _, rfl, ?_⟩
  | refine ⟨.inl ⟨rfl, _, .inl (.inl (by walk_at "ls_hp"))⟩, ?_⟩)
local macro_rules | `(tactic| walk_at "ls") => `(tactic| repeat (walk_at "ls1"))

/-! ### what may stand among the checks -/
def ChkV (xa : Addr) (H : Hp) (v : V) : Prop := (∃ z, v = .str z ∧ okB 100 z = true) ∨ v = .int 5 ∨ v = .non ∨ ∃ t z, v = .ref t ∧ t ≠ xa ∧ H t = some (.lst [.str z]) ∧ okB 100 z = true
theorem ChkV.odd {xa : Addr} {H : Hp} {v : V} (h : ChkV xa H v) : OddV H v := by
  rcases h with ⟨z, rfl, hz⟩ | rfl | rfl | ⟨t, z, rfl, _, ht, hz⟩
  · exact .str z hz
  · exact .int 5 (by decide)
  · exact .non
  · exact .lst t z hz ht
theorem ChkV.cmp {K : PySem.W.Frag} {xa : Addr} {H : Hp} {v : V} (h : ChkV xa H v) : Cmp K H v := by
  have f1 : ∀ z : Str, okB 100 z = true → Flat (.str z) := fun z h => ⟨by simp [PyData.canLay0, okB_strOk h], by simp [PyData.depth]⟩
  rcases h with ⟨z, rfl, hz⟩ | rfl | rfl | ⟨t, z, rfl, _, ht, hz⟩
  · exact ⟨_, .str z, f1 z hz⟩
  · exact ⟨_, .int 5, ⟨by simp [PyData.canLay0], by simp [PyData.depth]⟩⟩
  · exact ⟨_, .non, ⟨by simp [PyData.canLay0], by simp [PyData.depth]⟩⟩
  · exact ⟨_, .lst (.inl (.inl ht)) (.cons (.str z) .nil), ⟨by simp [PyData.canLay0, PyData.canLayAll0, okB_strOk hz], by simp [PyData.depth, PyData.depthAll]⟩⟩
theorem ChkV.old {xa : Addr} {H H' : Hp} {S L : Addr} {n : Nat} {v : V} (h : ChkV xa H v) (st : Stm H S L n) (od : Old S L H H') : ChkV xa H' v := by
  rcases h with h | h | h | ⟨t, z, rfl, hn, ht, hz⟩
  · exact .inl h
  · exact .inr (.inl h)
  · exact .inr (.inr (.inl h))
  · obtain ⟨ns, d, c, m, h1, h2, _⟩ := st
    refine .inr (.inr (.inr ⟨t, z, rfl, hn, od _ _ (fun e => ?_) (fun e => ?_) ht, hz⟩))
    · subst e
      rw [h1] at ht
      cases ht
    · subst e
      rw [h2] at ht
      cases ns with
      | nil => cases ht
      | cons a r => rw [List.map_cons] at ht; have := HO.lst.inj (Option.some.inj ht); injection this with q; cases q
theorem ChkV.upd {xa : Addr} {H : Hp} {v : V} {o : HO} (h : ChkV xa H v) : ChkV xa (upd H xa o) v := by
  rcases h with h | h | h | ⟨t, z, rfl, hn, ht, hz⟩
  · exact .inl h
  · exact .inr (.inl h)
  · exact .inr (.inr (.inl h))
  · exact .inr (.inr (.inr ⟨t, z, rfl, hn, by rw [upd_ne hn]; exact ht, hz⟩))
/-! ### a book that is made -/
theorem cols_strs {kn : List Str} : ∀ {cs : List Col} {taken : List Str}, colsErr kn taken cs = none → ∀ c ∈ cs, c.1 = .str (strOf c.1) ∧ c.2.1 = .str (strOf c.2.1) ∧ c.2.2.1 = .str (strOf c.2.2.1) ∧ c.2.2.2 = .str (strOf c.2.2.2)
  | [], _, _, _, h => nomatch h
  | c :: r, taken, h, c2, hm => by
    unfold colsErr at h
    cases hc : colErr kn taken c with
    | some b => rw [hc] at h; cases h
    | none =>
      rw [hc] at h
      rcases List.mem_cons.mp hm with rfl | hm
      · unfold colErr at hc
        cases hn : nameErr (kn ++ taken) c2.1 with
        | some b => rw [hn] at hc; cases hc
        | none =>
          rw [hn] at hc
          simp only at hc
          split at hc
          · rename_i w1
            split at hc
            · rename_i w2
              split at hc
              · rename_i w3
                exact ⟨name_str (nameErr_none hn).1, word_str w1, word_str w2, word_str w3⟩
              · cases hc
            · cases hc
          · cases hc
      · exact cols_strs h c2 hm
theorem made_strs {ks : List (V × V)} {cs : List Col} {ck : List V} (h : bookErr ks cs ck = none) : (∀ k ∈ ks, k.1 = .str (strOf k.1)) ∧ ∀ c ∈ cs, c.1 = .str (strOf c.1) ∧ c.2.1 = .str (strOf c.2.1) ∧ c.2.2.1 = .str (strOf c.2.2.1) ∧ c.2.2.2 = .str (strOf c.2.2.2) := by
  unfold bookErr at h
  cases h1 : kindsErr [] ks with
  | some x => rw [h1] at h; cases h
  | none =>
    rw [h1] at h
    cases h2 : colsErr (knOf ks) [] cs with
    | some x => rw [h2] at h; cases h
    | none =>
      refine ⟨fun k hk => ?_, cols_strs h2⟩
      have e := (kinds_good h1).1
      obtain ⟨i, hi⟩ := List.mem_iff_getElem?.mp hk
      have e2 := congrArg (fun l => l[i]?) e
      simp only [knOf, List.getElem?_map, hi, Option.map_some] at e2
      exact Option.some.inj e2
/-! ### the texts of what is told -/
def dOf : V → PyData
  | .str z => .str z
  | .bl b => .bool b
  | .int i => .int i
  | _ => .none
theorem dp_dOf {K : PySem.W.Frag} {H : Hp} {v : V} (h : (∃ z, v = .str z) ∨ ∃ b, v = .bl b) : Dp K H v (dOf v) := by
  rcases h with ⟨z, rfl⟩ | ⟨b, rfl⟩
  · exact .str z
  · exact .bl b
theorem tups_dp {α : Type} {K : PySem.W.Frag} {H : Hp} {f : α → List V} {g : α → List PyData} : ∀ {l : List α} {xs : List V}, TupsAt H xs (l.map f) → (∀ a ∈ l, DpAll K H (f a) (g a)) → DpAll K H xs (l.map fun a => .tuple (g a))
  | [], _, .nil, _ => .nil
  | a :: l, _, .cons ⟨t, e, ht⟩ r, h => by
    subst e
    exact .cons (.tup (.inl (.inl ht)) (h a (.head _))) (tups_dp r fun b hb => h b (.tail _ hb))
def kD (k : V × V) : List PyData := [dOf k.1, dOf k.2]
def cD (c : Col) : List PyData := [dOf c.1, dOf c.2.1, dOf c.2.2.1, dOf c.2.2.2]
def madeD (ks : List (V × V)) (cs : List Col) : PyData := .tuple [.str "made", .list (ks.map fun k => .tuple (kD k)), .list (cs.map fun c => .tuple (cD c))]
theorem dok_dOf {v : V} {H : Hp} (h : OddV H v) (h2 : (∃ z, v = .str z) ∨ ∃ b, v = .bl b) : DOk 0 100 (dOf v) := by
  rcases h2 with ⟨z, rfl⟩ | ⟨b, rfl⟩
  · cases h with
    | str z h => exact DOk.str h
  · exact DOk.bool b
/-- a pair of a word and an odd thing, as data -/
theorem odd_dpx {K : PySem.W.Frag} {H : Hp} {v : V} (h : OddV H v) : ∃ d : V → PyData, (d v).depth ≤ 2 ∧ ∀ (w : Str) (H' : Hp) (t : Addr), okB 100 w = true → Same H H' → H' t = some (.tup [.str w, v]) → DpX K H' (.ref t) (.tuple [.str w, d v]) ∧ (PyData.tuple [.str w, d v]).showable = true ∧ (PyData.tuple [.str w, d v]).depth ≤ 60 ∧ (PyData.tuple [.str w, d v]).shown.length ≤ sizeLine := by
  have flat : ∀ (d : PyData), DOk 1 300 d → (∀ H', Same H H' → Dp K H' v d) → ∃ d : V → PyData, (d v).depth ≤ 2 ∧ ∀ (w : Str) (H' : Hp) (t : Addr), okB 100 w = true → Same H H' → H' t = some (.tup [.str w, v]) → DpX K H' (.ref t) (.tuple [.str w, d v]) ∧ (PyData.tuple [.str w, d v]).showable = true ∧ (PyData.tuple [.str w, d v]).depth ≤ 60 ∧ (PyData.tuple [.str w, d v]).shown.length ≤ sizeLine := fun d hd hp =>
    ⟨fun _ => d, Nat.le_trans hd.dp (by decide), fun w H' t hw s ht => by
      have ok : DOk 2 602 (.tuple [.str w, d]) := DOk.tuple' (k := 1) (m := 300) (n := 2) (fun x hx => by
        rcases List.mem_cons.mp hx with rfl | hx
        · exact (DOk.str hw).mono (by decide) (by decide)
        · rw [List.mem_singleton.mp hx]
          exact hd) (Nat.le_refl _)
      exact ⟨.inl ⟨.tup (.inl (.inl ht)) (.cons (.str w) (.cons (hp H' s) .nil)), ok.nd⟩, ok.fits (by decide) (by decide)⟩⟩
  cases h with
  | str z h => exact flat (.str z) ((DOk.str h).mono (by decide) (by decide)) fun H' s => .str z
  | int i h => exact flat (.int i) ((DOk.int (Nat.lt_of_le_of_lt h (by decide +kernel))).mono (Nat.zero_le _) (Nat.le_refl _)) fun H' s => .int i
  | non => exact flat .none (DOk.none.mono (Nat.zero_le _) (Nat.le_refl _)) fun H' s => .non
  | bl b => exact flat (.bool b) ((DOk.bool b).mono (Nat.zero_le _) (Nat.le_refl _)) fun H' s => .bl b
  | tup t z h e => exact flat (.tuple [.str z]) ((DOk.tuple' (k := 0) (m := 100) (n := 1) (fun x hx => by rw [List.mem_singleton.mp hx]; exact DOk.str h) (Nat.le_refl _)).mono (by decide) (by decide)) fun H' s => .tup (.inl (.inl (s _ _ e))) (.cons (.str z) .nil)
  | lst t z h e => exact flat (.list [.str z]) ((DOk.list' (k := 0) (m := 100) (n := 1) (fun x hx => by rw [List.mem_singleton.mp hx]; exact DOk.str h) (Nat.le_refl _)).mono (by decide) (by decide)) fun H' s => .lst (.inl (.inl (s _ _ e))) (.cons (.str z) .nil)
  | dct t e =>
    refine ⟨fun _ => .dict [], by simp [PyData.depth, PyData.depthKv], fun w H' t2 hw s ht => ⟨.inr ⟨t2, t, w, rfl, ht, s _ _ e, rfl⟩, ?_, ?_, ?_⟩⟩
    · simp [PyData.showable, PyData.showableAll, PyData.showableKv]
    · simp [PyData.depth, PyData.depthAll, PyData.depthKv]
    · have hx := okB_ch hw
      have e1 := StrLaws.reprText_len w hx
      have e2 := okB_len hw
      have e3 := tupleText_len_le [reprText w, (PyData.dict []).shown]
      have e4 : (PyData.dict []).shown.length = 2 := by decide +kernel
      have e5 : (PyData.tuple [.str w, .dict []]).shown = tupleText [reprText w, (PyData.dict []).shown] := by simp [PyData.shown, PyData.shownAll]
      rw [e5]
      simp only [List.map_cons, List.map_nil, List.sum_cons, List.sum_nil, List.length_cons, List.length_nil] at e3
      exact Nat.le_trans (show _ ≤ 2000 by omega) (by decide)
/-- what is told of an error stands among what was handed in -/
theorem bookErr_val {ks : List (V × V)} {cs : List Col} {ck : List V} {e : BkE} (h : bookErr ks cs ck = some e) : (∃ k ∈ ks, e.val = k.1) ∨ (∃ c ∈ cs, e.val = c.1 ∨ e.val = c.2.1 ∨ e.val = c.2.2.1 ∨ e.val = c.2.2.2) ∨ e.val ∈ ck := by
  have hk : ∀ {ks : List (V × V)} {taken : List Str} {x : Bool × V}, kindsErr taken ks = some x → ∃ k ∈ ks, x.2 = k.1 := by
    intro ks
    induction ks with
    | nil => intro taken x h; cases h
    | cons k r ih =>
      intro taken x h
      unfold kindsErr at h
      cases hn : nameErr taken k.1 with
      | some b => rw [hn] at h; cases h; exact ⟨k, .head _, rfl⟩
      | none =>
        rw [hn] at h
        obtain ⟨k2, h2, e2⟩ := ih h
        exact ⟨k2, .tail _ h2, e2⟩
  have hc : ∀ {kn : List Str} {cs : List Col} {taken : List Str} {x : ColE}, colsErr kn taken cs = some x → ∃ c ∈ cs, (BkE.col x).val = c.1 ∨ (BkE.col x).val = c.2.1 ∨ (BkE.col x).val = c.2.2.1 ∨ (BkE.col x).val = c.2.2.2 := by
    intro kn cs
    induction cs with
    | nil => intro taken x h; cases h
    | cons c r ih =>
      intro taken x h
      unfold colsErr at h
      cases hn : colErr kn taken c with
      | some b =>
        rw [hn] at h
        cases h
        refine ⟨c, .head _, ?_⟩
        unfold colErr at hn
        split at hn
        · cases hn; exact .inl rfl
        · split at hn
          · split at hn
            · split at hn
              · cases hn
              · cases hn; exact .inr (.inr (.inr rfl))
            · cases hn; exact .inr (.inr (.inl rfl))
          · cases hn; exact .inr (.inl rfl)
      | none =>
        rw [hn] at h
        obtain ⟨k2, h2, e2⟩ := ih h
        exact ⟨k2, .tail _ h2, e2⟩
  unfold bookErr at h
  cases h1 : kindsErr [] ks with
  | some x =>
    rw [h1] at h
    cases h
    obtain ⟨k, m, e⟩ := hk h1
    exact .inl ⟨k, m, e⟩
  | none =>
    rw [h1] at h
    cases h2 : colsErr (knOf ks) [] cs with
    | some x =>
      rw [h2] at h
      cases h
      exact .inr (.inl (hc h2))
    | none =>
      rw [h2] at h
      cases h3 : checksErr (menuU (knOf ks) (cnOf cs)) ck with
      | some v =>
        rw [h3] at h
        cases h
        refine .inr (.inr ?_)
        unfold checksErr at h3
        exact List.mem_of_find?_eq_some h3
      | none => rw [h3] at h; cases h
section
variable {P : Program} {w : World} {K : PySem.W.Frag} {mg : Str → Option Value} {base : Heap}
/-! ### law -/
abbrev s_law : Stmt := topS 44
theorem sc_law : FnScope ["_law_script", "_law_stream", "_law_turn", "_law_b", "_law_kinds", "_law_columns", "_law_checks", "_law_menu", "_law_k", "_law_odd", "_law_due_here", "_law_kind", "_law_column"] ["_law_script"] (defScope s_law) := ⟨rfl, rfl, rfl, by decide +kernel, rfl, by decide +kernel, by decide +kernel⟩
abbrev N_law : List Str := ["_law_script", "_law_stream", "_law_turn", "_law_b", "_law_kinds", "_law_columns", "_law_checks", "_law_menu", "_law_k", "_law_odd", "_law_due_here", "_law_kind", "_law_column"]
def spLaw (K : PySem.W.Frag) : Sp := fun vs H Q _ => ∃ (a : Addr) (ns : List Int), vs = [.ref a] ∧ SqL K H a (ns.map V.int) ∧ ns.length ≤ 63 ∧ ∀ H', Q (.bl true) H'
theorem ok_law {f : Addr} {fd : FuncData} (F : Fun K "law" "law" s_law f fd) (T : Bt mg) (O__law_draw : Own P w K mg base CX0 1 "_law_draw" ["_law_stream", "_law_many"] spDraw)
    (O__law_pick : Own P w K mg base CX0 2 "_law_pick" ["_law_stream", "_law_things"] (spPick K)) (O__law_rules : Own P w K mg base CX0 5 "_law_rules" ["_law_stream", "_law_many", "_law_most"] spRules)
    (O__law_spoiled : Own P w K mg base CX0 4 "_law_spoiled" ["_law_stream", "_law_b"] spSpoil) (O__law_mixed : Own P w K mg base CX0 2 "_law_mixed" ["_law_stream", "_law_things"] (spMixed K))
    (O__law_all_checks : Own P w K mg base CX0 1 "_law_all_checks" ["_law_b"] spAll) (O__law_due : Own P w K mg base CX0 3 "_law_due" ["_law_kinds", "_law_columns", "_law_checks"] (spDue K))
    (O__law_end : Own P w K mg base CX0 7 "_law_end" ["_law_kinds", "_law_columns", "_law_checks"] (spEnd K)) (O__law_same : OwnG P w K mg base CX0 1 "_law_same" ["_law_found", "_law_due_here"] (spSame K)) : FnG P w K mg base CX0 8 f fd ["_law_script"] (spLaw K) := by
  refine fun_okG F sc_law (fun vs H Q E h => ?_) (fun cdv A outer s H vs Q E hgd hr h => ?_)
  · obtain ⟨a, ns, rfl, _⟩ := h
    rfl
  · obtain ⟨a, ns, rfl, ha, hl, q⟩ := h
    have hu := hu_of hr
    refine ⟨_, (pss_cons (ps_set (i := 1) sc_law.nd rfl (Or.inl rfl) (pe_lst (pa_cons (pe_callTy (list_of K) (by rfl) T.m_list (by decide +kernel) (pa_cons (pv 0) pa_nil)) (pa_cons pe_int (pa_cons pe_int (pa_cons pe_int pa_nil))))))
      (pss_cons (ps_for PassesOwn.never rfl (pi_range1 rfl T.m_range (pa_cons pe_int pa_nil)) (pg_name (i := 2) sc_law.nd rfl (Or.inl rfl)) (pss_cons (ps_set (i := 3) sc_law.nd rfl (Or.inl rfl) (own_call O__law_rules hr (by first | decide | omega) (pa_cons (pv 1) (pa_cons pe_int (pa_cons pe_int pa_nil)))))
      (pss_cons (ps_asg (own_call O__law_spoiled hr (by first | decide | omega) (pa_cons (pv 1) (pa_cons (pv 3) pa_nil))) (pg_lst rfl (pgs_cons (pg_name (i := 4) sc_law.nd rfl (Or.inl rfl)) (pgs_cons (pg_name (i := 5) sc_law.nd rfl (Or.inl rfl)) pgs_nil))))
      (pss_cons (ps_par (i := 6) (j := 7) (by rfl) sc_law.nd rfl rfl (by decide) rfl rfl (pa_cons (own_call O__law_mixed hr (by first | decide | omega) (pa_cons (pv 1) (pa_cons (pe_op op_cat (pe_dget hu (pv 3) pe_str (fun _ _ => rfl)) (pe_slice sl_list (pe_dget hu (pv 3) pe_str (fun _ _ => rfl)) po_none (po_some pe_int))) pa_nil))) (pa_cons (own_call O__law_all_checks hr (by first | decide | omega) (pa_cons (pv 3) pa_nil)) pa_nil)) (by rfl))
      (pss_cons (ps_for PassesOwn.never rfl (pi_range1 rfl T.m_range (pa_cons (pe_ix (ixL K) (pe_lst (pa_cons pe_int (pa_cons pe_int (pa_cons pe_int (pa_cons pe_int pa_nil))))) (own_call O__law_draw hr (by first | decide | omega) (pa_cons (pv 1) (pa_cons pe_int pa_nil))) (fun _ _ => rfl)) pa_nil)) (pg_name (i := 8) sc_law.nd rfl (Or.inl rfl)) (pss_cons (ps_set (i := 9) sc_law.nd rfl (Or.inl rfl) (pe_lst (pa_cons pe_str (pa_cons pe_str (pa_cons pe_str (pa_cons pe_str (pa_cons (pe_op op_add_str pe_str (pe_ix (ixT K) (pe_ix (ixL K) (pe_dget hu (pv 3) pe_str (fun _ _ => rfl)) pe_int (fun _ _ => rfl)) pe_int (fun _ _ => rfl))) (pa_cons pe_int (pa_cons pe_non (pa_cons (pe_lst (pa_cons (pe_ix (ixL K) (pv 7) pe_int (fun _ _ => rfl)) pa_nil)) (pa_cons (pe_ix (ixL K) (pv 7) pe_int (fun _ _ => rfl)) pa_nil)))))))))))
      (pss_one (ps_expr (pe_bm PySem.F.plainAttrs_list PySem.F.slot_list_insert PySem.F.type_list_insert mt_insert (pv 6) (pa_cons (own_call O__law_draw hr (by first | decide | omega) (pa_cons (pv 1) (pa_cons (pe_op op_add (pe_callB (len_seq K) (by rfl) T.m_len (by decide +kernel) (pa_cons (pv 6) pa_nil)) pe_int) pa_nil))) (pa_cons (own_call O__law_pick hr (by first | decide | omega) (pa_cons (pv 1) (pa_cons (pv 9) pa_nil))) pa_nil)))))))
      (pss_cons (ps_set (i := 10) sc_law.nd rfl (Or.inl rfl) (own_call O__law_due hr (by first | decide | omega) (pa_cons (pv 4) (pa_cons (pv 5) (pa_cons (pv 6) pa_nil)))))
      (pss_cons (ps_if (pt_cmpR op_isN (pv 10) pe_non (nomark _)) (pss_one (ps_set (i := 10) sc_law.nd rfl (Or.inl rfl) (pe_tup (pa_cons pe_str (pa_cons (pe_lc (own := [("_law_kind", 11)]) (g := gName 11) (by rfl) sc_law.nd (pi_list (pv 4)) (blkOk_by (own := [("_law_kind", 11)]) (N := N_law) (sc := defScope s_law) (by decide +kernel)) (fun _ _ _ _ _ => (pg_name (i := 11) sc_law.nd rfl (Or.inl rfl) (Or.inr rfl))) (fun _ _ _ _ _ => pts_nil) (fun _ _ _ _ _ => (pe_callTy (tuple_of K) (by rfl) T.m_tuple (by decide +kernel) (pa_cons (pv 11) pa_nil)))) (pa_cons (pe_lc (own := [("_law_column", 12)]) (g := gName 12) (by rfl) sc_law.nd (pi_list (pv 5)) (blkOk_by (own := [("_law_column", 12)]) (N := N_law) (sc := defScope s_law) (by decide +kernel)) (fun _ _ _ _ _ => (pg_name (i := 12) sc_law.nd rfl (Or.inl rfl) (Or.inr rfl))) (fun _ _ _ _ _ => pts_nil) (fun _ _ _ _ _ => (pe_callTy (tuple_of K) (by rfl) T.m_tuple (by decide +kernel) (pa_cons (pv 12) pa_nil)))) pa_nil)))))) pss_nil)
      (pss_one (ps_if (pt_not (pt_val (own_callG O__law_same hgd hr (by first | decide | omega) (pa_cons (own_call O__law_end hr (by first | decide | omega) (pa_cons (pv 4) (pa_cons (pv 5) (pa_cons (pv 6) pa_nil)))) (pa_cons (pv 10) pa_nil))))) (pss_one (ps_ret pe_bl)) pss_nil)))))))))
      (pss_one (ps_ret pe_bl)))), ?_⟩
    walk_at "ls"
    refine ⟨a, _, rfl, .inl ha, fun L hL => ⟨(by show 4 ≤ sizeLine; decide), fun S hS => ?_⟩⟩
    have nSL : S ≠ L := fun e => by rw [e, upd_same] at hS; cases hS
    refine at_heap (φ := fun H1 => Stm H1 S L 0) ⟨ns, 0, 0, 0, upd_same, (by rw [upd_ne nSL.symm]; exact upd_same), by decide, by decide, by decide, by decide, by decide⟩ ?_
    intro H1 st1
    refine ⟨8, rfl, by decide, by decide, ?_⟩
    refine for_it (walk_range (n := 8)) (fun i σ H2 => ∃ v2 v3 v4 v5 v6 v7 v8 v9 v10 : Option V, σ = [some (.ref a), some (.ref S), v2, v3, v4, v5, v6, v7, v8, v9, v10, none, none] ∧ Stm H2 S L (500 * i)) ⟨none, none, none, none, none, none, none, none, none, rfl, st1⟩ (fun _ _ _ _ _ => trivial) ?_ ?_
    · rintro i x σ Hz H2 hi ⟨v2, v3, v4, v5, v6, v7, v8, v9, v10, rfl, st2⟩ ⟨rfl, rfl⟩
      walk_at "ls"
      refine ⟨S, L, _, 3, 4, rfl, st2, by omega, by decide, by decide, by decide, by decide, fun H3 b B ck hB hBk hBc hb hck hs3 st3 od3 => ?_⟩
      walk_at "ls"
      refine ⟨S, L, b, _, B, ck, rfl, st3, by omega, hs3, hB, fun H4 r ka ca kx cx ks cs hr4 sp4 lk lc st4 od4 => ?_⟩
      refine ⟨r, _, rfl, .inl (.inl hr4), rfl, _, _, rfl, _, _, rfl, rfl, ?_⟩
      have hs4 := hs3.old st3 od4
      obtain ⟨kb, cb, eb, kbx, cbx, hb4, hkb, hkbt, hcb, hcbt, heb, nkb, ncb, neb⟩ := id hs4
      walk_at "ls"
      refine ⟨b, _, rfl, dg_checks hb4, ?_⟩
      walk_at "ls"
      refine ⟨b, _, rfl, dg_checks hb4, ?_⟩
      walk_at "ls"
      refine ⟨eb, _, rfl, .inl (.inl heb), fun p hp => ?_⟩
      rw [show (some (2 : Int)) = some ((2 : Nat) : Int) from rfl, cut_take]
      have nep : eb ≠ p := ne_of_none heb hp
      have lck : ck.length ≤ 51 := Nat.le_trans hck.length_le (menu_small hB)
      refine ⟨_, _, _, _, rfl, rfl, (by rw [upd_ne nep]; exact heb), upd_same, ?_, fun p2 hp2 => ?_⟩
      · rw [List.length_take, List.length_map]
        exact Nat.le_trans (show _ ≤ 1000 by omega) (by decide)
      have s4p : Same H4 (upd (upd H4 p (.lst ((ck.map V.str).take 2))) p2 (.lst (ck.map V.str ++ (ck.map V.str).take 2))) := (same_new hp).trans (same_new hp2)
      have lxs : (ck.map V.str ++ (ck.map V.str).take 2).length ≤ 53 := by
        rw [List.length_append, List.length_take, List.length_map]
        omega
      refine ⟨S, L, p2, _, _, rfl, st4.keep s4p, by omega, .inl (.inl upd_same), by omega, fun H5 xa ys hxa pm h5x nx st5 od5 => ?_⟩
      have od45 : Old S L H4 H5 := (Old.same s4p).trans od5
      have hxa4 : H4 xa = none := s4p.free hxa
      have ly : ys.length ≤ 53 := by rw [pm.length_eq]; exact lxs
      have hys : ∀ v ∈ ys, ChkV xa H5 v := fun v hv => by
        have hv := pm.subset hv
        have hv : v ∈ ck.map V.str := by
          rcases List.mem_append.mp hv with h | h
          · exact h
          · exact List.mem_of_mem_take h
        obtain ⟨z, hz, rfl⟩ := List.mem_map.mp hv
        exact .inl ⟨z, rfl, okB_mono (menu_ok hB z (hck.subset hz)) (by decide)⟩
      have hs5 := hs4.old st4 od45
      -- the menu
      walk_at "ls"
      refine ⟨S, L, b, B, ck, rfl, hs5, hB, fun H6 mp hmp h6m s6 => ?_⟩
      have st6 := st5.keep s6
      have h6x := s6 _ _ h5x
      have nmx : xa ≠ mp := ne_of_none h5x hmp
      have nm := st5.noneS hmp
      refine ⟨_, _, rfl, ?_⟩
      -- odd checks
      obtain ⟨k0, ksr, eks⟩ : ∃ k0 ksr, B.ks = k0 :: ksr := by
        have := hB.nk
        cases h : B.ks with
        | nil => rw [h] at this; cases this
        | cons a r => exact ⟨a, r, rfl⟩
      have hk0 : Nm k0.1 := hB.nm _ (List.mem_append_left _ (by rw [eks]; exact .head _))
      obtain ⟨m0, mr, emn⟩ : ∃ m0 mr, menu B = m0 :: mr := by
        have := menu_pos B
        cases h : menu B with
        | nil => rw [h] at this; cases this
        | cons a r => exact ⟨a, r, rfl⟩
      have hm0 : okB 100 m0 = true := okB_mono (menu_ok hB m0 (by rw [emn]; exact .head _)) (by decide)
      refine ⟨(by show 4 ≤ sizeLine; decide), fun rl hrl => ?_⟩
      have s6r : Same H6 (upd H6 rl (.lst [.int 0, .int 0, .int 1, .int 2])) := same_new hrl
      have nrl := st6.noneS hrl
      walk_at "ls"
      refine ⟨S, L, _, 4, rfl, st6.keep s6r, by omega, by decide, by decide, fun H7 u u0 u1 st7 od7 => ?_⟩
      have w2 : ∃ (d : Nat), atI [V.int 0, V.int 0, V.int 1, V.int 2] u = some (.int (d : Int)) ∧ d < 3 := by
        obtain ⟨w', rfl⟩ := Int.eq_ofNat_of_zero_le u0
        match w', (by omega : w' < 4) with
        | 0, _ => exact ⟨0, rfl, by decide⟩
        | 1, _ => exact ⟨0, rfl, by decide⟩
        | 2, _ => exact ⟨1, rfl, by decide⟩
        | 3, _ => exact ⟨2, rfl, by decide⟩
      obtain ⟨d, hd, d3⟩ := w2
      refine ⟨rl, _, _, _, rfl, rfl, .inl (.inl (od7 _ _ nrl.1 nrl.2 upd_same)), hd, ?_⟩
      refine ⟨d, rfl, by omega, by omega, ?_⟩
      have od67 : Old S L H6 H7 := (Old.same s6r).trans od7
      refine for_it walk_range (fun j σ H8 => ∃ (v8 v9 : Option V) (ck2 : List V), σ = [some (.ref a), some (.ref S), some ((fun i : Nat => V.int (0 + (i : Int))) i), some (.ref b), some (.ref ka), some (.ref ca), some (.ref xa), some (.ref mp), v8, v9, v10, none, none] ∧ H8 xa = some (.lst ck2) ∧ (∀ v ∈ ck2, ChkV xa H8 v) ∧ ck2.length ≤ 53 + j ∧
          H8 mp = some (.lst ((menu B).map V.str)) ∧ Stm H8 S L (500 * i + 400 + 3 * j) ∧ Old S L H4 H8)
        ⟨v8, v9, ys, rfl, od67 _ _ nx.1 nx.2 h6x, fun v hv => ((hys v hv).old st5 (.same s6)).old st6 od67, ly, od67 _ _ nm.1 nm.2 h6m, st7.mono (by omega), (od45.trans (.same s6)).trans od67⟩ (fun _ _ _ _ _ => trivial) ?_ ?_
      · rintro j x σ Hz H8 hj ⟨v8, v9, ck2, rfl, h8x, h8c, l8, h8m, st8, od8⟩ ⟨rfl, rfl⟩
        obtain ⟨kb8, cb8, eb8, kbx8, cbx8, hb8, hkb8, hkbt8, _⟩ := id (hs4.old st4 od8)
        rw [eks] at hkbt8
        obtain ⟨kx0, kxr, ekx⟩ : ∃ kx0 kxr, kbx8 = kx0 :: kxr := by
          cases hkbt8 with
          | cons h r => exact ⟨_, _, rfl⟩
        subst ekx
        obtain ⟨ys0, hys0, t0, rfl, ht0⟩ := TupsAt.get (i := 0) hkbt8 rfl
        cases hys0
        walk_at "ls"
        refine ⟨b, _, rfl, dg_kinds hb8, ?_⟩
        refine ⟨kb8, _, 0, _, rfl, rfl, .inl (.inl hkb8), atI_nat (j := 0) rfl, ?_⟩
        refine ⟨t0, _, 0, _, rfl, rfl, .inl (.inl ht0), atI_nat (j := 0) rfl, ?_⟩
        refine ⟨_, _, rfl, rfl, ?_, ?_⟩
        · have := hk0.1.2.1
          have e : ("bar " : Str).length = 4 := by decide +kernel
          exact Nat.le_trans (show ("bar " : Str).length + k0.1.length ≤ 100 by omega) (by decide)
        walk_at "ls"
        rw [emn] at h8m
        refine ⟨mp, _, 0, _, rfl, rfl, .inl (.inl h8m), atI_nat (j := 0) rfl, ?_⟩
        refine ⟨(by show 1 ≤ sizeLine; decide), fun ml hml => ?_⟩
        have s1 : Same H8 (upd H8 ml (.lst [.str m0])) := same_new hml
        walk_at "ls"
        refine ⟨mp, _, 0, _, rfl, rfl, .inl (.inl (s1 _ _ h8m)), atI_nat (j := 0) rfl, ?_⟩
        refine ⟨(by show 9 ≤ sizeLine; decide), fun ol hol => ?_⟩
        have nol := (st8.keep s1).noneS hol
        have s2 : Same (upd H8 ml (.lst [.str m0])) (upd (upd H8 ml (.lst [.str m0])) ol (.lst [.str "put", .str "lone ", .str "fresh", .str "put zz", .str ("bar " ++ k0.1), .int 5, .non, .ref ml, .str m0])) := same_new hol
        have hml2 := s2 _ _ (upd_same (H := H8) (a := ml) (o := .lst [.str m0]))
        have nml : ml ≠ xa := Ne.symm (ne_of_none h8x hml)
        have h9x := s2 _ _ (s1 _ _ h8x)
        have h9o : (upd (upd H8 ml (.lst [.str m0])) ol (.lst [.str "put", .str "lone ", .str "fresh", .str "put zz", .str ("bar " ++ k0.1), .int 5, .non, .ref ml, .str m0])) ol = some (.lst [.str "put", .str "lone ", .str "fresh", .str "put zz", .str ("bar " ++ k0.1), .int 5, .non, .ref ml, .str m0]) := upd_same
        have st9 := (st8.keep s1).keep s2
        have s12 := s1.trans s2
        generalize upd (upd H8 ml (.lst [.str m0])) ol (.lst [.str "put", .str "lone ", .str "fresh", .str "put zz", .str ("bar " ++ k0.1), .int 5, .non, .ref ml, .str m0]) = H9 at *
        have l53 : ck2.length ≤ 60 := by omega
        -- checks.insert(..)
        refine ⟨_, rfl, .inl ⟨rfl, _, .inl (.inl h9x)⟩, ?_⟩
        walk_at "ls"
        refine ⟨xa, _, rfl, .inl (.inl (.inl h9x)), ?_⟩
        walk_at "ls"
        refine ⟨S, L, _, _, rfl, st9, by omega, by omega, by omega, fun H10 r r0 r1 st10 od10 => ?_⟩
        walk_at "ls"
        refine ⟨S, L, ol, _, _, rfl, st10, by omega, .inl (.inl (od10 _ _ nol.1 nol.2 h9o)), nol.1, nol.2, (by show 0 < 9; decide), (by show 9 ≤ 1000000; decide), fun H11 v hv st11 od11 => ?_⟩
        have od911 := od10.trans od11
        have od811 : Old S L H8 H11 := (Old.same s12).trans od911
        have h11x := od911 _ _ nx.1 nx.2 h9x
        have nmlS : ml ≠ S ∧ ml ≠ L := st8.noneS hml
        have cv : ChkV xa H11 v := by
          simp only [List.mem_cons, List.not_mem_nil, or_false] at hv
          rcases hv with rfl | rfl | rfl | rfl | rfl | rfl | rfl | rfl | rfl
          · exact .inl ⟨_, rfl, by decide +kernel⟩
          · exact .inl ⟨_, rfl, by decide +kernel⟩
          · exact .inl ⟨_, rfl, by decide +kernel⟩
          · exact .inl ⟨_, rfl, by decide +kernel⟩
          · exact .inl ⟨_, rfl, okB_mono (okB_append (show okB 4 "bar " = true by decide +kernel) (nm_ok hk0)) (by decide)⟩
          · exact .inr (.inl rfl)
          · exact .inr (.inr (.inl rfl))
          · exact .inr (.inr (.inr ⟨ml, m0, rfl, nml, od911 _ _ nmlS.1 nmlS.2 hml2, hm0⟩))
          · exact .inl ⟨_, rfl, hm0⟩
        refine ⟨xa, ck2, r, v, rfl, rfl, h11x, small1000 (by omega), r0, by omega, ?_⟩
        refine ⟨_, _, _, rfl, upd_same, fun y hy => ChkV.upd ?_, ?_, ?_, ((st11.mono (by omega)).upd nx.1 nx.2), Old.set (od8.trans od811) hxa4⟩
        · rcases List.mem_append.mp hy with h | h
          · rcases List.mem_append.mp h with h | h
            · exact (h8c y (List.mem_of_mem_take h)).old st8 od811
            · rw [List.mem_singleton.mp h]
              exact cv
          · exact (h8c y (List.mem_of_mem_drop h)).old st8 od811
        · rw [List.length_append, List.length_append, List.length_take, List.length_drop, List.length_singleton]
          omega
        · rw [upd_ne (Ne.symm nmx), emn]
          exact od811 _ _ nm.1 nm.2 h8m
      · rintro σ H8 ⟨v8, v9, ck2, rfl, h8x, h8c, l8, h8m, st8, od8⟩
        have sp8 := sp4.old st4 od8
        have l8 : ck2.length ≤ 60 := by omega
        clear hys h5x h6x h6m hs5 hs4 hb4 hkb hkbt hcb hcbt heb hr4
        have bk3 := hB.nk3
        have bc8 := hB.nc
        walk_at "ls"
        have tK : ∀ k ∈ ks, Thg K H8 k.1 := fun k hk => (sp8.wk k hk).1.thg
        have tC : ∀ c ∈ cs, Thg K H8 c.1 ∧ Thg K H8 c.2.1 ∧ Thg K H8 c.2.2.1 ∧ Thg K H8 c.2.2.2 := fun c hc => ⟨(sp8.wc c hc).1.thg, (sp8.wc c hc).2.1.thg, (sp8.wc c hc).2.2.1.thg, (sp8.wc c hc).2.2.2.thg⟩
        have tX : ∀ v ∈ ck2, Thg K H8 v := fun v hv => (h8c v hv).odd.thg
        refine ⟨ka, ca, xa, kx, cx, ck2, ks, cs, rfl, sp8.hka, sp8.kt.rows, sp8.hca, sp8.ct.rows, h8x, tK, tC, tX, fun v hv => (h8c v hv).cmp, by omega, by omega, by omega, ?_⟩
        have fin : ∀ (H9 : Hp) (v8 v9 v10 : Option V), Same H8 H9 → ∃ w2 w3 w4 w5 w6 w7 w8 w9 w10 : Option V, [some (.ref a), some (.ref S), some ((fun i : Nat => V.int (0 + (i : Int))) i), some (.ref b), some (.ref ka), some (.ref ca), some (.ref xa), some (.ref mp), v8, v9, v10, none, none] = [some (.ref a), some (.ref S), w2, w3, w4, w5, w6, w7, w8, w9, w10, none, none] ∧ Stm H9 S L (500 * (i + 1)) :=
          fun H9 v8 v9 v10 s9 => ⟨_, _, _, _, _, _, _, _, _, rfl, (st8.keep s9).mono (by omega)⟩
        cases he : bookErr ks cs ck2 with
        | some e =>
          intro H9 dt s9 hdt
          have ov : OddV H9 e.val := by
            rcases bookErr_val he with ⟨k, hk, e1⟩ | ⟨c, hc, e1⟩ | hx
            · rw [e1]
              exact ((sp8.wk k hk).1).same s9
            · have z := sp8.wc c hc
              rcases e1 with e1 | e1 | e1 | e1
              · rw [e1]; exact z.1.same s9
              · rw [e1]; exact z.2.1.same s9
              · rw [e1]; exact z.2.2.1.same s9
              · rw [e1]; exact z.2.2.2.same s9
            · exact (h8c _ hx).odd.same s9
          have hw : okB 100 e.word = true := by
            have all : ∀ x ∈ (["NameInUse", "BadName", "UnknownKind", "BadRule", "UnknownCheck"] : List Str), okB 100 x = true := by decide +kernel
            refine all _ ?_
            cases e with
            | col c =>
              cases c with
              | name b v =>
                cases b with
                | true => exact .head _
                | false => exact .tail _ (.head _)
              | kind v => exact .tail _ (.tail _ (.head _))
              | rule v => exact .tail _ (.tail _ (.tail _ (.head _)))
            | check v => exact .tail _ (.tail _ (.tail _ (.tail _ (.head _))))
          obtain ⟨d, _, hd⟩ := odd_dpx (K := K) ov
          walk_at "ls"
          refine ⟨ka, ca, xa, kx, cx, ck2, ks, cs, rfl, s9 _ _ sp8.hka, (sp8.kt.same s9).rows, s9 _ _ sp8.hca, (sp8.ct.same s9).rows, s9 _ _ h8x, fun k hk => (tK k hk).same s9, fun c hc => ⟨(tC c hc).1.same s9, (tC c hc).2.1.same s9, (tC c hc).2.2.1.same s9, (tC c hc).2.2.2.same s9⟩, fun v hv => (tX v hv).same s9, by omega, by omega, by omega, ?_⟩
          rw [he]
          intro H10 et s10 het
          walk_at "ls"
          have a1 := hd e.word H10 et hw s10 het
          have a2 := hd e.word H10 dt hw s10 (s10 _ _ hdt)
          refine ⟨et, dt, _, rfl, a1.1, a2.1, a1.2, _, rfl, iteF ?_⟩
          exact fin H10 _ _ _ (s9.trans s10)
        | none =>
          intro H9 s9
          walk_at "ls"
          obtain ⟨gk, gc⟩ := made_strs he
          have vk : ∀ k ∈ ks, ((∃ z, k.1 = .str z) ∨ ∃ b, k.1 = .bl b) ∧ ((∃ z, k.2 = .str z) ∨ ∃ b, k.2 = .bl b) := fun k hk => ⟨.inl ⟨_, gk k hk⟩, .inr (sp8.wk k hk).2⟩
          have vc : ∀ c ∈ cs, ((∃ z, c.1 = .str z) ∨ ∃ b, c.1 = .bl b) ∧ ((∃ z, c.2.1 = .str z) ∨ ∃ b, c.2.1 = .bl b) ∧ ((∃ z, c.2.2.1 = .str z) ∨ ∃ b, c.2.2.1 = .bl b) ∧ ((∃ z, c.2.2.2 = .str z) ∨ ∃ b, c.2.2.2 = .bl b) := fun c hc =>
            ⟨.inl ⟨_, (gc c hc).1⟩, .inl ⟨_, (gc c hc).2.1⟩, .inl ⟨_, (gc c hc).2.2.1⟩, .inl ⟨_, (gc c hc).2.2.2⟩⟩
          have ok3 : DOk 3 9723 (madeD ks cs) := DOk.tuple' (k := 2) (m := 3240) (n := 3) (fun x hx => by
            simp only [List.mem_cons, List.not_mem_nil, or_false] at hx
            rcases hx with rfl | rfl | rfl
            · exact (DOk.str (show okB 100 "made" = true by decide +kernel)).mono (by decide) (by decide)
            · refine (DOk.list' (k := 1) (m := 404) (n := 8) (fun x hx => ?_) (by rw [List.length_map]; omega)).mono (by decide) (by decide)
              obtain ⟨k, hk, rfl⟩ := List.mem_map.mp hx
              refine (DOk.tuple' (k := 0) (m := 100) (n := 4) (fun x hx => ?_) (by show 2 ≤ 4; decide)).mono (by decide) (by decide)
              simp only [kD, List.mem_cons, List.not_mem_nil, or_false] at hx
              rcases hx with rfl | rfl
              · exact dok_dOf (sp8.wk k hk).1 (vk k hk).1
              · obtain ⟨b, e⟩ := (sp8.wk k hk).2
                rw [e]
                exact DOk.bool b
            · refine (DOk.list' (k := 1) (m := 404) (n := 8) (fun x hx => ?_) (by rw [List.length_map]; omega)).mono (by decide) (by decide)
              obtain ⟨c, hc, rfl⟩ := List.mem_map.mp hx
              refine (DOk.tuple' (k := 0) (m := 100) (n := 4) (fun x hx => ?_) (by show 4 ≤ 4; decide)).mono (by decide) (by decide)
              simp only [cD, List.mem_cons, List.not_mem_nil, or_false] at hx
              have z := sp8.wc c hc
              have u := vc c hc
              rcases hx with rfl | rfl | rfl | rfl
              · exact dok_dOf z.1 u.1
              · exact dok_dOf z.2.1 u.2.1
              · exact dok_dOf z.2.2.1 u.2.2.1
              · exact dok_dOf z.2.2.2 u.2.2.2) (Nat.le_refl _)
          have mdp : ∀ (H' : Hp) (t x y : Addr) (px py : List V), H' t = some (.tup [.str "made", .ref x, .ref y]) → H' x = some (.lst px) → TupsAt H' px (ks.map fun k => [k.1, k.2]) → H' y = some (.lst py) → TupsAt H' py (cs.map colU) → DpX K H' (.ref t) (madeD ks cs) := fun H' t x y px py ht hx hpx hy hpy => by
            refine .inl ⟨.tup (.inl (.inl ht)) (.cons (.str "made") (.cons (.lst (.inl (.inl hx)) (tups_dp hpx fun k hk => ?_)) (.cons (.lst (.inl (.inl hy)) (tups_dp hpy fun c hc => ?_)) .nil))), ok3.nd⟩
            · exact .cons (dp_dOf (vk k hk).1) (.cons (dp_dOf (vk k hk).2) .nil)
            · exact .cons (dp_dOf (vc c hc).1) (.cons (dp_dOf (vc c hc).2.1) (.cons (dp_dOf (vc c hc).2.2.1) (.cons (dp_dOf (vc c hc).2.2.2) .nil)))
          have sp9 := sp8.old st8 (.same s9)
          have lkx : kx.length = ks.length := by rw [sp9.kt.len, List.length_map]
          have lcx : cx.length = cs.length := by rw [sp9.ct.len, List.length_map]
          refine ⟨⟨_, .inl (.inl sp9.hka)⟩, fun D1 hD1 => ?_⟩
          refine lc_it (walk_list (xs := kx)) (fun j H1 => ∃ px : List V, H1 D1 = some (.lst px) ∧ TupsAt H1 px ((ks.take j).map fun k => [k.1, k.2]) ∧ Same H9 H1)
            ⟨[], upd_same, .nil, same_new hD1⟩ (fun j H1 _ ⟨_, _, _, s1⟩ => .inl (.inl (s1 _ _ sp9.hka))) ?_ ?_
          · rintro j y Hy H1 hj ⟨px, h1, h1t, s1⟩ ⟨rfl, hy⟩
            obtain ⟨ys, hys, t, rfl, ht⟩ := (sp9.kt.same s1).get hy
            obtain ⟨kd, hkd, rfl⟩ := map_get hys
            refine ⟨rfl, ?_⟩
            walk_at "ls"
            refine ⟨t, _, rfl, .inl ⟨.inl (.inl ht), fun l hl => ?_⟩⟩
            have nkl : D1 ≠ l := ne_of_none h1 hl
            have lpx : px.length ≤ 8 := by
              rw [h1t.len, List.length_map, List.length_take]
              omega
            have h1' : (upd H1 l (.tup [kd.1, kd.2])) D1 = some (.lst px) := by rw [upd_ne nkl]; exact h1
            refine ⟨px, h1', small1000 (by omega), px ++ [.ref l], upd_same, ?_, Same.set (s1.trans (same_new hl)) hD1⟩
            rw [List.take_add_one, hkd, Option.toList_some, List.map_append]
            exact (h1t.keep ((TK.new hl).trans (.lst h1'))).snoc ⟨l, rfl, by rw [upd_ne nkl.symm]; exact upd_same⟩
          rintro H10 ⟨px, h10, h10t, s10⟩
          rw [lkx, List.take_length] at h10t
          walk_at "ls"
          refine ⟨⟨_, .inl (.inl (s10 _ _ sp9.hca))⟩, fun D2 hD2 => ?_⟩
          refine lc_it (walk_list (xs := cx)) (fun j H1 => ∃ py : List V, H1 D2 = some (.lst py) ∧ TupsAt H1 py ((cs.take j).map colU) ∧ Same H10 H1)
            ⟨[], upd_same, .nil, same_new hD2⟩ (fun j H1 _ ⟨_, _, _, s1⟩ => .inl (.inl (s1 _ _ (s10 _ _ sp9.hca)))) ?_ ?_
          · rintro j y Hy H1 hj ⟨py, h1, h1t, s1⟩ ⟨rfl, hy⟩
            obtain ⟨ys, hys, t, rfl, ht⟩ := (sp9.ct.same (s10.trans s1)).get hy
            obtain ⟨kd, hkd, rfl⟩ := map_get hys
            refine ⟨rfl, ?_⟩
            walk_at "ls"
            refine ⟨t, _, rfl, .inl ⟨.inl (.inl ht), fun l hl => ?_⟩⟩
            have nkl : D2 ≠ l := ne_of_none h1 hl
            have lpx : py.length ≤ 8 := by
              rw [h1t.len, List.length_map, List.length_take]
              omega
            have h1' : (upd H1 l (.tup (colU kd))) D2 = some (.lst py) := by rw [upd_ne nkl]; exact h1
            refine ⟨py, h1', small1000 (by omega), py ++ [.ref l], upd_same, ?_, Same.set (s1.trans (same_new hl)) hD2⟩
            rw [List.take_add_one, hkd, Option.toList_some, List.map_append]
            exact (h1t.keep ((TK.new hl).trans (.lst h1'))).snoc ⟨l, rfl, by rw [upd_ne nkl.symm]; exact upd_same⟩
          rintro H11 ⟨py, h11, h11t, s11⟩
          rw [lcx, List.take_length] at h11t
          walk_at "ls"
          refine ⟨(by show 3 ≤ sizeLine; decide), fun dt hdt => ?_⟩
          have s12 : Same H11 (upd H11 dt (.tup [.str "made", .ref D1, .ref D2])) := same_new hdt
          have h12t := upd_same (H := H11) (a := dt) (o := .tup [.str "made", .ref D1, .ref D2])
          generalize upd H11 dt (.tup [.str "made", .ref D1, .ref D2]) = H12 at *
          have s912 := (s10.trans s11).trans s12
          have s812 := s9.trans s912
          walk_at "ls"
          refine ⟨ka, ca, xa, kx, cx, ck2, ks, cs, rfl, s812 _ _ sp8.hka, (sp8.kt.same s812).rows, s812 _ _ sp8.hca, (sp8.ct.same s812).rows, s812 _ _ h8x, fun k hk => (tK k hk).same s812, fun c hc => ⟨(tC c hc).1.same s812, (tC c hc).2.1.same s812, (tC c hc).2.2.1.same s812, (tC c hc).2.2.2.same s812⟩, fun v hv => (tX v hv).same s812, by omega, by omega, by omega, ?_⟩
          rw [he]
          intro H13 et x y kx' cx' s13 het h13x h13xt h13y h13yt
          walk_at "ls"
          refine ⟨et, dt, _, rfl, mdp H13 et x y kx' cx' het h13x h13xt h13y h13yt, mdp H13 dt D1 D2 px py (s13 _ _ h12t) (s13 _ _ (s12 _ _ (s11 _ _ h10))) (h10t.keep (.same ((s11.trans s12).trans s13))) (s13 _ _ (s12 _ _ h11)) (h11t.keep (.same (s12.trans s13))), ok3.fits (by decide) (by decide), _, rfl, iteF ?_⟩
          exact fin H13 _ _ _ (s812.trans s13)
    · rintro σ H2 ⟨v2, v3, v4, v5, v6, v7, v8, v9, v10, rfl, st2⟩
      walk_at "ls"
      exact q H2
end
end Ls
namespace Ls
open PySem PySem.Spec PyProof.Rows L2 NdefX
/-! ### the texts of the own errors -/
abbrev s_BadName_init : Stmt := inClass (topS 3) 0
theorem tx_BadName : ErrTx s_BadName_init "BadName.__init__" [("name" : Str)] where
  nsc := nscope_by (by decide +kernel)
  hsup := rfl
  par := ⟨_, rfl, rfl⟩
  body := ⟨_, _, _, _, _, _, _, _, _, rfl, ⟨⟨⟨_, _, _, _, rfl⟩, by decide, by decide⟩, trivial⟩, fun f cc cda L => ⟨_, rfl⟩⟩
  bind := fun cc cda doc pm ct us hl => match us, hl with | [_, _], _ => rfl
abbrev s_NameInUse_init : Stmt := inClass (topS 4) 0
theorem tx_NameInUse : ErrTx s_NameInUse_init "NameInUse.__init__" [("name" : Str)] where
  nsc := nscope_by (by decide +kernel)
  hsup := rfl
  par := ⟨_, rfl, rfl⟩
  body := ⟨_, _, _, _, _, _, _, _, _, rfl, ⟨⟨⟨_, _, _, _, rfl⟩, by decide, by decide⟩, trivial⟩, fun f cc cda L => ⟨_, rfl⟩⟩
  bind := fun cc cda doc pm ct us hl => match us, hl with | [_, _], _ => rfl
abbrev s_UnknownKind_init : Stmt := inClass (topS 5) 0
theorem tx_UnknownKind : ErrTx s_UnknownKind_init "UnknownKind.__init__" [("kind" : Str)] where
  nsc := nscope_by (by decide +kernel)
  hsup := rfl
  par := ⟨_, rfl, rfl⟩
  body := ⟨_, _, _, _, _, _, _, _, _, rfl, ⟨⟨⟨_, _, _, _, rfl⟩, by decide, by decide⟩, trivial⟩, fun f cc cda L => ⟨_, rfl⟩⟩
  bind := fun cc cda doc pm ct us hl => match us, hl with | [_, _], _ => rfl
abbrev s_BadRule_init : Stmt := inClass (topS 6) 0
theorem tx_BadRule : ErrTx s_BadRule_init "BadRule.__init__" [("rule" : Str)] where
  nsc := nscope_by (by decide +kernel)
  hsup := rfl
  par := ⟨_, rfl, rfl⟩
  body := ⟨_, _, _, _, _, _, _, _, _, rfl, ⟨⟨⟨_, _, _, _, rfl⟩, by decide, by decide⟩, trivial⟩, fun f cc cda L => ⟨_, rfl⟩⟩
  bind := fun cc cda doc pm ct us hl => match us, hl with | [_, _], _ => rfl
abbrev s_UnknownCheck_init : Stmt := inClass (topS 7) 0
theorem tx_UnknownCheck : ErrTx s_UnknownCheck_init "UnknownCheck.__init__" [("check" : Str)] where
  nsc := nscope_by (by decide +kernel)
  hsup := rfl
  par := ⟨_, rfl, rfl⟩
  body := ⟨_, _, _, _, _, _, _, _, _, rfl, ⟨⟨⟨_, _, _, _, rfl⟩, by decide, by decide⟩, trivial⟩, fun f cc cda L => ⟨_, rfl⟩⟩
  bind := fun cc cda doc pm ct us hl => match us, hl with | [_, _], _ => rfl
abbrev s_UnlikeBooks_init : Stmt := inClass (topS 8) 0
theorem tx_UnlikeBooks : ErrTx s_UnlikeBooks_init "UnlikeBooks.__init__" [] where
  nsc := nscope_by (by decide +kernel)
  hsup := rfl
  par := ⟨_, rfl, rfl⟩
  body := ⟨_, _, _, _, _, _, _, _, _, rfl, trivial, fun f cc cda L => ⟨_, rfl⟩⟩
  bind := fun cc cda doc pm ct us hl => match us, hl with | [_], _ => rfl
end Ls
namespace Ls
open PySem PySem.Spec PyProof.Rows L2
/-- classes apart, as one test -/
def exmB (K : PySem.W.Frag) (l : List Addr) : Bool := (l.all fun a => l.all fun b => decide (PySem.W.exmOne K (.ref a) (.ref b) = some (decide (a = b)))) && decide l.Nodup
theorem exmB_ok {K : PySem.W.Frag} {l : List Addr} (h : exmB K l = true) : (∀ a ∈ l, ∀ b ∈ l, PySem.W.exmOne K (.ref a) (.ref b) = some (decide (a = b))) ∧ l.Nodup := by
  unfold exmB at h
  obtain ⟨h1, h2⟩ := Bool.and_eq_true_iff.mp h
  exact ⟨fun a ha b hb => of_decide_eq_true (List.all_eq_true.mp (List.all_eq_true.mp h1 a ha) b hb), of_decide_eq_true h2⟩
theorem exm_self {K : PySem.W.Frag} {a : Addr} {l : List Addr} (h : exmB K l = true) (m : a ∈ l) : PySem.W.exmOne K (.ref a) (.ref a) = some true := by
  have := (exmB_ok h).1 a m a m
  rw [decide_eq_true rfl] at this
  exact this
end Ls
namespace Ls
open PySem PySem.Spec PyProof.Rows L2
theorem exm_of {K : PySem.W.Frag} {a b c d e : Addr} (h : exmB K [a, b, c, d, e] = true) : Exm K ⟨a, b, c, d, e⟩ := ⟨(exmB_ok h).1, (exmB_ok h).2⟩
end Ls
namespace Ls
open PySem PySem.Spec PyProof.Rows L2 NdefX
/-! ### what the top has written -/
set_option maxHeartbeats 16000000 in
theorem all_mk {l : PySem.W.OpenLaw} {w : World} {K : PySem.W.Frag} {h : Heap} {mg : Str → Option Value} {fa : Addr} (X : K.In h) (G : h.Ns mainGlobals mg) (hfa : mg "law" = some (.ref fa))
    {f0 : Addr} {oc0 kV0 dc0 pm0 cd0 ct0 : Value} {od0 an0 : Option Addr} {sl0 : Array (Option Value)}
    {f1 : Addr} {oc1 kV1 dc1 pm1 cd1 ct1 : Value} {od1 an1 : Option Addr} {sl1 : Array (Option Value)}
    {f2 : Addr} {oc2 kV2 dc2 pm2 cd2 ct2 : Value} {od2 an2 : Option Addr} {sl2 : Array (Option Value)}
    {f3 : Addr} {oc3 kV3 dc3 pm3 cd3 ct3 : Value} {od3 an3 : Option Addr} {sl3 : Array (Option Value)}
    {f4 : Addr} {oc4 kV4 dc4 pm4 cd4 ct4 : Value} {od4 an4 : Option Addr} {sl4 : Array (Option Value)}
    {f5 : Addr} {oc5 kV5 dc5 pm5 cd5 ct5 : Value} {od5 an5 : Option Addr} {sl5 : Array (Option Value)}
    {f6 : Addr} {oc6 kV6 dc6 pm6 cd6 ct6 : Value} {od6 an6 : Option Addr} {sl6 : Array (Option Value)}
    {f7 : Addr} {oc7 kV7 dc7 pm7 cd7 ct7 : Value} {od7 an7 : Option Addr} {sl7 : Array (Option Value)}
    {f8 : Addr} {oc8 kV8 dc8 pm8 cd8 ct8 : Value} {od8 an8 : Option Addr} {sl8 : Array (Option Value)}
    {f9 : Addr} {oc9 kV9 dc9 pm9 cd9 ct9 : Value} {od9 an9 : Option Addr} {sl9 : Array (Option Value)}
    {f10 : Addr} {oc10 kV10 dc10 pm10 cd10 ct10 : Value} {od10 an10 : Option Addr} {sl10 : Array (Option Value)}
    {f11 : Addr} {oc11 kV11 dc11 pm11 cd11 ct11 : Value} {od11 an11 : Option Addr} {sl11 : Array (Option Value)}
    {f12 : Addr} {oc12 kV12 dc12 pm12 cd12 ct12 : Value} {od12 an12 : Option Addr} {sl12 : Array (Option Value)}
    {f13 : Addr} {oc13 kV13 dc13 pm13 cd13 ct13 : Value} {od13 an13 : Option Addr} {sl13 : Array (Option Value)}
    {f14 : Addr} {oc14 kV14 dc14 pm14 cd14 ct14 : Value} {od14 an14 : Option Addr} {sl14 : Array (Option Value)}
    {f15 : Addr} {oc15 kV15 dc15 pm15 cd15 ct15 : Value} {od15 an15 : Option Addr} {sl15 : Array (Option Value)}
    {f16 : Addr} {oc16 kV16 dc16 pm16 cd16 ct16 : Value} {od16 an16 : Option Addr} {sl16 : Array (Option Value)}
    {f17 : Addr} {oc17 kV17 dc17 pm17 cd17 ct17 : Value} {od17 an17 : Option Addr} {sl17 : Array (Option Value)}
    {f18 : Addr} {oc18 kV18 dc18 pm18 cd18 ct18 : Value} {od18 an18 : Option Addr} {sl18 : Array (Option Value)}
    {f19 : Addr} {oc19 kV19 dc19 pm19 cd19 ct19 : Value} {od19 an19 : Option Addr} {sl19 : Array (Option Value)}
    {f20 : Addr} {oc20 kV20 dc20 pm20 cd20 ct20 : Value} {od20 an20 : Option Addr} {sl20 : Array (Option Value)}
    {f21 : Addr} {oc21 kV21 dc21 pm21 cd21 ct21 : Value} {od21 an21 : Option Addr} {sl21 : Array (Option Value)}
    {f22 : Addr} {oc22 kV22 dc22 pm22 cd22 ct22 : Value} {od22 an22 : Option Addr} {sl22 : Array (Option Value)}
    {f23 : Addr} {oc23 kV23 dc23 pm23 cd23 ct23 : Value} {od23 an23 : Option Addr} {sl23 : Array (Option Value)}
    {C_Book : Addr}
    {f24 : Addr} {oc24 kV24 dc24 pm24 cd24 ct24 : Value} {od24 an24 : Option Addr} {sl24 : Array (Option Value)}
    {T24 : Addr} {nT24 : Nat} {dv24_0 dv24_1 : Value}
    {de24_0 : Addr}
    {de24_1 : Addr}
    {f25 : Addr} {oc25 kV25 dc25 pm25 cd25 ct25 : Value} {od25 an25 : Option Addr} {sl25 : Array (Option Value)}
    {f26 : Addr} {oc26 kV26 dc26 pm26 cd26 ct26 : Value} {od26 an26 : Option Addr} {sl26 : Array (Option Value)}
    {C_BadName fIBadName ccBadName cdaBadName : Addr} {ocBadName dcBadName pmBadName ctBadName : Value} {odBadName : Option Addr} {slBadName : Array (Option Value)}
    {C_NameInUse fINameInUse ccNameInUse cdaNameInUse : Addr} {ocNameInUse dcNameInUse pmNameInUse ctNameInUse : Value} {odNameInUse : Option Addr} {slNameInUse : Array (Option Value)}
    {C_UnknownKind fIUnknownKind ccUnknownKind cdaUnknownKind : Addr} {ocUnknownKind dcUnknownKind pmUnknownKind ctUnknownKind : Value} {odUnknownKind : Option Addr} {slUnknownKind : Array (Option Value)}
    {C_BadRule fIBadRule ccBadRule cdaBadRule : Addr} {ocBadRule dcBadRule pmBadRule ctBadRule : Value} {odBadRule : Option Addr} {slBadRule : Array (Option Value)}
    {C_UnknownCheck fIUnknownCheck ccUnknownCheck cdaUnknownCheck : Addr} {ocUnknownCheck dcUnknownCheck pmUnknownCheck ctUnknownCheck : Value} {odUnknownCheck : Option Addr} {slUnknownCheck : Array (Option Value)}
    {tk_STRIKE : Tok}
    {tk_LETTERS : Tok}
    {tk_LONGEST_NAME : Tok}
    {ad_RULES : Addr} {mm_RULES : Nat} {tk_RULES0 tk_RULES1 : Tok}
    {ad_COLUMN_CHECKS : Addr} {mm_COLUMN_CHECKS : Nat} {tk_COLUMN_CHECKS0 tk_COLUMN_CHECKS1 tk_COLUMN_CHECKS2 tk_COLUMN_CHECKS3 tk_COLUMN_CHECKS4 : Tok}
    {ad_KIND_CHECKS : Addr} {mm_KIND_CHECKS : Nat} {tk_KIND_CHECKS0 tk_KIND_CHECKS1 tk_KIND_CHECKS2 : Tok}
    {ad_BOOK_CHECKS : Addr} {mm_BOOK_CHECKS : Nat} {tk_BOOK_CHECKS0 tk_BOOK_CHECKS1 : Tok}
    (a0 : PySem.W.nsIn K mainGlobals "_law_draw" = some (some (.ref f0)))
    (l0 : K.lookup f0 = some ⟨oc0, od0, .func (PySem.W.fnOf "_law_draw" "_law_draw" (defArgs s__law_draw) (defBody s__law_draw) (defScope s__law_draw) .none kV0 dc0 pm0 an0 cd0 ct0), sl0⟩)
    (c0 : PySem.W.codeIn K cd0 "_law_draw" = true)
    (k0 : PySem.W.keepIn K (.ref f0) = true)
    (a1 : PySem.W.nsIn K mainGlobals "_law_pick" = some (some (.ref f1)))
    (l1 : K.lookup f1 = some ⟨oc1, od1, .func (PySem.W.fnOf "_law_pick" "_law_pick" (defArgs s__law_pick) (defBody s__law_pick) (defScope s__law_pick) .none kV1 dc1 pm1 an1 cd1 ct1), sl1⟩)
    (c1 : PySem.W.codeIn K cd1 "_law_pick" = true)
    (k1 : PySem.W.keepIn K (.ref f1) = true)
    (a2 : PySem.W.nsIn K mainGlobals "_law_mixed" = some (some (.ref f2)))
    (l2 : K.lookup f2 = some ⟨oc2, od2, .func (PySem.W.fnOf "_law_mixed" "_law_mixed" (defArgs s__law_mixed) (defBody s__law_mixed) (defScope s__law_mixed) .none kV2 dc2 pm2 an2 cd2 ct2), sl2⟩)
    (c2 : PySem.W.codeIn K cd2 "_law_mixed" = true)
    (k2 : PySem.W.keepIn K (.ref f2) = true)
    (a3 : PySem.W.nsIn K mainGlobals "_law_same" = some (some (.ref f3)))
    (l3 : K.lookup f3 = some ⟨oc3, od3, .func (PySem.W.fnOf "_law_same" "_law_same" (defArgs s__law_same) (defBody s__law_same) (defScope s__law_same) .none kV3 dc3 pm3 an3 cd3 ct3), sl3⟩)
    (c3 : PySem.W.codeIn K cd3 "_law_same" = true)
    (k3 : PySem.W.keepIn K (.ref f3) = true)
    (a4 : PySem.W.nsIn K mainGlobals "_law_fresh" = some (some (.ref f4)))
    (l4 : K.lookup f4 = some ⟨oc4, od4, .func (PySem.W.fnOf "_law_fresh" "_law_fresh" (defArgs s__law_fresh) (defBody s__law_fresh) (defScope s__law_fresh) .none kV4 dc4 pm4 an4 cd4 ct4), sl4⟩)
    (c4 : PySem.W.codeIn K cd4 "_law_fresh" = true)
    (k4 : PySem.W.keepIn K (.ref f4) = true)
    (a5 : PySem.W.nsIn K mainGlobals "_law_names" = some (some (.ref f5)))
    (l5 : K.lookup f5 = some ⟨oc5, od5, .func (PySem.W.fnOf "_law_names" "_law_names" (defArgs s__law_names) (defBody s__law_names) (defScope s__law_names) .none kV5 dc5 pm5 an5 cd5 ct5), sl5⟩)
    (c5 : PySem.W.codeIn K cd5 "_law_names" = true)
    (k5 : PySem.W.keepIn K (.ref f5) = true)
    (a6 : PySem.W.nsIn K mainGlobals "_law_shape" = some (some (.ref f6)))
    (l6 : K.lookup f6 = some ⟨oc6, od6, .func (PySem.W.fnOf "_law_shape" "_law_shape" (defArgs s__law_shape) (defBody s__law_shape) (defScope s__law_shape) .none kV6 dc6 pm6 an6 cd6 ct6), sl6⟩)
    (c6 : PySem.W.codeIn K cd6 "_law_shape" = true)
    (k6 : PySem.W.keepIn K (.ref f6) = true)
    (a7 : PySem.W.nsIn K mainGlobals "_law_all_checks" = some (some (.ref f7)))
    (l7 : K.lookup f7 = some ⟨oc7, od7, .func (PySem.W.fnOf "_law_all_checks" "_law_all_checks" (defArgs s__law_all_checks) (defBody s__law_all_checks) (defScope s__law_all_checks) .none kV7 dc7 pm7 an7 cd7 ct7), sl7⟩)
    (c7 : PySem.W.codeIn K cd7 "_law_all_checks" = true)
    (k7 : PySem.W.keepIn K (.ref f7) = true)
    (a8 : PySem.W.nsIn K mainGlobals "_law_checked" = some (some (.ref f8)))
    (l8 : K.lookup f8 = some ⟨oc8, od8, .func (PySem.W.fnOf "_law_checked" "_law_checked" (defArgs s__law_checked) (defBody s__law_checked) (defScope s__law_checked) .none kV8 dc8 pm8 an8 cd8 ct8), sl8⟩)
    (c8 : PySem.W.codeIn K cd8 "_law_checked" = true)
    (k8 : PySem.W.keepIn K (.ref f8) = true)
    (a9 : PySem.W.nsIn K mainGlobals "_law_rules" = some (some (.ref f9)))
    (l9 : K.lookup f9 = some ⟨oc9, od9, .func (PySem.W.fnOf "_law_rules" "_law_rules" (defArgs s__law_rules) (defBody s__law_rules) (defScope s__law_rules) .none kV9 dc9 pm9 an9 cd9 ct9), sl9⟩)
    (c9 : PySem.W.codeIn K cd9 "_law_rules" = true)
    (k9 : PySem.W.keepIn K (.ref f9) = true)
    (a10 : PySem.W.nsIn K mainGlobals "_law_odd_name" = some (some (.ref f10)))
    (l10 : K.lookup f10 = some ⟨oc10, od10, .func (PySem.W.fnOf "_law_odd_name" "_law_odd_name" (defArgs s__law_odd_name) (defBody s__law_odd_name) (defScope s__law_odd_name) .none kV10 dc10 pm10 an10 cd10 ct10), sl10⟩)
    (c10 : PySem.W.codeIn K cd10 "_law_odd_name" = true)
    (k10 : PySem.W.keepIn K (.ref f10) = true)
    (a11 : PySem.W.nsIn K mainGlobals "_law_spoiled" = some (some (.ref f11)))
    (l11 : K.lookup f11 = some ⟨oc11, od11, .func (PySem.W.fnOf "_law_spoiled" "_law_spoiled" (defArgs s__law_spoiled) (defBody s__law_spoiled) (defScope s__law_spoiled) .none kV11 dc11 pm11 an11 cd11 ct11), sl11⟩)
    (c11 : PySem.W.codeIn K cd11 "_law_spoiled" = true)
    (k11 : PySem.W.keepIn K (.ref f11) = true)
    (a12 : PySem.W.nsIn K mainGlobals "_law_is_name" = some (some (.ref f12)))
    (l12 : K.lookup f12 = some ⟨oc12, od12, .func (PySem.W.fnOf "_law_is_name" "_law_is_name" (defArgs s__law_is_name) (defBody s__law_is_name) (defScope s__law_is_name) .none kV12 dc12 pm12 an12 cd12 ct12), sl12⟩)
    (c12 : PySem.W.codeIn K cd12 "_law_is_name" = true)
    (k12 : PySem.W.keepIn K (.ref f12) = true)
    (a13 : PySem.W.nsIn K mainGlobals "_law_name_error" = some (some (.ref f13)))
    (l13 : K.lookup f13 = some ⟨oc13, od13, .func (PySem.W.fnOf "_law_name_error" "_law_name_error" (defArgs s__law_name_error) (defBody s__law_name_error) (defScope s__law_name_error) .none kV13 dc13 pm13 an13 cd13 ct13), sl13⟩)
    (c13 : PySem.W.codeIn K cd13 "_law_name_error" = true)
    (k13 : PySem.W.keepIn K (.ref f13) = true)
    (a14 : PySem.W.nsIn K mainGlobals "_law_due" = some (some (.ref f14)))
    (l14 : K.lookup f14 = some ⟨oc14, od14, .func (PySem.W.fnOf "_law_due" "_law_due" (defArgs s__law_due) (defBody s__law_due) (defScope s__law_due) .none kV14 dc14 pm14 an14 cd14 ct14), sl14⟩)
    (c14 : PySem.W.codeIn K cd14 "_law_due" = true)
    (k14 : PySem.W.keepIn K (.ref f14) = true)
    (a15 : PySem.W.nsIn K mainGlobals "_law_end" = some (some (.ref f15)))
    (l15 : K.lookup f15 = some ⟨oc15, od15, .func (PySem.W.fnOf "_law_end" "_law_end" (defArgs s__law_end) (defBody s__law_end) (defScope s__law_end) .none kV15 dc15 pm15 an15 cd15 ct15), sl15⟩)
    (c15 : PySem.W.codeIn K cd15 "_law_end" = true)
    (k15 : PySem.W.keepIn K (.ref f15) = true)
    (a16 : PySem.W.nsIn K mainGlobals "law" = some (some (.ref f16)))
    (l16 : K.lookup f16 = some ⟨oc16, od16, .func (PySem.W.fnOf "law" "law" (defArgs s_law) (defBody s_law) (defScope s_law) .none kV16 dc16 pm16 an16 cd16 ct16), sl16⟩)
    (c16 : PySem.W.codeIn K cd16 "law" = true)
    (k16 : PySem.W.keepIn K (.ref f16) = true)
    (a17 : PySem.W.nsIn K mainGlobals "is_name" = some (some (.ref f17)))
    (l17 : K.lookup f17 = some ⟨oc17, od17, .func (PySem.W.fnOf "is_name" "is_name" (defArgs s_is_name) (defBody s_is_name) (defScope s_is_name) .none kV17 dc17 pm17 an17 cd17 ct17), sl17⟩)
    (c17 : PySem.W.codeIn K cd17 "is_name" = true)
    (k17 : PySem.W.keepIn K (.ref f17) = true)
    (a18 : PySem.W.nsIn K mainGlobals "is_word_of" = some (some (.ref f18)))
    (l18 : K.lookup f18 = some ⟨oc18, od18, .func (PySem.W.fnOf "is_word_of" "is_word_of" (defArgs s_is_word_of) (defBody s_is_word_of) (defScope s_is_word_of) .none kV18 dc18 pm18 an18 cd18 ct18), sl18⟩)
    (c18 : PySem.W.codeIn K cd18 "is_word_of" = true)
    (k18 : PySem.W.keepIn K (.ref f18) = true)
    (a19 : PySem.W.nsIn K mainGlobals "_want_free_name" = some (some (.ref f19)))
    (l19 : K.lookup f19 = some ⟨oc19, od19, .func (PySem.W.fnOf "_want_free_name" "_want_free_name" (defArgs s__want_free_name) (defBody s__want_free_name) (defScope s__want_free_name) .none kV19 dc19 pm19 an19 cd19 ct19), sl19⟩)
    (c19 : PySem.W.codeIn K cd19 "_want_free_name" = true)
    (k19 : PySem.W.keepIn K (.ref f19) = true)
    (a20 : PySem.W.nsIn K mainGlobals "_read_kinds" = some (some (.ref f20)))
    (l20 : K.lookup f20 = some ⟨oc20, od20, .func (PySem.W.fnOf "_read_kinds" "_read_kinds" (defArgs s__read_kinds) (defBody s__read_kinds) (defScope s__read_kinds) .none kV20 dc20 pm20 an20 cd20 ct20), sl20⟩)
    (c20 : PySem.W.codeIn K cd20 "_read_kinds" = true)
    (k20 : PySem.W.keepIn K (.ref f20) = true)
    (a21 : PySem.W.nsIn K mainGlobals "_read_columns" = some (some (.ref f21)))
    (l21 : K.lookup f21 = some ⟨oc21, od21, .func (PySem.W.fnOf "_read_columns" "_read_columns" (defArgs s__read_columns) (defBody s__read_columns) (defScope s__read_columns) .none kV21 dc21 pm21 an21 cd21 ct21), sl21⟩)
    (c21 : PySem.W.codeIn K cd21 "_read_columns" = true)
    (k21 : PySem.W.keepIn K (.ref f21) = true)
    (a22 : PySem.W.nsIn K mainGlobals "_menu_of" = some (some (.ref f22)))
    (l22 : K.lookup f22 = some ⟨oc22, od22, .func (PySem.W.fnOf "_menu_of" "_menu_of" (defArgs s__menu_of) (defBody s__menu_of) (defScope s__menu_of) .none kV22 dc22 pm22 an22 cd22 ct22), sl22⟩)
    (c22 : PySem.W.codeIn K cd22 "_menu_of" = true)
    (k22 : PySem.W.keepIn K (.ref f22) = true)
    (a23 : PySem.W.nsIn K mainGlobals "_read_checks" = some (some (.ref f23)))
    (l23 : K.lookup f23 = some ⟨oc23, od23, .func (PySem.W.fnOf "_read_checks" "_read_checks" (defArgs s__read_checks) (defBody s__read_checks) (defScope s__read_checks) .none kV23 dc23 pm23 an23 cd23 ct23), sl23⟩)
    (c23 : PySem.W.codeIn K cd23 "_read_checks" = true)
    (k23 : PySem.W.keepIn K (.ref f23) = true)
    (aC_Book : PySem.W.nsIn K mainGlobals "Book" = some (some (.ref C_Book)))
    (pg_Book : PySem.W.plainGet K C_Book Str.empty = true)
    (hd_Book : PySem.W.hasDictIn K C_Book = true)
    (po_Book : PySem.W.plainOver K C_Book = true)
    (sa_Book : PySem.W.findIn K (.ref C_Book) "__setattr__" = some (some (.builtin "object.__setattr__")))
    (mk_Book : PySem.W.makesIn K C_Book = true)
    (kc_Book : PySem.W.keepIn K (.ref C_Book) = true)
    (n_Book_kinds : PySem.W.findIn K (.ref C_Book) "_kinds" = some none)
    (n_Book_columns : PySem.W.findIn K (.ref C_Book) "_columns" = some none)
    (n_Book_menu : PySem.W.findIn K (.ref C_Book) "_menu" = some none)
    (n_Book_checks : PySem.W.findIn K (.ref C_Book) "_checks" = some none)
    (a24 : PySem.W.findIn K (.ref C_Book) "__init__" = some (some (.ref f24)))
    (i24 : PySem.W.isFn K (.ref f24) = true)
    (l24 : K.lookup f24 = some ⟨oc24, od24, .func (PySem.W.fnOf "__init__" "Book.__init__" (defArgs s_Book_init) (defBody s_Book_init) (defScope s_Book_init) (.ref T24) kV24 dc24 pm24 an24 cd24 ct24), sl24⟩)
    (c24 : PySem.W.codeIn K cd24 "Book.__init__" = true)
    (k24 : PySem.W.keepIn K (.ref f24) = true)
    (lT24 : K.lookup T24 = some { cls := .type "tuple", dict := none, data := .seq #[dv24_0, dv24_1] nT24, slots := #[] })
    (ed24_0 : dv24_0 = .ref de24_0)
    (ed24_1 : dv24_1 = .ref de24_1)
    (a25 : PySem.W.findIn K (.ref C_Book) "kinds" = some (some (.ref f25)))
    (i25 : PySem.W.isFn K (.ref f25) = true)
    (l25 : K.lookup f25 = some ⟨oc25, od25, .func (PySem.W.fnOf "kinds" "Book.kinds" (defArgs s_Book_kinds) (defBody s_Book_kinds) (defScope s_Book_kinds) .none kV25 dc25 pm25 an25 cd25 ct25), sl25⟩)
    (c25 : PySem.W.codeIn K cd25 "Book.kinds" = true)
    (k25 : PySem.W.keepIn K (.ref f25) = true)
    (a26 : PySem.W.findIn K (.ref C_Book) "columns" = some (some (.ref f26)))
    (i26 : PySem.W.isFn K (.ref f26) = true)
    (l26 : K.lookup f26 = some ⟨oc26, od26, .func (PySem.W.fnOf "columns" "Book.columns" (defArgs s_Book_columns) (defBody s_Book_columns) (defScope s_Book_columns) .none kV26 dc26 pm26 an26 cd26 ct26), sl26⟩)
    (c26 : PySem.W.codeIn K cd26 "Book.columns" = true)
    (k26 : PySem.W.keepIn K (.ref f26) = true)
    (aE_BadName : PySem.W.nsIn K mainGlobals "BadName" = some (some (.ref C_BadName)))
    (iE_BadName : PySem.W.findIn K (.ref C_BadName) "__init__" = some (some (.ref fIBadName)))
    (lE_BadName : K.lookup fIBadName = some ⟨ocBadName, odBadName, .func (PySem.W.fnX "__init__" "BadName.__init__" (defArgs s_BadName_init) (defBody s_BadName_init) (defScope s_BadName_init) [("__class__", ccBadName)] .none .none dcBadName pmBadName none (.ref cdaBadName) ctBadName), slBadName⟩)
    (cE_BadName : PySem.W.codeIn K (.ref cdaBadName) "BadName.__init__" = true)
    (bE_BadName : errB l.prog K C_BadName fIBadName ccBadName cdaBadName ["name"] = true)
    (aE_NameInUse : PySem.W.nsIn K mainGlobals "NameInUse" = some (some (.ref C_NameInUse)))
    (iE_NameInUse : PySem.W.findIn K (.ref C_NameInUse) "__init__" = some (some (.ref fINameInUse)))
    (lE_NameInUse : K.lookup fINameInUse = some ⟨ocNameInUse, odNameInUse, .func (PySem.W.fnX "__init__" "NameInUse.__init__" (defArgs s_NameInUse_init) (defBody s_NameInUse_init) (defScope s_NameInUse_init) [("__class__", ccNameInUse)] .none .none dcNameInUse pmNameInUse none (.ref cdaNameInUse) ctNameInUse), slNameInUse⟩)
    (cE_NameInUse : PySem.W.codeIn K (.ref cdaNameInUse) "NameInUse.__init__" = true)
    (bE_NameInUse : errB l.prog K C_NameInUse fINameInUse ccNameInUse cdaNameInUse ["name"] = true)
    (aE_UnknownKind : PySem.W.nsIn K mainGlobals "UnknownKind" = some (some (.ref C_UnknownKind)))
    (iE_UnknownKind : PySem.W.findIn K (.ref C_UnknownKind) "__init__" = some (some (.ref fIUnknownKind)))
    (lE_UnknownKind : K.lookup fIUnknownKind = some ⟨ocUnknownKind, odUnknownKind, .func (PySem.W.fnX "__init__" "UnknownKind.__init__" (defArgs s_UnknownKind_init) (defBody s_UnknownKind_init) (defScope s_UnknownKind_init) [("__class__", ccUnknownKind)] .none .none dcUnknownKind pmUnknownKind none (.ref cdaUnknownKind) ctUnknownKind), slUnknownKind⟩)
    (cE_UnknownKind : PySem.W.codeIn K (.ref cdaUnknownKind) "UnknownKind.__init__" = true)
    (bE_UnknownKind : errB l.prog K C_UnknownKind fIUnknownKind ccUnknownKind cdaUnknownKind ["kind"] = true)
    (aE_BadRule : PySem.W.nsIn K mainGlobals "BadRule" = some (some (.ref C_BadRule)))
    (iE_BadRule : PySem.W.findIn K (.ref C_BadRule) "__init__" = some (some (.ref fIBadRule)))
    (lE_BadRule : K.lookup fIBadRule = some ⟨ocBadRule, odBadRule, .func (PySem.W.fnX "__init__" "BadRule.__init__" (defArgs s_BadRule_init) (defBody s_BadRule_init) (defScope s_BadRule_init) [("__class__", ccBadRule)] .none .none dcBadRule pmBadRule none (.ref cdaBadRule) ctBadRule), slBadRule⟩)
    (cE_BadRule : PySem.W.codeIn K (.ref cdaBadRule) "BadRule.__init__" = true)
    (bE_BadRule : errB l.prog K C_BadRule fIBadRule ccBadRule cdaBadRule ["rule"] = true)
    (aE_UnknownCheck : PySem.W.nsIn K mainGlobals "UnknownCheck" = some (some (.ref C_UnknownCheck)))
    (iE_UnknownCheck : PySem.W.findIn K (.ref C_UnknownCheck) "__init__" = some (some (.ref fIUnknownCheck)))
    (lE_UnknownCheck : K.lookup fIUnknownCheck = some ⟨ocUnknownCheck, odUnknownCheck, .func (PySem.W.fnX "__init__" "UnknownCheck.__init__" (defArgs s_UnknownCheck_init) (defBody s_UnknownCheck_init) (defScope s_UnknownCheck_init) [("__class__", ccUnknownCheck)] .none .none dcUnknownCheck pmUnknownCheck none (.ref cdaUnknownCheck) ctUnknownCheck), slUnknownCheck⟩)
    (cE_UnknownCheck : PySem.W.codeIn K (.ref cdaUnknownCheck) "UnknownCheck.__init__" = true)
    (bE_UnknownCheck : errB l.prog K C_UnknownCheck fIUnknownCheck ccUnknownCheck cdaUnknownCheck ["check"] = true)
    (xE : exmB K [C_BadName, C_NameInUse, C_UnknownKind, C_BadRule, C_UnknownCheck] = true)
    (z_int : PySem.W.nsIn K mainGlobals "int" = some none)
    (z_len : PySem.W.nsIn K mainGlobals "len" = some none)
    (z_range : PySem.W.nsIn K mainGlobals "range" = some none)
    (z_list : PySem.W.nsIn K mainGlobals "list" = some none)
    (z_tuple : PySem.W.nsIn K mainGlobals "tuple" = some none)
    (z_dict : PySem.W.nsIn K mainGlobals "dict" = some none)
    (z_isinstance : PySem.W.nsIn K mainGlobals "isinstance" = some none)
    (z_all : PySem.W.nsIn K mainGlobals "all" = some none)
    (z_any : PySem.W.nsIn K mainGlobals "any" = some none)
    (z_repr : PySem.W.nsIn K mainGlobals "repr" = some none)
    (z_str : PySem.W.nsIn K mainGlobals "str" = some none)
    (g_STRIKE : PySem.W.nsIn K mainGlobals "STRIKE" = some (some (.str "strike" tk_STRIKE)))
    (g_LETTERS : PySem.W.nsIn K mainGlobals "LETTERS" = some (some (.str "abcdefghijklmnopqrstuvwxyz" tk_LETTERS)))
    (g_LONGEST_NAME : PySem.W.nsIn K mainGlobals "LONGEST_NAME" = some (some (.int 8 tk_LONGEST_NAME)))
    (g_RULES : PySem.W.nsIn K mainGlobals "RULES" = some (some (.ref ad_RULES)))
    (t_RULES : K.lookup ad_RULES = some { cls := .type "tuple", dict := none, data := .seq #[.str "fall" tk_RULES0, .str "clear" tk_RULES1] mm_RULES, slots := #[] })
    (g_COLUMN_CHECKS : PySem.W.nsIn K mainGlobals "COLUMN_CHECKS" = some (some (.ref ad_COLUMN_CHECKS)))
    (t_COLUMN_CHECKS : K.lookup ad_COLUMN_CHECKS = some { cls := .type "tuple", dict := none, data := .seq #[.str "put" tk_COLUMN_CHECKS0, .str "turn" tk_COLUMN_CHECKS1, .str "keep" tk_COLUMN_CHECKS2, .str "hold" tk_COLUMN_CHECKS3, .str "again" tk_COLUMN_CHECKS4] mm_COLUMN_CHECKS, slots := #[] })
    (g_KIND_CHECKS : PySem.W.nsIn K mainGlobals "KIND_CHECKS" = some (some (.ref ad_KIND_CHECKS)))
    (t_KIND_CHECKS : K.lookup ad_KIND_CHECKS = some { cls := .type "tuple", dict := none, data := .seq #[.str "bare" tk_KIND_CHECKS0, .str "calm" tk_KIND_CHECKS1, .str "again" tk_KIND_CHECKS2] mm_KIND_CHECKS, slots := #[] })
    (g_BOOK_CHECKS : PySem.W.nsIn K mainGlobals "BOOK_CHECKS" = some (some (.ref ad_BOOK_CHECKS)))
    (t_BOOK_CHECKS : K.lookup ad_BOOK_CHECKS = some { cls := .type "tuple", dict := none, data := .seq #[.str "lone" tk_BOOK_CHECKS0, .str "fresh" tk_BOOK_CHECKS1] mm_BOOK_CHECKS, slots := #[] }) :
    ∃ fd : FuncData, (∀ (s : Shared) (v : Value), BindsTo s fd ⟨[v], []⟩ [("_law_script", v)]) ∧ ∀ base : Heap, K.In base → base.Ns mainGlobals mg → FnG l.prog w K mg base CX0 8 fa fd ["_law_script"] (spLaw K) := by
  have e := hfa.symm.trans (PySem.W.mg_of X G a16)
  cases e
  have F0 := fun_mk (st := s__law_draw) l0 c0 k0
  have b0 := F0.binds (ps := ["_law_stream", "_law_many"]) fun _ _ _ _ _ _ us hl => match us, hl with | [_, _], _ => rfl
  have F1 := fun_mk (st := s__law_pick) l1 c1 k1
  have b1 := F1.binds (ps := ["_law_stream", "_law_things"]) fun _ _ _ _ _ _ us hl => match us, hl with | [_, _], _ => rfl
  have F2 := fun_mk (st := s__law_mixed) l2 c2 k2
  have b2 := F2.binds (ps := ["_law_stream", "_law_things"]) fun _ _ _ _ _ _ us hl => match us, hl with | [_, _], _ => rfl
  have F3 := fun_mk (st := s__law_same) l3 c3 k3
  have b3 := F3.binds (ps := ["_law_found", "_law_due_here"]) fun _ _ _ _ _ _ us hl => match us, hl with | [_, _], _ => rfl
  have F4 := fun_mk (st := s__law_fresh) l4 c4 k4
  have b4 := F4.binds (ps := ["_law_stream", "_law_taken"]) fun _ _ _ _ _ _ us hl => match us, hl with | [_, _], _ => rfl
  have F5 := fun_mk (st := s__law_names) l5 c5 k5
  have b5 := F5.binds (ps := ["_law_stream", "_law_many"]) fun _ _ _ _ _ _ us hl => match us, hl with | [_, _], _ => rfl
  have F6 := fun_mk (st := s__law_shape) l6 c6 k6
  have b6 := F6.binds (ps := ["_law_stream", "_law_many", "_law_most"]) fun _ _ _ _ _ _ us hl => match us, hl with | [_, _, _], _ => rfl
  have F7 := fun_mk (st := s__law_all_checks) l7 c7 k7
  have b7 := F7.binds (ps := ["_law_b"]) fun _ _ _ _ _ _ us hl => match us, hl with | [_], _ => rfl
  have F8 := fun_mk (st := s__law_checked) l8 c8 k8
  have b8 := F8.binds (ps := ["_law_stream", "_law_b"]) fun _ _ _ _ _ _ us hl => match us, hl with | [_, _], _ => rfl
  have F9 := fun_mk (st := s__law_rules) l9 c9 k9
  have b9 := F9.binds (ps := ["_law_stream", "_law_many", "_law_most"]) fun _ _ _ _ _ _ us hl => match us, hl with | [_, _, _], _ => rfl
  have F10 := fun_mk (st := s__law_odd_name) l10 c10 k10
  have b10 := F10.binds (ps := ["_law_stream"]) fun _ _ _ _ _ _ us hl => match us, hl with | [_], _ => rfl
  have F11 := fun_mk (st := s__law_spoiled) l11 c11 k11
  have b11 := F11.binds (ps := ["_law_stream", "_law_b"]) fun _ _ _ _ _ _ us hl => match us, hl with | [_, _], _ => rfl
  have F12 := fun_mk (st := s__law_is_name) l12 c12 k12
  have b12 := F12.binds (ps := ["_law_thing"]) fun _ _ _ _ _ _ us hl => match us, hl with | [_], _ => rfl
  have F13 := fun_mk (st := s__law_name_error) l13 c13 k13
  have b13 := F13.binds (ps := ["_law_word", "_law_known"]) fun _ _ _ _ _ _ us hl => match us, hl with | [_, _], _ => rfl
  have F14 := fun_mk (st := s__law_due) l14 c14 k14
  have b14 := F14.binds (ps := ["_law_kinds", "_law_columns", "_law_checks"]) fun _ _ _ _ _ _ us hl => match us, hl with | [_, _, _], _ => rfl
  have F15 := fun_mk (st := s__law_end) l15 c15 k15
  have b15 := F15.binds (ps := ["_law_kinds", "_law_columns", "_law_checks"]) fun _ _ _ _ _ _ us hl => match us, hl with | [_, _, _], _ => rfl
  have F16 := fun_mk (st := s_law) l16 c16 k16
  have b16 := F16.binds (ps := ["_law_script"]) fun _ _ _ _ _ _ us hl => match us, hl with | [_], _ => rfl
  have F17 := fun_mk (st := s_is_name) l17 c17 k17
  have b17 := F17.binds (ps := ["thing"]) fun _ _ _ _ _ _ us hl => match us, hl with | [_], _ => rfl
  have F18 := fun_mk (st := s_is_word_of) l18 c18 k18
  have b18 := F18.binds (ps := ["thing", "words"]) fun _ _ _ _ _ _ us hl => match us, hl with | [_, _], _ => rfl
  have F19 := fun_mk (st := s__want_free_name) l19 c19 k19
  have b19 := F19.binds (ps := ["name", "taken"]) fun _ _ _ _ _ _ us hl => match us, hl with | [_, _], _ => rfl
  have F20 := fun_mk (st := s__read_kinds) l20 c20 k20
  have b20 := F20.binds (ps := ["kinds"]) fun _ _ _ _ _ _ us hl => match us, hl with | [_], _ => rfl
  have F21 := fun_mk (st := s__read_columns) l21 c21 k21
  have b21 := F21.binds (ps := ["columns", "kinds"]) fun _ _ _ _ _ _ us hl => match us, hl with | [_, _], _ => rfl
  have F22 := fun_mk (st := s__menu_of) l22 c22 k22
  have b22 := F22.binds (ps := ["kinds", "columns"]) fun _ _ _ _ _ _ us hl => match us, hl with | [_, _], _ => rfl
  have F23 := fun_mk (st := s__read_checks) l23 c23 k23
  have b23 := F23.binds (ps := ["checks", "menu"]) fun _ _ _ _ _ _ us hl => match us, hl with | [_, _], _ => rfl
  subst ed24_0 ed24_1
  have FE24 := FunE.mk2 (st := s_Book_init) l24 c24
  have FD24 : FunD K "__init__" "Book.__init__" (defArgs s_Book_init) (defBody s_Book_init) (defScope s_Book_init) [V.ref de24_0, V.ref de24_1] [] f24 (PySem.W.fnOf "__init__" "Book.__init__" (defArgs s_Book_init) (defBody s_Book_init) (defScope s_Book_init) (.ref T24) kV24 dc24 pm24 an24 cd24 ct24) := ⟨⟨_, _, _, _, _, _, _, _, _, _, rfl, l24, c24, .inr ⟨by simp, T24, _, _, nT24, rfl, lT24, rfl, (.cons rfl (.cons rfl .nil))⟩, .inl rfl⟩, k24⟩
  have b24 : Binds K (PySem.W.fnOf "__init__" "Book.__init__" (defArgs s_Book_init) (defBody s_Book_init) (defScope s_Book_init) (.ref T24) kV24 dc24 pm24 an24 cd24 ct24) ["self", "kinds", "columns", "checks"] [] := by
    obtain ⟨ds, r, b⟩ := FD24.binds1 (ps := ["self", "kinds", "columns", "checks"]) 4 2 (by simp) rfl fun _ _ _ _ _ _ _ us its hl hl2 => match us, its, hl, hl2 with | [_, _, _, _], [_, _], _, _ => ⟨_, rfl, rfl⟩
    have e : ds = [] := by cases r; rfl
    rw [e] at b
    exact b
  have F25 := fun_mk (st := s_Book_kinds) l25 c25 k25
  have b25 := F25.binds (ps := ["self"]) fun _ _ _ _ _ _ us hl => match us, hl with | [_], _ => rfl
  have F26 := fun_mk (st := s_Book_columns) l26 c26 k26
  have b26 := F26.binds (ps := ["self"]) fun _ _ _ _ _ _ us hl => match us, hl with | [_], _ => rfl
  have TT : Bt mg := ⟨PySem.W.mg_none_of X G z_int, PySem.W.mg_none_of X G z_len, PySem.W.mg_none_of X G z_range, PySem.W.mg_none_of X G z_list, PySem.W.mg_none_of X G z_tuple, PySem.W.mg_none_of X G z_dict, PySem.W.mg_none_of X G z_isinstance, PySem.W.mg_none_of X G z_all, PySem.W.mg_none_of X G z_any, PySem.W.mg_none_of X G z_repr, PySem.W.mg_none_of X G z_str⟩
  have TB_Book : Cls K C_Book := ⟨pg_Book, hd_Book, po_Book, sa_Book⟩
  refine ⟨PySem.W.fnOf "law" "law" (defArgs s_law) (defBody s_law) (defScope s_law) .none kV16 dc16 pm16 an16 cd16 ct16, fun s v => .of_eq rfl, fun base _ _ => ?_⟩
  have GG : Gn K mg ad_RULES ad_COLUMN_CHECKS ad_KIND_CHECKS ad_BOOK_CHECKS tk_STRIKE tk_LETTERS tk_LONGEST_NAME := ⟨(PySem.W.mg_of X G g_STRIKE), (PySem.W.mg_of X G g_LETTERS), (PySem.W.mg_of X G g_LONGEST_NAME), (PySem.W.mg_of X G g_RULES), (PySem.W.mg_of X G g_COLUMN_CHECKS), (PySem.W.mg_of X G g_KIND_CHECKS), (PySem.W.mg_of X G g_BOOK_CHECKS), ⟨_, _, t_RULES, (by show 2 ≤ sizeLine; decide), .cons ⟨_, rfl⟩ (.cons ⟨_, rfl⟩ (.nil))⟩, ⟨_, _, t_COLUMN_CHECKS, (by show 5 ≤ sizeLine; decide), .cons ⟨_, rfl⟩ (.cons ⟨_, rfl⟩ (.cons ⟨_, rfl⟩ (.cons ⟨_, rfl⟩ (.cons ⟨_, rfl⟩ (.nil)))))⟩, ⟨_, _, t_KIND_CHECKS, (by show 3 ≤ sizeLine; decide), .cons ⟨_, rfl⟩ (.cons ⟨_, rfl⟩ (.cons ⟨_, rfl⟩ (.nil)))⟩, ⟨_, _, t_BOOK_CHECKS, (by show 2 ≤ sizeLine; decide), .cons ⟨_, rfl⟩ (.cons ⟨_, rfl⟩ (.nil))⟩⟩
  have TB : BkT K C_Book := ⟨TB_Book, n_Book_kinds, n_Book_columns, n_Book_menu, n_Book_checks⟩
  have O__law_draw : Own l.prog w K mg base CX0 1 "_law_draw" ["_law_stream", "_law_many"] spDraw := ⟨f0, _, ok_draw F0 TT, PySem.W.mg_of X G a0, k0, b0⟩
  have O__law_pick : Own l.prog w K mg base CX0 2 "_law_pick" ["_law_stream", "_law_things"] (spPick K) := ⟨f1, _, ok_pick F1 TT O__law_draw, PySem.W.mg_of X G a1, k1, b1⟩
  have O__law_fresh : Own l.prog w K mg base CX0 2 "_law_fresh" ["_law_stream", "_law_taken"] spFresh := ⟨f4, _, ok_fresh F4 TT O__law_draw, PySem.W.mg_of X G a4, k4, b4⟩
  have O__law_names : Own l.prog w K mg base CX0 3 "_law_names" ["_law_stream", "_law_many"] spNames := ⟨f5, _, ok_names F5 TT O__law_fresh, PySem.W.mg_of X G a5, k5, b5⟩
  have O__law_shape : Own l.prog w K mg base CX0 4 "_law_shape" ["_law_stream", "_law_many", "_law_most"] spShape := ⟨f6, _, ok_shape F6 TT O__law_draw O__law_pick O__law_names, PySem.W.mg_of X G a6, k6, b6⟩
  have O__law_all_checks : Own l.prog w K mg base CX0 1 "_law_all_checks" ["_law_b"] spAll := ⟨f7, _, ok_all F7 TT, PySem.W.mg_of X G a7, k7, b7⟩
  have O__law_checked : Own l.prog w K mg base CX0 2 "_law_checked" ["_law_stream", "_law_b"] spChecked := ⟨f8, _, ok_checked F8 TT O__law_draw O__law_all_checks, PySem.W.mg_of X G a8, k8, b8⟩
  have O__law_rules : Own l.prog w K mg base CX0 5 "_law_rules" ["_law_stream", "_law_many", "_law_most"] spRules := ⟨f9, _, ok_rules F9 TT O__law_draw O__law_shape O__law_checked, PySem.W.mg_of X G a9, k9, b9⟩
  have O__law_mixed : Own l.prog w K mg base CX0 2 "_law_mixed" ["_law_stream", "_law_things"] (spMixed K) := ⟨f2, _, ok_mixed F2 TT O__law_draw, PySem.W.mg_of X G a2, k2, b2⟩
  have O__law_odd_name : Own l.prog w K mg base CX0 3 "_law_odd_name" ["_law_stream"] spOdd := ⟨f10, _, ok_odd F10 TT O__law_pick, PySem.W.mg_of X G a10, k10, b10⟩
  have O__law_spoiled : Own l.prog w K mg base CX0 4 "_law_spoiled" ["_law_stream", "_law_b"] spSpoil := ⟨f11, _, ok_spoil F11 TT O__law_draw O__law_pick O__law_odd_name, PySem.W.mg_of X G a11, k11, b11⟩
  have O__law_is_name : Own l.prog w K mg base CX0 1 "_law_is_name" ["_law_thing"] (spIsName K) := ⟨f12, _, ok_lis F12 TT, PySem.W.mg_of X G a12, k12, b12⟩
  have O__law_name_error : Own l.prog w K mg base CX0 2 "_law_name_error" ["_law_word", "_law_known"] (spNameErr K) := ⟨f13, _, ok_nerr F13 TT O__law_is_name, PySem.W.mg_of X G a13, k13, b13⟩
  have O_allU : Own l.prog w K mg base CX0 1 "_law_all_checks" ["_law_b"] (spAllU K) := ⟨f7, _, ok_allU F7 TT, PySem.W.mg_of X G a7, k7, b7⟩
  have O__law_due : Own l.prog w K mg base CX0 3 "_law_due" ["_law_kinds", "_law_columns", "_law_checks"] (spDue K) := ⟨f14, _, ok_due F14 TT O__law_name_error O_allU, PySem.W.mg_of X G a14, k14, b14⟩
  have O__law_same : OwnG l.prog w K mg base CX0 1 "_law_same" ["_law_found", "_law_due_here"] (spSame K) := ⟨f3, _, ok_same F3 TT, PySem.W.mg_of X G a3, k3, b3⟩
  have O_BadName := own_x1 (P := l.prog) (w := w) (base := base) X G tx_BadName aE_BadName lE_BadName cE_BadName bE_BadName
  have O_NameInUse := own_x1 (P := l.prog) (w := w) (base := base) X G tx_NameInUse aE_NameInUse lE_NameInUse cE_NameInUse bE_NameInUse
  have O_UnknownKind := own_x1 (P := l.prog) (w := w) (base := base) X G tx_UnknownKind aE_UnknownKind lE_UnknownKind cE_UnknownKind bE_UnknownKind
  have O_BadRule := own_x1 (P := l.prog) (w := w) (base := base) X G tx_BadRule aE_BadRule lE_BadRule cE_BadRule bE_BadRule
  have O_UnknownCheck := own_x1 (P := l.prog) (w := w) (base := base) X G tx_UnknownCheck aE_UnknownCheck lE_UnknownCheck cE_UnknownCheck bE_UnknownCheck
  have O_is_name : Own l.prog w K mg base CX0 1 "is_name" ["thing"] (spIsName K) := ⟨f17, _, ok_is_name F17 TT GG, PySem.W.mg_of X G a17, k17, b17⟩
  have O_is_word_of : Own l.prog w K mg base CX0 1 "is_word_of" ["thing", "words"] (spWord K) := ⟨f18, _, ok_word F18 TT, PySem.W.mg_of X G a18, k18, b18⟩
  have O__want_free_name : OwnR l.prog w K mg base 3 "_want_free_name" ["name", "taken"] (spFree K C_BadName C_NameInUse) := ⟨f19, _, ok_free F19 O_is_name O_BadName O_NameInUse, PySem.W.mg_of X G a19, k19, b19⟩
  have O__read_kinds : OwnR l.prog w K mg base 4 "_read_kinds" ["kinds"] (spReadK K C_BadName C_NameInUse) := ⟨f20, _, ok_readK F20 TT O__want_free_name, PySem.W.mg_of X G a20, k20, b20⟩
  have O__read_columns : OwnR l.prog w K mg base 4 "_read_columns" ["columns", "kinds"] (spReadC K C_BadName C_NameInUse C_UnknownKind C_BadRule) := ⟨f21, _, ok_readC F21 TT GG O__want_free_name O_is_word_of O_UnknownKind O_BadRule, PySem.W.mg_of X G a21, k21, b21⟩
  have O__menu_of : Own l.prog w K mg base CX0 1 "_menu_of" ["kinds", "columns"] spMenu := ⟨f22, _, ok_menu F22 TT GG, PySem.W.mg_of X G a22, k22, b22⟩
  have O__read_checks : OwnR l.prog w K mg base 4 "_read_checks" ["checks", "menu"] (spReadX K C_UnknownCheck) := ⟨f23, _, ok_readX F23 TT O_is_word_of O_UnknownCheck, PySem.W.mg_of X G a23, k23, b23⟩
  have O_Book : OwnCR l.prog w K mg base 5 C_Book "Book" ["self", "kinds", "columns", "checks"] (spInit K C_Book ⟨C_BadName, C_NameInUse, C_UnknownKind, C_BadRule, C_UnknownCheck⟩) := ⟨f24, _, ok_init (A := ⟨C_BadName, C_NameInUse, C_UnknownKind, C_BadRule, C_UnknownCheck⟩) FE24 TB O__read_kinds O__read_columns O__menu_of O__read_checks, PySem.W.mg_of X G aC_Book, ⟨mk_Book, a24, i24, kc_Book⟩, b24⟩
  have O_Book_kinds : OwnM l.prog w K mg base CX0 1 C_Book "kinds" ["self"] (spKinds C_Book) := ⟨TB_Book, f25, _, ok_kinds F25 TT TB, ⟨a25, i25, k25⟩, b25⟩
  have O_Book_columns : OwnM l.prog w K mg base CX0 1 C_Book "columns" ["self"] (spColumns C_Book) := ⟨TB_Book, f26, _, ok_columns F26 TT TB, ⟨a26, i26, k26⟩, b26⟩
  have O__law_end : Own l.prog w K mg base CX0 7 "_law_end" ["_law_kinds", "_law_columns", "_law_checks"] (spEnd K) := ⟨f15, _, ok_end F15 TT (exm_of xE) O_Book O_Book_kinds O_Book_columns O_BadName O_NameInUse O_UnknownKind O_BadRule O_UnknownCheck, PySem.W.mg_of X G a15, k15, b15⟩
  exact ok_law F16 TT O__law_draw O__law_pick O__law_rules O__law_spoiled O__law_mixed O__law_all_checks O__law_due O__law_end O__law_same
end Ls
open PySem PySem.W PyProof.Rows
set_option maxRecDepth 100000 in
set_option maxHeartbeats 0 in
theorem PySem.Challenge.cw_longstrike_k02_books_made_holds : PySem.Challenge.rw_longstrike_k02_books_made.Holds := by
  w_on; o_law; k_head; (case hw => w_witness2)
  k_fill
  refine Ls.walk_ofG (l := PySem.Challenge.rw_longstrike_k02_books_made) (n := 63) (k := 8) (x := "_law_script") (sp := fun w => Ls.spLaw _) rfl (by decide) rfl ⟨rfl, by decide, by decide⟩ (fun w h Y => PySem.W.kIn_of Y) ?F (fun _ _ a ns hl hS => ⟨a, ns, rfl, hS, hl, fun _ => rfl⟩)
  case F =>
    intro w mg fa h KX G hmg
    refine' Ls.all_mk (l := PySem.Challenge.rw_longstrike_k02_books_made) (w := w) KX G hmg ?a0 ?l0 ?c0 ?k0 ?a1 ?l1 ?c1 ?k1 ?a2 ?l2 ?c2 ?k2 ?a3 ?l3 ?c3 ?k3 ?a4 ?l4 ?c4 ?k4 ?a5 ?l5 ?c5 ?k5 ?a6 ?l6 ?c6 ?k6 ?a7 ?l7 ?c7 ?k7 ?a8 ?l8 ?c8 ?k8 ?a9 ?l9 ?c9 ?k9 ?a10 ?l10 ?c10 ?k10 ?a11 ?l11 ?c11 ?k11 ?a12 ?l12 ?c12 ?k12 ?a13 ?l13 ?c13 ?k13 ?a14 ?l14 ?c14 ?k14 ?a15 ?l15 ?c15 ?k15 ?a16 ?l16 ?c16 ?k16 ?a17 ?l17 ?c17 ?k17 ?a18 ?l18 ?c18 ?k18 ?a19 ?l19 ?c19 ?k19 ?a20 ?l20 ?c20 ?k20 ?a21 ?l21 ?c21 ?k21 ?a22 ?l22 ?c22 ?k22 ?a23 ?l23 ?c23 ?k23 ?aC_Book ?pg_Book ?hd_Book ?po_Book ?sa_Book ?mk_Book ?kc_Book ?n_Book_kinds ?n_Book_columns ?n_Book_menu ?n_Book_checks ?a24 ?i24 ?l24 ?c24 ?k24 ?lT24 ?ed24_0 ?ed24_1 ?a25 ?i25 ?l25 ?c25 ?k25 ?a26 ?i26 ?l26 ?c26 ?k26 ?aE_BadName ?iE_BadName ?lE_BadName ?cE_BadName ?bE_BadName ?aE_NameInUse ?iE_NameInUse ?lE_NameInUse ?cE_NameInUse ?bE_NameInUse ?aE_UnknownKind ?iE_UnknownKind ?lE_UnknownKind ?cE_UnknownKind ?bE_UnknownKind ?aE_BadRule ?iE_BadRule ?lE_BadRule ?cE_BadRule ?bE_BadRule ?aE_UnknownCheck ?iE_UnknownCheck ?lE_UnknownCheck ?cE_UnknownCheck ?bE_UnknownCheck ?xE ?z_int ?z_len ?z_range ?z_list ?z_tuple ?z_dict ?z_isinstance ?z_all ?z_any ?z_repr ?z_str ?g_STRIKE ?g_LETTERS ?g_LONGEST_NAME ?g_RULES ?t_RULES ?g_COLUMN_CHECKS ?t_COLUMN_CHECKS ?g_KIND_CHECKS ?t_KIND_CHECKS ?g_BOOK_CHECKS ?t_BOOK_CHECKS
    (case a0 => k_is)
    (case l0 => k_is)
    (case c0 => k_is)
    (case k0 => k_is)
    (case a1 => k_is)
    (case l1 => k_is)
    (case c1 => k_is)
    (case k1 => k_is)
    (case a2 => k_is)
    (case l2 => k_is)
    (case c2 => k_is)
    (case k2 => k_is)
    (case a3 => k_is)
    (case l3 => k_is)
    (case c3 => k_is)
    (case k3 => k_is)
    (case a4 => k_is)
    (case l4 => k_is)
    (case c4 => k_is)
    (case k4 => k_is)
    (case a5 => k_is)
    (case l5 => k_is)
    (case c5 => k_is)
    (case k5 => k_is)
    (case a6 => k_is)
    (case l6 => k_is)
    (case c6 => k_is)
    (case k6 => k_is)
    (case a7 => k_is)
    (case l7 => k_is)
    (case c7 => k_is)
    (case k7 => k_is)
    (case a8 => k_is)
    (case l8 => k_is)
    (case c8 => k_is)
    (case k8 => k_is)
    (case a9 => k_is)
    (case l9 => k_is)
    (case c9 => k_is)
    (case k9 => k_is)
    (case a10 => k_is)
    (case l10 => k_is)
    (case c10 => k_is)
    (case k10 => k_is)
    (case a11 => k_is)
    (case l11 => k_is)
    (case c11 => k_is)
    (case k11 => k_is)
    (case a12 => k_is)
    (case l12 => k_is)
    (case c12 => k_is)
    (case k12 => k_is)
    (case a13 => k_is)
    (case l13 => k_is)
    (case c13 => k_is)
    (case k13 => k_is)
    (case a14 => k_is)
    (case l14 => k_is)
    (case c14 => k_is)
    (case k14 => k_is)
    (case a15 => k_is)
    (case l15 => k_is)
    (case c15 => k_is)
    (case k15 => k_is)
    (case a16 => k_is)
    (case l16 => k_is)
    (case c16 => k_is)
    (case k16 => k_is)
    (case a17 => k_is)
    (case l17 => k_is)
    (case c17 => k_is)
    (case k17 => k_is)
    (case a18 => k_is)
    (case l18 => k_is)
    (case c18 => k_is)
    (case k18 => k_is)
    (case a19 => k_is)
    (case l19 => k_is)
    (case c19 => k_is)
    (case k19 => k_is)
    (case a20 => k_is)
    (case l20 => k_is)
    (case c20 => k_is)
    (case k20 => k_is)
    (case a21 => k_is)
    (case l21 => k_is)
    (case c21 => k_is)
    (case k21 => k_is)
    (case a22 => k_is)
    (case l22 => k_is)
    (case c22 => k_is)
    (case k22 => k_is)
    (case a23 => k_is)
    (case l23 => k_is)
    (case c23 => k_is)
    (case k23 => k_is)
    (case aC_Book => k_is)
    (case pg_Book => k_is)
    (case hd_Book => k_is)
    (case po_Book => k_is)
    (case sa_Book => k_is)
    (case mk_Book => k_is)
    (case kc_Book => k_is)
    (case n_Book_kinds => k_is)
    (case n_Book_columns => k_is)
    (case n_Book_menu => k_is)
    (case n_Book_checks => k_is)
    (case a24 => k_is)
    (case i24 => k_is)
    (case l24 => k_is)
    (case c24 => k_is)
    (case k24 => k_is)
    (case lT24 => k_is)
    (case ed24_0 => rfl)
    (case ed24_1 => rfl)
    (case a25 => k_is)
    (case i25 => k_is)
    (case l25 => k_is)
    (case c25 => k_is)
    (case k25 => k_is)
    (case a26 => k_is)
    (case i26 => k_is)
    (case l26 => k_is)
    (case c26 => k_is)
    (case k26 => k_is)
    (case aE_BadName => k_is)
    (case iE_BadName => k_is)
    (case lE_BadName => k_is)
    (case cE_BadName => k_is)
    (case bE_BadName => kernel_rfl)
    (case aE_NameInUse => k_is)
    (case iE_NameInUse => k_is)
    (case lE_NameInUse => k_is)
    (case cE_NameInUse => k_is)
    (case bE_NameInUse => kernel_rfl)
    (case aE_UnknownKind => k_is)
    (case iE_UnknownKind => k_is)
    (case lE_UnknownKind => k_is)
    (case cE_UnknownKind => k_is)
    (case bE_UnknownKind => kernel_rfl)
    (case aE_BadRule => k_is)
    (case iE_BadRule => k_is)
    (case lE_BadRule => k_is)
    (case cE_BadRule => k_is)
    (case bE_BadRule => kernel_rfl)
    (case aE_UnknownCheck => k_is)
    (case iE_UnknownCheck => k_is)
    (case lE_UnknownCheck => k_is)
    (case cE_UnknownCheck => k_is)
    (case bE_UnknownCheck => kernel_rfl)
    (case xE => kernel_rfl)
    (case z_int => k_is)
    (case z_len => k_is)
    (case z_range => k_is)
    (case z_list => k_is)
    (case z_tuple => k_is)
    (case z_dict => k_is)
    (case z_isinstance => k_is)
    (case z_all => k_is)
    (case z_any => k_is)
    (case z_repr => k_is)
    (case z_str => k_is)
    (case g_STRIKE => k_is)
    (case g_LETTERS => k_is)
    (case g_LONGEST_NAME => k_is)
    (case g_RULES => k_is)
    (case t_RULES => k_is)
    (case g_COLUMN_CHECKS => k_is)
    (case t_COLUMN_CHECKS => k_is)
    (case g_KIND_CHECKS => k_is)
    (case t_KIND_CHECKS => k_is)
    (case g_BOOK_CHECKS => k_is)
    (case t_BOOK_CHECKS => k_is)

import PyProof.Rows.All
import Wide.All
import OpenK.AllK
import Wide.FinOn
import HandS.ForMost
import HandS.Wide
import HandS.DictComp
import HandS.Codes
import HandS.IsInst
import HandS.Conv
import HandS.Walk
import HandS.Defaults
import HandS.Dict
import HandS.Nested
import HandS.ExcInit
import HandS.ExcField
import HandS.MakeKw
import KE.KSuper
import KE.KExcSuper
import HandS.ExcOwn
import HandS.TryOnly
import HandS.TryMany
import HandS.WordsExc
import HandS.NoneIn
import HandS.Star
import PyProof.InstNe
import PyProof.ReprRoads
import HandS.Style
import HandS.More
import PySem.Challenge.RW_longstrike_k04_books_joined
set_option Elab.async false
set_option linter.all false
set_option maxRecDepth 100000
set_option maxHeartbeats 4000000
set_option exponentiation.threshold 20000
namespace Ls
open PySem PySem.Spec PyProof.Rows L2

/-! ### calls in short -/
/-- a def of the module that keeps a promise: where it stands, how it is bound -/
structure Own (P : Program) (w : World) (K : PySem.W.Frag) (mg : Str → Option Value) (base : Heap) (CX : CXT) (k : Nat) (x : Str) (ps : List Str) (sp : Sp) : Prop where
  ex : ∃ (f : Addr) (fd : FuncData), FnOk P w K mg base CX k f fd ps sp ∧ mg x = some (.ref f) ∧ PySem.W.keepIn K (.ref f) = true ∧ Binds K fd ps []
/-- a method of the class at C -/
structure OwnM (P : Program) (w : World) (K : PySem.W.Frag) (mg : Str → Option Value) (base : Heap) (CX : CXT) (k : Nat) (C : Addr) (m : Str) (ps : List Str) (sp : Sp) : Prop where
  cl : Cls K C
  ex : ∃ (f : Addr) (fd : FuncData), FnOk P w K mg base CX k f fd ps sp ∧ Meth K C m f ∧ Binds K fd ps []
/-- a class that is called -/
structure OwnC (P : Program) (w : World) (K : PySem.W.Frag) (mg : Str → Option Value) (base : Heap) (CX : CXT) (k : Nat) (C : Addr) (x : Str) (ps : List Str) (sp : Sp) : Prop where
  ex : ∃ (f : Addr) (fd : FuncData), FnOk P w K mg base CX k f fd ps sp ∧ mg x = some (.ref C) ∧ Mk K C f ∧ Binds K fd ps []
section
variable {X : Cx} {k j : Nat} {x m : Str} {ps : List Str} {sp : Sp} {p pos apos : Pos} {e o : Expr} {es : List Expr} {t : TA} {ta : TE} {C : Addr}
theorem own_call (O : Own X.prog X.w X.K X.mg X.base CX0 k x ps sp) (hr : Room j X.A) (hkj : k ≤ j) (ha : PA X (e :: es) t)
    (hg : Gl X x := by rfl) (hdb : (x == ("__debug__" : Str)) = false := by decide) (he : starEach (e :: es) X.env = (false, eval e X.env) :: starEach es X.env := by rfl) (hpl : (backTo pos (starEach es X.env)).any (·.1) = false := by rfl) :
    PE X (.Call (.Name x p) (e :: es) [] pos) (tCall sp [] E0 t) := by
  obtain ⟨f, fd, F, g, kp, b⟩ := O.ex
  exact pe_call F (hr.mono hkj) hg g kp b .nil pass0 ha hdb he hpl
theorem own_call0 (O : Own X.prog X.w X.K X.mg X.base CX0 k x ps sp) (hr : Room j X.A) (hkj : k ≤ j) (hg : Gl X x := by rfl) (hdb : (x == ("__debug__" : Str)) = false := by decide) :
    PE X (.Call (.Name x p) [] [] pos) (tCall sp [] E0 tNil) := by
  obtain ⟨f, fd, F, g, kp, b⟩ := O.ex
  exact pe_call0 F (hr.mono hkj) hg g kp b .nil pass0 hdb
theorem own_meth {pl : Sem Bool} (O : OwnM X.prog X.w X.K X.mg X.base CX0 k C m ps sp) (hr : Room j X.A) (hkj : k ≤ j) (ho : PE X o ta) (ha : PA X (e :: es) t)
    (hst : starEach (e :: es) X.env = (false, eval e X.env) :: starEach es X.env := by rfl) (hpl : (backTo pos (starEach es X.env)).any (·.1) = false := by rfl)
    (ht : eval (.Call (.Attribute o m apos) (e :: es) [] pos) X.env = (do
      let ov ← eval o X.env
      standAt apos.atName
      let (f, first) ← holding [ov] (getMethod ov m pl)
      callWith pos f first (backTo pos (starEach (e :: es) X.env)) (backToKw pos (keywordEach [] X.env))) := by rfl) : PE X (.Call (.Attribute o m apos) (e :: es) [] pos) (tMeth C m sp [] E0 ta t) := by
  obtain ⟨f, fd, F, me, b⟩ := O.ex
  exact pe_meth ho O.cl me F (hr.mono hkj) b .nil pass0 ha hst hpl ht
theorem own_meth0 {pl : Sem Bool} (O : OwnM X.prog X.w X.K X.mg X.base CX0 k C m ps sp) (hr : Room j X.A) (hkj : k ≤ j) (ho : PE X o ta)
    (ht : eval (.Call (.Attribute o m apos) [] [] pos) X.env = (do
      let ov ← eval o X.env
      standAt apos.atName
      let (f, first) ← holding [ov] (getMethod ov m pl)
      callWith pos f first (backTo pos (starEach [] X.env)) (backToKw pos (keywordEach [] X.env))) := by rfl) : PE X (.Call (.Attribute o m apos) [] [] pos) (tMeth C m sp [] E0 ta tNil) := by
  obtain ⟨f, fd, F, me, b⟩ := O.ex
  exact pe_meth0 ho O.cl me F (hr.mono hkj) b .nil pass0 ht
theorem own_make (O : OwnC X.prog X.w X.K X.mg X.base CX0 k C x ps sp) (hr : Room j X.A) (hkj : k + 1 ≤ j) (ha : PA X (e :: es) t)
    (hg : Gl X x := by rfl) (hdb : (x == ("__debug__" : Str)) = false := by decide) (he : starEach (e :: es) X.env = (false, eval e X.env) :: starEach es X.env := by rfl) (hpl : (backTo pos (starEach es X.env)).any (·.1) = false := by rfl) :
    PE X (.Call (.Name x p) (e :: es) [] pos) (tMake C sp [] E0 t) := by
  obtain ⟨f, fd, F, g, M, b⟩ := O.ex
  exact pe_make M F (hr.mono hkj) hg g b .nil pass0 ha hdb he hpl
theorem glob_str {z : Str} {tk : Tok} (hm : X.mg x = some (.str z tk)) (hg : Gl X x := by rfl) (hd : (x == ("__debug__" : Str)) = false := by decide) : PE X (.Name x pos) (tC (.str z)) := pe_glob hg hm ⟨_, rfl⟩ hd
theorem glob_int {i : Int} {tk : Tok} (hm : X.mg x = some (.int i tk)) (hg : Gl X x := by rfl) (hd : (x == ("__debug__" : Str)) = false := by decide) : PE X (.Name x pos) (tC (.int i)) := pe_glob hg hm ⟨_, rfl⟩ hd
theorem glob_ref {a : Addr} (hm : X.mg x = some (.ref a)) (hg : Gl X x := by rfl) (hd : (x == ("__debug__" : Str)) = false := by decide) : PE X (.Name x pos) (tC (.ref a)) := pe_glob hg hm rfl hd
/-- a statement that is never reached -/
theorem ps_dead {st : Stmt} : PS X st (fun _ _ _ => False) := ⟨fun _ _ _ _ _ _ h => h.elim⟩
theorem pss_dead {st : List Stmt} : PSs X st (fun _ _ _ => False) := ⟨fun _ _ _ _ _ _ h => h.elim⟩
end

/-! ### a def of the text, whatever its defaults -/
structure FunE (K : PySem.W.Frag) (x qual : Str) (st : Stmt) (f : Addr) (fd : FuncData) : Prop where
  ex : ∃ (oc : Value) (od : Option Addr) (dV kV doc pm : Value) (an : Option Addr) (cdv ct : Value) (osl : Array (Option Value)),
    fd = PySem.W.fnOf x qual (defArgs st) (defBody st) (defScope st) dV kV doc pm an cdv ct ∧ K.lookup f = some ⟨oc, od, .func fd, osl⟩ ∧ PySem.W.codeIn K cdv qual = true
theorem FunE.ok {P : Program} {w : World} {K : PySem.W.Frag} {mg : Str → Option Value} {base : Heap} {x qual : Str} {st : Stmt} {f : Addr} {fd : FuncData} {N ps : List Str} {k : Nat} {sp : Sp} (F : FunE K x qual st f fd) (S : FnScope N ps (defScope st))
    (len : ∀ vs H Q E, sp vs H Q E → vs.length = ps.length)
    (body : ∀ (cdv : Value) (A : Around) (outer : List Env) (s : Shared) (H : Hp) (vs : List V) (Q : VK) (E : XK), Room k (A.deeper (envOfC qual (defScope st) s.heap.objs.size f cdv)) → sp vs H Q E →
      ∃ t, PSs (cxOf CX0 P w K mg base N qual (defScope st) f cdv A outer s H E).nox (defBody st) t ∧ t { nx := fun _ H' => Q .non H', rt := Q } (start N vs) H) : FnOk P w K mg base CX0 (k + 1) f fd ps sp := by
  obtain ⟨oc, od, dV, kV, doc, pm, an, cdv, ct, osl, rfl, lk, hcd⟩ := F.ex
  refine fn_of lk hcd S len fun A outer s H vs Q E hr hsp => ?_
  obtain ⟨t, ht, hq⟩ := body cdv A outer s H vs Q E hr hsp
  exact ⟨t, ht.nox, hq⟩
/-- two defaults that are not asked for -/
theorem FunE.mk2 {K : PySem.W.Frag} {x qual : Str} {st : Stmt} {f T : Addr} {oc : Value} {od an : Option Addr} {osl : Array (Option Value)} {kV doc pm cdv ct : Value}
    (l : K.lookup f = some ⟨oc, od, .func (PySem.W.fnOf x qual (defArgs st) (defBody st) (defScope st) (.ref T) kV doc pm an cdv ct), osl⟩) (c : PySem.W.codeIn K cdv qual = true) :
    FunE K x qual st f (PySem.W.fnOf x qual (defArgs st) (defBody st) (defScope st) (.ref T) kV doc pm an cdv ct) := ⟨oc, od, .ref T, kV, doc, pm, an, cdv, ct, osl, rfl, l, c⟩

/-! ### tuples of the written part -/
def KTup (K : PySem.W.Frag) (a : Addr) (xs : List V) : Prop := ∃ (its : Array Value) (n : Nat), K.lookup a = some { cls := .type "tuple", dict := none, data := .seq its n, slots := #[] } ∧ its.size ≤ sizeLine ∧ Vals xs its.toList
theorem KTup.sq {K : PySem.W.Frag} {a : Addr} {xs : List V} (h : KTup K a xs) (H : Hp) : SqT K H a xs := by
  obtain ⟨its, n, lk, hz, r⟩ := h
  exact .inr ⟨_, its, n, lk, rfl, rfl, hz, r⟩
def rExtK (K : PySem.W.Frag) : V → List V → Hp → VK → Prop := fun x vs H Q => ∃ l b xs zs, x = .ref l ∧ vs = [.ref b] ∧ H l = some (.lst xs) ∧ KTup K b zs ∧ xs.length + zs.length ≤ sizeLine ∧ Q .non (upd H l (.lst (xs ++ zs)))
theorem mt_extK {X : Cx} (K : PySem.W.Frag) (hK : X.K = K := by rfl) : MtM X "list.extend" (rExtK K) := by
  subst hK
  intro pins s σ H x vs v us Q I rx rv h
  obtain ⟨l, b, xs, zs, rfl, rfl, hH, ⟨its2, n2, lk, z2, r2⟩, hz, q⟩ := h
  cases rx
  obtain ⟨u, rfl, ru⟩ := rv.one
  cases ru
  obtain ⟨z, its, n, r, hl, e⟩ := I.lstM hH
  have e2 := I.kIn _ _ lk
  obtain ⟨m2⟩ := its2
  have l2 : zs.length = m2.length := r2.length
  have hs : its.toArray.size + (Array.mk m2).size ≤ sizeLine := by
    rw [List.size_toArray]
    show its.length + m2.length ≤ sizeLine
    omega
  refine call_meets F.slot_list_extend ⟨_, e, rfl⟩ F.entry_list_extend (F.args_list_extend_2 _ _) (AutoSeq1.list_extend_list_tuple_0 l its.toArray n b (Array.mk m2) n2 (by rw [notLongL hs, Bool.and_false]; exact Bool.false_ne_true) (by omega) (by omega)) ⟨e, e2, ?_⟩
  refine ⟨.non, _, I.lset (its' := its ++ m2) (ys := xs ++ zs) hH e (by simp) (r.append r2) ?len, rfl, q⟩
  rw [List.length_append]
  exact hz

/-! ### rules that name the written part -/
section
variable {X : Cx}
theorem ixL (K : PySem.W.Frag) (h : X.K = K := by rfl) : IxR X (rIxL K) := by subst h; exact ix_list
theorem ixT (K : PySem.W.Frag) (h : X.K = K := by rfl) : IxR X (rIxT K) := by subst h; exact ix_tup
theorem in_seq (K : PySem.W.Frag) (h : X.K = K := by rfl) : OpR X (compareOp .In) (rIn K false) := by subst h; exact op_in_seq
theorem notIn_seq (K : PySem.W.Frag) (h : X.K = K := by rfl) : OpR X (compareOp .NotIn) (rIn K true) := by subst h; exact op_notIn_seq
theorem eqD (K : PySem.W.Frag) {k : Nat} (hr : Room k X.A) (h : X.K = K := by rfl) : OpR X (compareOp .Eq) (rEqD K) := by subst h; exact op_eqD hr.units
theorem neD (K : PySem.W.Frag) {k : Nat} (hr : Room k X.A) (h : X.K = K := by rfl) : OpR X (compareOp .NotEq) (rNeD K) := by subst h; exact op_neD hr.units
theorem list_of (K : PySem.W.Frag) (h : X.K = K := by rfl) : CallR X (.type "list") (fun xs H Q => ∃ p ys, xs = [.ref p] ∧ (SqL K H p ys ∨ SqT K H p ys) ∧ ∀ l, H l = none → Q (.ref l) (upd H l (.lst ys))) := by subst h; exact call_list_of
theorem tuple_of (K : PySem.W.Frag) (h : X.K = K := by rfl) : CallR X (.type "tuple") (fun xs H Q => ∃ p ys, xs = [.ref p] ∧ ((SqL K H p ys ∧ ∀ l, H l = none → Q (.ref l) (upd H l (.tup ys))) ∨ (SqT K H p ys ∧ Q (.ref p) H))) := by subst h; exact call_tuple_of
theorem len_seq (K : PySem.W.Frag) (h : X.K = K := by rfl) : CallR X (.builtin "len") (fun xs H Q => ∃ p ys, xs = [.ref p] ∧ (SqL K H p ys ∨ SqT K H p ys) ∧ Q (.int ys.length) H) := by subst h; exact call_len_seq
end

/-! ### lists of ints as data -/
theorem dp_ints {K : PySem.W.Frag} {H : Hp} : ∀ ns : List Int, DpAll K H (ns.map V.int) (ns.map PyData.int)
  | [] => .nil
  | n :: r => .cons (.int n) (dp_ints r)
theorem lay_ints : ∀ ns : List Int, PyData.canLayAll0 (ns.map PyData.int) = true
  | [] => by simp [PyData.canLayAll0]
  | n :: r => by simp [PyData.canLayAll0, PyData.canLay0, lay_ints r]
theorem depth_ints : ∀ ns : List Int, PyData.depthAll (ns.map PyData.int) = 0
  | [] => by simp [PyData.depthAll]
  | n :: r => by simp [PyData.depthAll, PyData.depth, depth_ints r]
theorem shaped_ints (ns : List Int) : SeqAt.shaped (.list (ns.map PyData.int)) = true := by
  simp [SeqAt.shaped, PyData.canLay0, PyData.depth, lay_ints, depth_ints]
theorem eqv_nil (ns : List Int) : PyData.eqv (.list (ns.map PyData.int)) (.list []) = decide (ns = []) := by
  cases ns with
  | nil => simp [PyData.eqv, PyData.eqvAll]
  | cons n r => simp [PyData.eqv, PyData.eqvAll]
theorem lt_pow {m c : Int} (h0 : 0 ≤ m) (h1 : m < 2147483647) (c0 : 0 ≤ c) (c1 : c ≤ 10000001) : (m + 104729 * c + 17).natAbs < 2 ^ 64 := by omega
theorem emod_lo (a : Int) {n : Int} (h : 0 < n) : 0 ≤ a % n := Int.emod_nonneg _ (by omega)
theorem emod_hi (a : Int) {n : Int} (h : 0 < n) : a % n < n := Int.emod_lt_of_pos _ h
theorem sq_le {c : Int} (c0 : 0 ≤ c) (c1 : c ≤ 10000001) : 0 ≤ 40503 * c * c ∧ 40503 * c * c ≤ 4050300810060040503 := by
  have h1 : c * c ≤ 10000001 * 10000001 := Int.mul_le_mul c1 c1 c0 (by omega)
  have h2 : 0 ≤ c * c := Int.mul_nonneg c0 c0
  have e : 40503 * c * c = 40503 * (c * c) := Int.mul_assoc _ _ _
  rw [e]
  omega
theorem log_lt {k : Int} (h0 : 0 < k) (h : k ≤ 10 ^ 40) : k.natAbs.log2 < 9000 := by
  refine (Nat.log2_lt (by omega)).mpr (Nat.lt_of_le_of_lt (m := 10 ^ 40) (by omega) ?_)
  exact Nat.lt_of_lt_of_le (show 10 ^ 40 < 2 ^ 140 by decide +kernel) (Nat.pow_le_pow_right (by decide) (by decide))

/-! ### heaps -/
/-- all else is as it was -/
def Old (S L : Addr) (H H' : Hp) : Prop := ∀ b o, b ≠ S → b ≠ L → H b = some o → H' b = some o
theorem Old.refl {S L : Addr} (H : Hp) : Old S L H H := fun _ _ _ _ e => e
theorem Old.trans {S L : Addr} {H H1 H2 : Hp} (a : Old S L H H1) (b : Old S L H1 H2) : Old S L H H2 := fun c o h1 h2 e => b c o h1 h2 (a c o h1 h2 e)
theorem Old.same {S L : Addr} {H H1 : Hp} (a : Same H H1) : Old S L H H1 := fun c o _ _ e => a c o e
theorem same_new {H : Hp} {p : Addr} {o : HO} (h : H p = none) : Same H (upd H p o) := fun b x e => by
  rw [upd_ne (ne_of_none e h)]
  exact e
theorem Old.new {S L : Addr} {H : Hp} {p : Addr} {o : HO} (h : H p = none) : Old S L H (upd H p o) := .same (same_new h)
theorem Old.set {S L : Addr} {H H1 : Hp} {p : Addr} {o : HO} (h : Old S L H H1) (hp : H p = none) : Old S L H (upd H1 p o) := fun b u h1 h2 e => by
  rw [upd_ne (ne_of_none e hp)]
  exact h b u h1 h2 e
theorem Old.none {S L : Addr} {H H1 : Hp} {p : Addr} (h : Old S L H H1) (hp : H1 p = none) (n : p ≠ S ∧ p ≠ L) : H p = none := by
  cases e : H p with
  | none => rfl
  | some o => rw [h _ _ n.1 n.2 e] at hp; cases hp
/-- the law's stream at S over the list at L, of which at most n draws were made -/
def Stm (H : Hp) (S L : Addr) (n : Nat) : Prop := ∃ (ns : List Int) (d c m : Int), H S = some (.lst [.ref L, .int d, .int c, .int m]) ∧ H L = some (.lst (ns.map V.int)) ∧ 0 ≤ d ∧ 0 ≤ c ∧ c ≤ (n : Int) ∧ 0 ≤ m ∧ m < 2147483647
theorem Stm.ne {H : Hp} {S L : Addr} {n : Nat} (h : Stm H S L n) : S ≠ L := by
  obtain ⟨ns, d, c, m, h1, h2, _⟩ := h
  refine ne_of h1 h2 fun e => ?_
  have e' := HO.lst.inj e
  cases ns with
  | nil => cases e'
  | cons a r => rw [List.map_cons] at e'; injection e' with e1; cases e1
theorem Stm.mono {H : Hp} {S L : Addr} {n m : Nat} (h : Stm H S L n) (hm : n ≤ m) : Stm H S L m := by
  obtain ⟨ns, d, c, k, h1, h2, h3, h4, h5, h6⟩ := h
  exact ⟨ns, d, c, k, h1, h2, h3, h4, by omega, h6⟩
theorem Stm.keep {H H' : Hp} {S L : Addr} {n : Nat} (h : Stm H S L n) (s : Same H H') : Stm H' S L n := by
  obtain ⟨ns, d, c, k, h1, h2, h3⟩ := h
  exact ⟨ns, d, c, k, s _ _ h1, s _ _ h2, h3⟩
theorem Stm.noneS {H : Hp} {S L p : Addr} {n : Nat} (h : Stm H S L n) (hp : H p = none) : p ≠ S ∧ p ≠ L := by
  obtain ⟨ns, d, c, k, h1, h2, h3⟩ := h
  exact ⟨Ne.symm (ne_of_none h1 hp), Ne.symm (ne_of_none h2 hp)⟩
theorem Stm.upd {H : Hp} {S L p : Addr} {n : Nat} {o : HO} (h : Stm H S L n) (h1 : p ≠ S) (h2 : p ≠ L) : Stm (upd H p o) S L n := by
  obtain ⟨ns, d, c, k, e1, e2, h3⟩ := h
  exact ⟨ns, d, c, k, by rw [upd_ne (Ne.symm h1)]; exact e1, by rw [upd_ne (Ne.symm h2)]; exact e2, h3⟩
/-! ### two tests whose answers are known -/
theorem or2 {t u : TT} {σ : L2.St} {H : Hp} {Q : Bool → Hp → Prop} (c1 c2 : Bool) (h1 : ∀ Q' : Bool → Hp → Prop, Q' c1 H → t σ H Q') (h2 : c1 = false → ∀ Q' : Bool → Hp → Prop, Q' c2 H → u σ H Q') (hq : Q (c1 || c2) H) : tOr t u σ H Q := by
  refine h1 _ ?_
  cases c1 with
  | true => exact hq
  | false => exact h2 rfl _ hq
theorem and2 {t u : TT} {σ : L2.St} {H : Hp} {Q : Bool → Hp → Prop} (c1 c2 : Bool) (h1 : ∀ Q' : Bool → Hp → Prop, Q' c1 H → t σ H Q') (h2 : c1 = true → ∀ Q' : Bool → Hp → Prop, Q' c2 H → u σ H Q') (hq : Q (c1 && c2) H) : tAnd t u σ H Q := by
  refine h1 _ ?_
  cases c1 with
  | true => exact h2 rfl _ hq
  | false => exact hq
/-- what is known of the heap from here on -/
theorem at_heap {P : Hp → Prop} {H0 : Hp} (φ : Hp → Prop) (h1 : φ H0) (h2 : ∀ H1, φ H1 → P H1) : P H0 := h2 H0 h1
/-! ### comprehensions that change nothing else -/
section
variable {J : It} {n : Nat} {G : Hp → Prop} {Y : Nat → Hp → V → Hp → Prop}
/-- the made list behind i turns -/
def made (xs : List V) (f : V → Option V) (i : Nat) : List V := (xs.take i).filterMap f
theorem made_yes {xs : List V} {f : V → Option V} {i : Nat} {x y : V} (hx : xs[i]? = some x) (hf : f x = some y) : made xs f (i + 1) = made xs f i ++ [y] := by
  unfold made
  rw [List.take_add_one, hx, List.filterMap_append]
  simp [hf]
theorem made_no {xs : List V} {f : V → Option V} {i : Nat} {x : V} (hx : xs[i]? = some x) (hf : f x = none) : made xs f (i + 1) = made xs f i := by
  unfold made
  rw [List.take_add_one, hx, List.filterMap_append]
  simp [hf]
theorem made_len (xs : List V) (f : V → Option V) (i : Nat) : (made xs f i).length ≤ i := by
  unfold made
  exact Nat.le_trans (List.length_filterMap_le _ _) (by rw [List.length_take]; exact Nat.min_le_left _ _)
/-- a comprehension whose turns leave the heap as it is: what each item gives is told by f -/
theorem lc_pure (w : Walk J n G Y) (xs : List V) (f : V → Option V) (hn : xs.length = n) (hY : ∀ i H x H', i < n → Y i H x H' → H' = H ∧ xs[i]? = some x) {g : TG} {tt : TT} {te : TE} {vs : List Nat} {σ : L2.St} {H1 : Hp} {D : Addr} {Qd : Hp → Prop}
    (hz : n < sizeLine) (hG : ∀ acc, G (upd H1 D (.lst acc)))
    (hs : ∀ i x, i < n → xs[i]? = some x → g x (wipe σ vs) (upd H1 D (.lst (made xs f i))) fun σ2 H2 => wipe σ2 vs = wipe σ vs ∧ tt σ2 H2 fun b H3 =>
      if b = true then te σ2 H3 fun y H4 => ∃ acc, H4 D = some (.lst acc) ∧ acc.length < sizeLine ∧ upd H4 D (.lst (acc ++ [y])) = upd H1 D (.lst (made xs f (i + 1))) else H3 = upd H1 D (.lst (made xs f (i + 1))))
    (hd : Qd (upd H1 D (.lst (xs.filterMap f)))) :
    ∃ W : Nat → Nat → Hp → Prop, (∃ m, W 0 m (upd H1 D (.lst []))) ∧ ∀ i m H, W i m H →
      (J.stop i H ∧ Qd H) ∨ (J.go i H ∧ ∃ Nx : Hp → Prop, (∀ H', Nx H' → ∃ m', m' < m ∧ W (i + 1) m' H') ∧ ∀ x H', J.yld i H x H' → g x (wipe σ vs) H' fun σ2 H2 => wipe σ2 vs = wipe σ vs ∧ tt σ2 H2 fun b H3 =>
        if b = true then te σ2 H3 fun y H4 => ∃ acc, H4 D = some (.lst acc) ∧ acc.length < sizeLine ∧ Nx (upd H4 D (.lst (acc ++ [y]))) else Nx H3) := by
  refine lc_it w (fun i H => H = upd H1 D (.lst (made xs f i))) rfl (fun i H _ e => by rw [e]; exact hG _) (fun i x H H' hi e y => ?_) (fun H e => ?_)
  · obtain ⟨e2, hx⟩ := hY i H x H' hi y
    rw [e2, e]
    exact hs i x hi hx
  · have : made xs f n = xs.filterMap f := by unfold made; rw [← hn, List.take_length]
    rw [e, this]
    exact hd
theorem lc_yes {xs : List V} {f : V → Option V} {i : Nat} {x y : V} {H1 : Hp} {D : Addr} {n : Nat} (hx : xs[i]? = some x) (hi : i < n) (hz : n < sizeLine) (hf : f x = some y) :
    ∃ acc, (upd H1 D (.lst (made xs f i))) D = some (.lst acc) ∧ acc.length < sizeLine ∧ upd (upd H1 D (.lst (made xs f i))) D (.lst (acc ++ [y])) = upd H1 D (.lst (made xs f (i + 1))) :=
  ⟨_, upd_same, Nat.lt_of_le_of_lt (made_len _ _ _) (Nat.lt_trans hi hz), by rw [upd_upd, made_yes hx hf]⟩
theorem lc_no {xs : List V} {f : V → Option V} {i : Nat} {x : V} {H1 : Hp} {D : Addr} (hx : xs[i]? = some x) (hf : f x = none) : upd H1 D (.lst (made xs f i)) = upd H1 D (.lst (made xs f (i + 1))) := by rw [made_no hx hf]
/-- the signs of a text as texts -/
def signs (z : Str) : List V := z.cps.toList.map fun c => .str ⟨#[c]⟩
theorem signs_len (z : Str) : (signs z).length = z.cps.size := by unfold signs; rw [List.length_map, Array.length_toList]
theorem yld_str {z : Str} : ∀ (i : Nat) (H : Hp) (x : V) (H' : Hp), i < z.cps.size → (H' = H ∧ ∃ c, z.cps[i]? = some c ∧ x = .str ⟨#[c]⟩) → H' = H ∧ (signs z)[i]? = some x := fun i H x H' _ ⟨e, c, hc, ex⟩ =>
  ⟨e, by unfold signs; rw [List.getElem?_map, Array.getElem?_toList, hc, ex]; rfl⟩
end
def spDraw : Sp := fun vs H Q _ => ∃ (S L : Addr) (n : Nat) (k : Int), vs = [.ref S, .int k] ∧ Stm H S L n ∧ n ≤ 10000000 ∧ 0 < k ∧ k ≤ 10 ^ 40 ∧
  ∀ (H' : Hp) (r : Int), 0 ≤ r → r < k → Stm H' S L (n + 1) → Old S L H H' → Q (.int r) H'
end Ls
namespace Ls
open PySem PySem.Spec PyProof.Rows L2
def topS (i : Nat) : Stmt := PySem.Challenge.pw_longstrike_k04_books_joined.main.body.getD i (.Pass ⟨0, 0, 0, 0⟩)
/-- the built-in names that are called -/
structure Bt (mg : Str → Option Value) : Prop where
  m_int : mg "int" = none
  m_len : mg "len" = none
  m_range : mg "range" = none
  m_list : mg "list" = none
  m_tuple : mg "tuple" = none
  m_dict : mg "dict" = none
  m_isinstance : mg "isinstance" = none
  m_all : mg "all" = none
  m_any : mg "any" = none
  m_repr : mg "repr" = none
  m_str : mg "str" = none
/-! ### short steps -/
local macro_rules | `(tactic| walk_at "ls_ne") => `(tactic| first | assumption | exact Ne.symm (by assumption) | exact ne_of_none (by assumption) (by assumption) | exact Ne.symm (ne_of_none (by assumption) (by assumption)))
local macro_rules | `(tactic| walk_at "ls_hp") => `(tactic| first
  | with_reducible assumption
  | exact upd_same
  | exact Eq.trans (upd_ne (by walk_at "ls_ne")) (by walk_at "ls_hp"))
local macro_rules | `(tactic| walk_at "ls_st") => `(tactic| first
  | with_reducible assumption
  | exact Stm.upd (by walk_at "ls_st") (by first | walk_at "ls_ne" | exact (Stm.noneS (by assumption) (by assumption)).1) (by first | walk_at "ls_ne" | exact (Stm.noneS (by assumption) (by assumption)).2))
local macro_rules | `(tactic| walk_at "ls1") => `(tactic| first
  | refine ⟨_, rfl, ?_⟩
  | refine ⟨_, _, rfl, rfl, ?_⟩
  | refine ⟨_, _, _, _, rfl, rfl, .inl (.inl (by walk_at "ls_hp")), rfl, ?_⟩
  | refine ⟨_, _, _, _, rfl, rfl, (by walk_at "ls_hp"), rfl, ?_⟩
  | refine ⟨rfl, _, rfl, ?_⟩
  | refine ⟨.inl ⟨rfl, _, .inl (.inl (by walk_at "ls_hp"))⟩, ?_⟩)
local macro_rules | `(tactic| walk_at "ls") => `(tactic| repeat (walk_at "ls1"))

section
variable {P : Program} {w : World} {K : PySem.W.Frag} {mg : Str → Option Value} {base : Heap}
/-! ### _law_draw -/
abbrev s__law_draw : Stmt := topS 28
theorem sc__law_draw : FnScope ["_law_stream", "_law_many", "_law_digit", "_law_mixed"] ["_law_stream", "_law_many"] (defScope s__law_draw) := ⟨rfl, rfl, rfl, by decide +kernel, rfl, by decide +kernel, by decide +kernel⟩
abbrev N__law_draw : List Str := ["_law_stream", "_law_many", "_law_digit", "_law_mixed"]
theorem ok_draw {f : Addr} {fd : FuncData} {j : Nat} (F : Fun K "_law_draw" "_law_draw" s__law_draw f fd) (T : Bt mg) : FnOk P w K mg base CX0 (j + 1) f fd ["_law_stream", "_law_many"] spDraw := by
  refine F.ok sc__law_draw (fun vs H Q E h => ?_) (fun cdv A outer s H vs Q E hr h => ?_)
  · obtain ⟨S, L, n, k, rfl, _⟩ := h
    rfl
  · obtain ⟨S, L, n, k, rfl, hst, hn, hk, hk2, q⟩ := h
    have hu := hu_of hr
    refine ⟨_, (pss_cons (ps_asg (pe_op op_add (pe_ix (ixL K) (pv 0) pe_int (fun _ _ => rfl)) pe_int) (pg_sub (pv 0) pe_int set_list))
      (C8.pss_cut (ps_if (PW.pt (pw_and (pt_cmpR op_eq (pe_ix (ixL K) (pv 0) pe_int (fun _ _ => rfl)) pe_int (nomark _)) (pw_and1 (pt_cmpR (neD K hr) (pe_ix (ixL K) (pv 0) pe_int (fun _ _ => rfl)) (pe_lst pa_nil) (nomark _))))) (pss_cons (ps_asg (pe_bm PySem.F.plainAttrs_list PySem.F.slot_list_pop PySem.F.type_list_pop mt_popAt (pe_ix (ixL K) (pv 0) pe_int (fun _ _ => rfl)) (pa_cons pe_int pa_nil)) (pg_sub (pv 0) pe_int set_list))
      (pss_one (ps_if (pt_cmpR op_lt (pe_ix (ixL K) (pv 0) pe_int (fun _ _ => rfl)) (pe_op op_pow pe_int pe_int) (nomark _)) (pss_cons (ps_asg (pe_op op_mod (pe_callTy call_int1 (by rfl) T.m_int (by decide +kernel) (pa_cons (pe_op op_add (pe_op op_add (pe_op op_mul (pe_ix (ixL K) (pv 0) pe_int (fun _ _ => rfl)) pe_int) (pe_ix (ixL K) (pv 0) pe_int (fun _ _ => rfl))) pe_int) pa_nil)) pe_int) (pg_sub (pv 0) pe_int set_list))
      (pss_one (ps_asg pe_int (pg_sub (pv 0) pe_int set_list)))) pss_nil))) pss_nil)
      (pss_cons (ps_if (pt_cmpR op_gt (pe_ix (ixL K) (pv 0) pe_int (fun _ _ => rfl)) pe_int (nomark _)) (pss_cons (ps_set (i := 2) sc__law_draw.nd rfl (Or.inl rfl) (pe_op op_mod (pe_callTy call_int1 (by rfl) T.m_int (by decide +kernel) (pa_cons (pe_ix (ixL K) (pv 0) pe_int (fun _ _ => rfl)) pa_nil)) (pv 1)))
      (pss_cons (ps_asg (pe_op op_fdivW (pe_ix (ixL K) (pv 0) pe_int (fun _ _ => rfl)) (pv 1)) (pg_sub (pv 0) pe_int set_list))
      (pss_one (ps_ret (pv 2))))) pss_nil)
      (pss_cons (ps_set (i := 3) sc__law_draw.nd rfl (Or.inl rfl) (pe_op op_mod (pe_op op_pow (pe_op op_add (pe_op op_add (pe_ix (ixL K) (pv 0) pe_int (fun _ _ => rfl)) (pe_op op_mul pe_int (pe_ix (ixL K) (pv 0) pe_int (fun _ _ => rfl)))) pe_int) pe_int) pe_int))
      (pss_one (ps_ret (pe_op op_mod (pe_op op_mod (pe_op op_pow (pe_op op_add (pe_op op_add (pe_op op_mul (pv 3) pe_int) (pe_op op_mul (pe_op op_mul pe_int (pe_ix (ixL K) (pv 0) pe_int (fun _ _ => rfl))) (pe_ix (ixL K) (pv 0) pe_int (fun _ _ => rfl)))) pe_int) pe_int) pe_int) (pv 1)))))))), ?_⟩
    obtain ⟨ns, d, c, m, hS, hL, d0, c0, cn, m0, m1⟩ := id hst
    have nSL := hst.ne
    walk_at "ls"
    refine ⟨fun σ' H' => σ' = [some (.ref S), some (.int k), none, none] ∧ ∃ (ns : List Int) (d m : Int), H' S = some (.lst [.ref L, .int d, .int (c + 1), .int m]) ∧ H' L = some (.lst (ns.map V.int)) ∧ 0 ≤ d ∧ 0 ≤ m ∧ m < 2147483647 ∧ Old S L H H', ?_, ?_⟩
    · walk_at "ls"
      refine ite2 (fun e => ?_) (fun e => ?_)
      · walk_at "ls"
        refine ⟨by decide, fun p hp => ?_⟩
        have hd : d = 0 := V.int.inj (of_decide_eq_true e)
        subst hd
        have nSp : p ≠ S := fun z => by rw [z, upd_same] at hp; cases hp
        have nLp : p ≠ L := fun z => by rw [z, upd_ne nSL.symm, hL] at hp; cases hp
        refine ⟨.list (ns.map .int), .list [], .lst (.inl (.inl (by walk_at "ls_hp"))) (dp_ints _), .lst (.inl (.inl upd_same)) .nil, shaped_ints ns, by decide +kernel, _, rfl, ?_⟩
        rw [eqv_nil]
        cases ns with
        | nil =>
          rw [decide_eq_true rfl]
          refine iteF ?_
          exact ⟨rfl, [], 0, m, (by walk_at "ls_hp"), (by walk_at "ls_hp"), d0, m0, m1, fun b o h1 h2 e => by rw [upd_ne (ne_of_none (by rw [upd_ne h1]; exact e) hp), upd_ne h1]; exact e⟩
        | cons x r =>
          rw [decide_eq_false (by simp)]
          refine iteT ?_
          walk_at "ls"
          refine ⟨_, _, _, 0, .int x, rfl, rfl, (by walk_at "ls_hp"), by decide, by decide, (ixN_seq (by show ixN ((List.map V.int (x :: r)).length) 0 = some 0; unfold ixN; rw [if_pos (by decide), if_pos (by rw [List.length_map, List.length_cons]; omega)]; rfl)).1, rfl, ?_⟩
          walk_at "ls"
          refine ⟨⟨by decide, by decide, by decide⟩, ?_⟩
          walk_at "ls"
          refine ite2 (fun e => ?_) (fun e => ?_)
          · walk_at "ls"
            refine ⟨.inr ⟨by decide, by decide⟩, ?_⟩
            walk_at "ls"
            refine .inl ⟨_, rfl, ?_⟩
            walk_at "ls"
            refine ⟨(by show (0 : Int) < 2147483647; decide), ?_⟩
            walk_at "ls"
            refine ⟨rfl, r, 0, _, upd_same, (by walk_at "ls_hp"), by decide, emod_lo _ (by decide), emod_hi _ (by decide), fun b o h1 h2 e => ?_⟩
            have np : b ≠ p := ne_of_none (by rw [upd_ne h1]; exact e) hp
            rw [upd_ne h1, upd_ne h1, upd_ne h1, upd_ne h2, upd_ne np, upd_ne h1]
            exact e
          · refine ⟨rfl, r, x, m, upd_same, (by walk_at "ls_hp"), ?_, m0, m1, fun b o h1 h2 e => ?_⟩
            · have hx : ¬ x < 10 ^ (18 : Int).toNat := fun z => e (decide_eq_true z)
              have h18 : (0 : Int) ≤ 10 ^ (18 : Int).toNat := by decide
              omega
            have np : b ≠ p := ne_of_none (by rw [upd_ne h1]; exact e) hp
            rw [upd_ne h1, upd_ne h2, upd_ne np, upd_ne h1]
            exact e
      · exact ⟨rfl, ns, d, m, upd_same, (by walk_at "ls_hp"), d0, m0, m1, fun b o h1 h2 e => by rw [upd_ne h1]; exact e⟩
    · rintro σ' H' ⟨rfl, ns, d, m, hS, hL, d0, m0, m1, hO⟩
      walk_at "ls"
      refine ite2 (fun e => ?_) (fun e => ?_)
      · have hd : 0 < d := of_decide_eq_true e
        walk_at "ls"
        refine .inl ⟨_, rfl, ?_⟩
        walk_at "ls"
        refine ⟨hk, ?_⟩
        walk_at "ls"
        refine ⟨⟨hk, log_lt hk hk2⟩, ?_⟩
        walk_at "ls"
        refine q _ _ (emod_lo _ hk) (emod_hi _ hk) ⟨ns, d / k, c + 1, m, upd_same, (by walk_at "ls_hp"), Int.ediv_nonneg (by omega) (by omega), by omega, by omega, m0, m1⟩ fun b o h1 h2 e => ?_
        rw [upd_ne h1]
        exact hO b o h1 h2 e
      · walk_at "ls"
        refine ⟨.inl ⟨by decide, by decide⟩, ?_⟩
        walk_at "ls"
        refine ⟨⟨by decide, by decide, lt_pow m0 m1 (by omega) (by omega)⟩, ?_⟩
        walk_at "ls"
        refine ⟨(by show (0 : Int) < 2147483629; decide), ?_⟩
        walk_at "ls"
        refine ⟨.inr ⟨by decide, by decide⟩, ?_⟩
        walk_at "ls"
        refine ⟨.inl ⟨by decide, by decide⟩, ?_⟩
        walk_at "ls"
        refine ⟨.inr ⟨by omega, by omega⟩, ?_⟩
        walk_at "ls"
        have hx := emod_hi ((m + 104729 * (c + 1) + 17) ^ Int.toNat 5) (show (0 : Int) < 2147483629 by decide)
        have hx0 := emod_lo ((m + 104729 * (c + 1) + 17) ^ Int.toNat 5) (show (0 : Int) < 2147483629 by decide)
        have hsq := sq_le (c := c + 1) (by omega) (by omega)
        refine ⟨⟨by decide, by decide, ?_⟩, ?_⟩
        · show Int.natAbs ((m + 104729 * (c + 1) + 17) ^ Int.toNat 5 % 2147483629 * 48271 + 40503 * (c + 1) * (c + 1) + 13) < 2 ^ 64
          omega
        walk_at "ls"
        refine ⟨(by show (0 : Int) < 1000000007; decide), ?_⟩
        walk_at "ls"
        refine ⟨hk, ?_⟩
        refine q _ _ (emod_lo _ hk) (emod_hi _ hk) ⟨ns, d, c + 1, m, hS, hL, d0, by omega, by omega, m0, m1⟩ hO
end
end Ls
namespace Ls
open PySem PySem.Spec PyProof.Rows L2
/-! ### short steps -/
local macro_rules | `(tactic| walk_at "ls_ne") => `(tactic| first | assumption | exact Ne.symm (by assumption) | exact ne_of_none (by assumption) (by assumption) | exact Ne.symm (ne_of_none (by assumption) (by assumption)))
local macro_rules | `(tactic| walk_at "ls_hp") => `(tactic| first
  | with_reducible assumption
  | exact upd_same
  | exact Eq.trans (upd_ne (by walk_at "ls_ne")) (by walk_at "ls_hp"))
local macro_rules | `(tactic| walk_at "ls_st") => `(tactic| first
  | with_reducible assumption
  | exact Stm.upd (by walk_at "ls_st") (by first | walk_at "ls_ne" | exact (Stm.noneS (by assumption) (by assumption)).1) (by first | walk_at "ls_ne" | exact (Stm.noneS (by assumption) (by assumption)).2))
local macro_rules | `(tactic| walk_at "ls1") => `(tactic| first
  | refine ⟨_, rfl, ?_⟩
  | refine ⟨_, _, rfl, rfl, ?_⟩
  | refine ⟨_, _, _, _, rfl, rfl, .inl (.inl (by walk_at "ls_hp")), rfl, ?_⟩
  | refine ⟨_, _, _, _, rfl, rfl, (by walk_at "ls_hp"), rfl, ?_⟩
  | refine ⟨rfl, _, rfl, ?_⟩
  | refine ⟨.inl ⟨rfl, _, .inl (.inl (by walk_at "ls_hp"))⟩, ?_⟩)
local macro_rules | `(tactic| walk_at "ls") => `(tactic| repeat (walk_at "ls1"))

/-! ### texts -/
theorem abc_cps : (("abcdefghijklmnopqrstuvwxyz" : Str)).cps.toList = List.range' 97 26 := by decide +kernel
theorem abc_at {i : Int} (h0 : 0 ≤ i) (h1 : i < 26) : ∃ c : Nat, atI (("abcdefghijklmnopqrstuvwxyz" : Str)).cps.toList i = some c ∧ 97 ≤ c ∧ c ≤ 122 := by
  obtain ⟨n, rfl⟩ := Int.eq_ofNat_of_zero_le h0
  refine ⟨97 + n, ?_, by omega, by omega⟩
  rw [atI_nat (j := n) (v := 97 + n)]
  rw [abc_cps, List.getElem?_range' (by omega)]
  simp
/-- one to eight small letters -/
def Nm' (z : Str) : Prop := 1 ≤ z.length ∧ z.length ≤ 8 ∧ ∀ c ∈ z.cps.toList, 97 ≤ c ∧ c ≤ 122
def Nm (z : Str) : Prop := Nm' z ∧ z ≠ "strike"
def words : List Str := ["kind", "open", "column", "from", "to", "check", "fall", "clear", "lone", "fresh", "put", "turn", "fell", "spread", "stuck", "again", "bare", "hold"]
theorem words_nm : ∀ y ∈ words, Nm' y := by
  intro y hy
  have h : words.all (fun y => decide (1 ≤ y.length) && decide (y.length ≤ 8) && y.cps.toList.all fun c => decide (97 ≤ c) && decide (c ≤ 122)) = true := by decide +kernel
  have h2 := List.all_eq_true.mp h y hy
  simp only [Bool.and_eq_true, decide_eq_true_eq, List.all_eq_true] at h2
  exact ⟨h2.1.1, h2.1.2, fun c hc => h2.2 c hc⟩
theorem words_at {i : Int} (h0 : 0 ≤ i) (h1 : i < 18) : ∃ y, atI (words.map V.str) i = some (.str y) ∧ y ∈ words := by
  obtain ⟨n, rfl⟩ := Int.eq_ofNat_of_zero_le h0
  have hl : words.length = 18 := by decide +kernel
  have hn : n < words.length := by omega
  refine ⟨words[n], atI_nat ?_, List.getElem_mem hn⟩
  rw [List.getElem?_map, List.getElem?_eq_getElem hn]
  rfl
theorem all_flat : ∀ ts : List Str, (ts.map V.str).all flatV = true
  | [] => rfl
  | t :: r => by rw [List.map_cons, List.all_cons, all_flat r]; rfl
theorem in_strs (z : Str) : ∀ ts : List Str, inV (.str z) (ts.map V.str) = decide (z ∈ ts)
  | [] => rfl
  | t :: r => by
    have ih := in_strs z r
    unfold inV at ih ⊢
    rw [List.map_cons, List.any_cons, ih]
    by_cases h : t = z
    · subst h
      simp [eqV]
    · have h2 : ¬ z = t := fun e => h e.symm
      simp [eqV, h, h2]
theorem signs_at {z : Str} {i : Nat} {x : V} (h : (signs z)[i]? = some x) : ∃ c, x = .str ⟨#[c]⟩ := by
  unfold signs at h
  rw [List.getElem?_map] at h
  cases e : z.cps.toList[i]? with
  | none => rw [e] at h; cases h
  | some c => rw [e] at h; exact ⟨c, (Option.some.inj h).symm⟩
theorem str_at {ts : List Str} {i : Nat} {x : V} (h : (ts.map V.str)[i]? = some x) : ∃ y, x = .str y := by
  rw [List.getElem?_map] at h
  cases e : ts[i]? with
  | none => rw [e] at h; cases h
  | some c => rw [e] at h; exact ⟨c, (Option.some.inj h).symm⟩
def addQ : V → Option V
  | .str c => some (.str ("q" ++ c))
  | _ => none
def qs : List Str := (List.range' 97 26).map fun c => ("q" : Str) ++ (⟨#[c]⟩ : Str)
theorem addQ_all : (signs "abcdefghijklmnopqrstuvwxyz").filterMap addQ = qs.map V.str := by decide +kernel
theorem qs_nm : ∀ y ∈ qs, Nm y := by
  intro y hy
  have h : qs.all (fun y => decide (1 ≤ y.length) && decide (y.length ≤ 8) && (y.cps.toList.all fun c => decide (97 ≤ c) && decide (c ≤ 122)) && !decide (y = "strike")) = true := by decide +kernel
  have h2 := List.all_eq_true.mp h y hy
  simp only [Bool.and_eq_true, decide_eq_true_eq, List.all_eq_true, Bool.not_eq_true', decide_eq_false_iff_not] at h2
  exact ⟨⟨h2.1.1.1, h2.1.1.2, fun c hc => h2.1.2 c hc⟩, h2.2⟩
def notIn (ts : List Str) (v : V) : Option V := if inV v (ts.map V.str) = true then none else some v
theorem notIn_all (ts : List Str) : ∀ ys : List Str, (ys.map V.str).filterMap (notIn ts) = (ys.filter fun z => !decide (z ∈ ts)).map V.str
  | [] => rfl
  | y :: r => by
    rw [List.map_cons, List.filterMap_cons, List.filter_cons, notIn_all ts r]
    unfold notIn
    rw [in_strs]
    by_cases h : y ∈ ts
    · simp [h]
    · simp [h]
theorem sub_len : ∀ (l : List Str), l.Nodup → ∀ ts : List Str, (∀ x ∈ l, x ∈ ts) → l.length ≤ ts.length
  | [], _, ts, _ => Nat.zero_le _
  | a :: r, nd, ts, h => by
    have ha : a ∈ ts := h a (List.mem_cons_self ..)
    have nd' := List.nodup_cons.mp nd
    have ih := sub_len r nd'.2 (ts.erase a) fun x hx => (List.mem_erase_of_ne (fun e => nd'.1 (by rw [← e]; exact hx))).mpr (h x (List.mem_cons_of_mem _ hx))
    rw [List.length_erase_of_mem ha] at ih
    have : 0 < ts.length := List.length_pos_of_mem ha
    rw [List.length_cons]
    omega
theorem some_q {ts : List Str} (h : ts.length < 26) : ∃ y r, (qs.filter fun z => !decide (z ∈ ts)) = y :: r ∧ y ∈ qs ∧ y ∉ ts := by
  cases e : qs.filter fun z => !decide (z ∈ ts) with
  | nil =>
    have h2 : ∀ x ∈ qs, x ∈ ts := fun x hx => by
      have := List.filter_eq_nil_iff.mp e x hx
      simpa using this
    have h3 := sub_len qs (by decide +kernel) ts h2
    have h4 : qs.length = 26 := by decide +kernel
    omega
  | cons y r =>
    have hm : y ∈ qs.filter fun z => !decide (z ∈ ts) := by rw [e]; exact List.mem_cons_self ..
    have h2 := List.mem_filter.mp hm
    exact ⟨y, r, rfl, h2.1, by simpa using h2.2⟩
/-- a text of one sign -/
def one (c : Nat) : Str := ⟨#[c]⟩
theorem joinL_nil : ∀ ps : List (List Nat), TL.joinL [] ps = ps.flatten
  | [] => rfl
  | [p] => by simp [TL.joinL]
  | p :: q :: r => by
    show p ++ ([] ++ TL.joinL [] (q :: r)) = _
    rw [joinL_nil (q :: r)]
    simp
theorem join_ones (cs : List Nat) : Txt.join "" (cs.map one) = ⟨cs.toArray⟩ := by
  have e : cs.map one = (cs.map fun c => [c]).map SX.S := by rw [List.map_map]; rfl
  have e2 : (("" : Str)) = SX.S [] := by decide +kernel
  rw [e, e2, SX.join_S, joinL_nil]
  have : (cs.map fun c => [c]).flatten = cs := by
    clear e e2
    induction cs with
    | nil => rfl
    | cons a r ih =>
      rw [List.map_cons, List.flatten_cons, ih]
      rfl
  rw [this]
theorem ones_len (cs : List Nat) : ((cs.map one).map (·.length)).sum = cs.length := by
  induction cs with
  | nil => rfl
  | cons a r ih =>
    rw [List.map_cons, List.map_cons, List.sum_cons, ih]
    show (1 : Nat) + _ = _
    rw [List.length_cons]
    omega
section
variable {P : Program} {w : World} {K : PySem.W.Frag} {mg : Str → Option Value} {base : Heap}
theorem Old.sq {S L a : Addr} {H H' : Hp} {xs : List V} (h : Old S L H H') (h1 : a ≠ S) (h2 : a ≠ L) (q : SqL K H a xs) : SqL K H' a xs := by
  rcases q with (q | ⟨o, q⟩) | q
  · exact .inl (.inl (h _ _ h1 h2 q))
  · exact .inl (.inr ⟨o, h _ _ h1 h2 q⟩)
  · exact .inr q
/-! ### _law_pick -/
abbrev s__law_pick : Stmt := topS 29
theorem sc__law_pick : FnScope ["_law_stream", "_law_things"] ["_law_stream", "_law_things"] (defScope s__law_pick) := ⟨rfl, rfl, rfl, by decide +kernel, rfl, by decide +kernel, by decide +kernel⟩
abbrev N__law_pick : List Str := ["_law_stream", "_law_things"]
def spPick (K : PySem.W.Frag) : Sp := fun vs H Q _ => ∃ (S L a : Addr) (n : Nat) (xs : List V), vs = [.ref S, .ref a] ∧ Stm H S L n ∧ n ≤ 10000000 ∧ SqL K H a xs ∧ a ≠ S ∧ a ≠ L ∧ 0 < xs.length ∧ xs.length ≤ 1000000 ∧
  ∀ (H' : Hp) (v : V), v ∈ xs → Stm H' S L (n + 1) → Old S L H H' → Q v H'
theorem atI_mem {xs : List V} {i : Int} (h0 : 0 ≤ i) (h1 : i < (xs.length : Int)) : ∃ v, atI xs i = some v ∧ v ∈ xs := by
  obtain ⟨n, rfl⟩ := Int.eq_ofNat_of_zero_le h0
  have hn : n < xs.length := by omega
  exact ⟨xs[n], atI_nat (List.getElem?_eq_getElem hn), List.getElem_mem hn⟩
theorem ok_pick {f : Addr} {fd : FuncData} (F : Fun K "_law_pick" "_law_pick" s__law_pick f fd) (T : Bt mg) (O__law_draw : Own P w K mg base CX0 1 "_law_draw" ["_law_stream", "_law_many"] spDraw) : FnOk P w K mg base CX0 2 f fd ["_law_stream", "_law_things"] (spPick K) := by
  refine F.ok sc__law_pick (fun vs H Q E h => ?_) (fun cdv A outer s H vs Q E hr h => ?_)
  · obtain ⟨S, L, a, n, xs, rfl, _⟩ := h
    rfl
  · obtain ⟨S, L, a, n, xs, rfl, hst, hn, hq, aS, aL, x0, x1, q⟩ := h
    have hu := hu_of hr
    refine ⟨_, (pss_one (ps_ret (pe_ix (ixL K) (pv 1) (own_call O__law_draw hr (by first | decide | omega) (pa_cons (pv 0) (pa_cons (pe_callB (len_seq K) (by rfl) T.m_len (by decide +kernel) (pa_cons (pv 1) pa_nil)) pa_nil))) (fun _ _ => rfl)))), ?_⟩
    walk_at "ls"
    refine ⟨_, _, rfl, .inl hq, ?_⟩
    refine ⟨S, L, n, _, rfl, hst, hn, by omega, by omega, fun H' r r0 r1 hst' hO => ?_⟩
    obtain ⟨v, hv, hm⟩ := atI_mem r0 r1
    exact ⟨_, _, _, v, rfl, rfl, hO.sq aS aL hq, hv, q H' v hm hst' hO⟩
/-! ### _law_fresh -/
abbrev s__law_fresh : Stmt := topS 31
theorem sc__law_fresh : FnScope ["_law_stream", "_law_taken", "_law_letters", "_law_words", "_law_name", "_law_k", "_law_one", "_law_sign"] ["_law_stream", "_law_taken"] (defScope s__law_fresh) := ⟨rfl, rfl, rfl, by decide +kernel, rfl, by decide +kernel, by decide +kernel⟩
abbrev N__law_fresh : List Str := ["_law_stream", "_law_taken", "_law_letters", "_law_words", "_law_name", "_law_k", "_law_one", "_law_sign"]
def spFresh : Sp := fun vs H Q _ => ∃ (S L a : Addr) (n : Nat) (ts : List Str), vs = [.ref S, .ref a] ∧ Stm H S L n ∧ n ≤ 9999900 ∧ H a = some (.lst (ts.map V.str)) ∧ a ≠ S ∧ a ≠ L ∧ ts.length < 26 ∧
  ∀ (H' : Hp) (z : Str), Nm z → z ∉ ts → Stm H' S L (n + 12) → Old S L H H' → Q (.str z) H'
theorem ok_fresh {f : Addr} {fd : FuncData} (F : Fun K "_law_fresh" "_law_fresh" s__law_fresh f fd) (T : Bt mg) (O__law_draw : Own P w K mg base CX0 1 "_law_draw" ["_law_stream", "_law_many"] spDraw) : FnOk P w K mg base CX0 2 f fd ["_law_stream", "_law_taken"] spFresh := by
  refine F.ok sc__law_fresh (fun vs H Q E h => ?_) (fun cdv A outer s H vs Q E hr h => ?_)
  · obtain ⟨S, L, a, n, ts, rfl, _⟩ := h
    rfl
  · obtain ⟨S, L, a, n, ts, rfl, hst, hn, ha, aS, aL, tl, q⟩ := h
    have hu := hu_of hr
    refine ⟨_, (pss_cons (ps_asg (pe_tup (pa_cons pe_str (pa_cons (pe_lst (pa_cons pe_str (pa_cons pe_str (pa_cons pe_str (pa_cons pe_str (pa_cons pe_str (pa_cons pe_str (pa_cons pe_str pa_nil)))))))) pa_nil))) (pg_tup rfl (pgs_cons (pg_name (i := 2) sc__law_fresh.nd rfl (Or.inr rfl)) (pgs_cons (pg_name (i := 3) sc__law_fresh.nd rfl (Or.inl rfl)) pgs_nil))))
      (pss_cons (ps_set (i := 3) sc__law_fresh.nd rfl (Or.inl rfl) (pe_op op_cat (pv 3) (pe_lst (pa_cons pe_str (pa_cons pe_str (pa_cons pe_str (pa_cons pe_str (pa_cons pe_str (pa_cons pe_str (pa_cons pe_str (pa_cons pe_str (pa_cons pe_str (pa_cons pe_str (pa_cons pe_str pa_nil))))))))))))))
      (pss_cons (ps_set (i := 4) sc__law_fresh.nd rfl (Or.inl rfl) (pe_join pe_str (pe_lc (own := [("_law_k", 5)]) (g := gName 5) (by rfl) sc__law_fresh.nd (pi_range1 rfl T.m_range (pa_cons (pe_op op_add pe_int (own_call O__law_draw hr (by first | decide | omega) (pa_cons (pv 0) (pa_cons pe_int pa_nil)))) pa_nil)) (blkOk_by (own := [("_law_k", 5)]) (N := N__law_fresh) (sc := defScope s__law_fresh) (by decide +kernel)) (fun _ _ _ _ _ => (pg_name (i := 5) sc__law_fresh.nd rfl (Or.inl rfl) (Or.inr rfl))) (fun _ _ _ _ _ => pts_nil) (fun _ _ _ _ _ => (pe_ix ix_str (pv 2) (own_call O__law_draw hr (by first | decide | omega) (pa_cons (pv 0) (pa_cons pe_int pa_nil))) (fun _ _ => rfl))))))
      (C8.pss_cut (ps_set (i := 4) sc__law_fresh.nd rfl (Or.inl rfl) (pe_ifExp (pt_cmpR op_eq (own_call O__law_draw hr (by first | decide | omega) (pa_cons (pv 0) (pa_cons pe_int pa_nil))) pe_int (nomark _)) (pe_ix (ixL K) (pv 3) (own_call O__law_draw hr (by first | decide | omega) (pa_cons (pv 0) (pa_cons pe_int pa_nil))) (fun _ _ => rfl)) (pv 4)))
      (pss_cons (ps_if (PW.pt (pw_or (pt_cmpR (in_seq K) (pv 4) (pv 1) (by rfl)) (pw_or1 (pt_cmpR op_eq (pv 4) pe_str (nomark _))))) (pss_one (ps_ret (pe_ix (ixL K) (pe_lc (own := [("_law_one", 6)]) (g := gName 6) (by rfl) sc__law_fresh.nd (pi_list (pe_lc (own := [("_law_sign", 7)]) (g := gName 7) (by rfl) sc__law_fresh.nd (pi_str (pv 2)) (blkOk_by (own := [("_law_sign", 7)]) (N := N__law_fresh) (sc := defScope s__law_fresh) (by decide +kernel)) (fun _ _ _ _ _ => (pg_name (i := 7) sc__law_fresh.nd rfl (Or.inl rfl) (Or.inr rfl))) (fun _ _ _ _ _ => pts_nil) (fun _ _ _ _ _ => (pe_op op_add_str pe_str (pv 7))))) (blkOk_by (own := [("_law_one", 6)]) (N := N__law_fresh) (sc := defScope s__law_fresh) (by decide +kernel)) (fun _ _ _ _ _ => (pg_name (i := 6) sc__law_fresh.nd rfl (Or.inl rfl) (Or.inr rfl))) (fun _ _ _ _ _ => (pts_one (pt_cmpR (notIn_seq K) (pv 6) (pv 1) (by rfl)))) (fun _ _ _ _ _ => (pv 6))) pe_int (fun _ _ => rfl)))) pss_nil)
      (pss_one (ps_ret (pv 4)))))))), ?_⟩
    refine ⟨(by show 7 ≤ sizeLine; decide), fun w0 hw0 => ⟨(by show 2 ≤ sizeLine; decide), fun t0 ht0 => ?_⟩⟩
    have nw0 := hst.noneS hw0
    have nt0 : t0 ≠ w0 := fun e => by rw [e, upd_same] at ht0; cases ht0
    refine ⟨_, _, rfl, .inl (.inl upd_same), rfl, _, _, rfl, _, _, rfl, rfl, ?_⟩
    walk_at "ls"
    refine ⟨(by show 11 ≤ sizeLine; decide), fun w1 hw1 => ?_⟩
    have n10 : w1 ≠ w0 := fun e => by rw [e, upd_ne nt0.symm, upd_same] at hw1; cases hw1
    refine ⟨_, _, _, _, rfl, rfl, (by rw [upd_ne n10.symm, upd_ne nt0.symm]; exact upd_same), upd_same, (by show 7 + 11 ≤ sizeLine; decide), fun w2 hw2 => ?_⟩
    have mt := (Stm.upd hst nw0.1 nw0.2).noneS ht0
    have m1 := (Stm.upd (Stm.upd hst nw0.1 nw0.2) mt.1 mt.2).noneS hw1
    have m2 := (Stm.upd (Stm.upd (Stm.upd hst nw0.1 nw0.2) mt.1 mt.2) m1.1 m1.2).noneS hw2
    refine at_heap (φ := fun H1 => Stm H1 S L n ∧ Old S L H H1 ∧ H1 w2 = some (.lst (words.map V.str)) ∧ w2 ≠ S ∧ w2 ≠ L) ⟨?_, ?_, upd_same, m2⟩ ?_
    · exact (((hst.upd nw0.1 nw0.2).upd mt.1 mt.2).upd m1.1 m1.2).upd m2.1 m2.2
    · exact (((Old.new hw0).trans (.new ht0)).trans (.new hw1)).trans (.new hw2)
    rintro H1 ⟨st1, od1, h2, nw2⟩
    walk_at "ls"
    refine ⟨⟨_, rfl⟩, ?_⟩
    walk_at "ls"
    refine ⟨S, L, n, 8, rfl, st1, by omega, by decide, by decide, fun H2 r r0 r1 st2 od2 => ?_⟩
    walk_at "ls"
    refine ⟨by omega, by omega, fun D hD => ?_⟩
    have nD := st2.noneS hD
    refine lc_it walk_range (fun i H3 => ∃ cs : List Nat, cs.length = i ∧ (∀ c ∈ cs, 97 ≤ c ∧ c ≤ 122) ∧ H3 D = some (.lst ((cs.map one).map V.str)) ∧ Stm H3 S L (n + 1 + i) ∧ Old S L H2 H3) ⟨[], rfl, (fun _ h => nomatch h), upd_same, st2.upd nD.1 nD.2, .new hD⟩ (fun _ _ _ _ => trivial) (fun i x H3 H4 hi hP hy => ?_) (fun H3 hP => ?_)
    · obtain ⟨cs, hl, hc, h3, st3, od3⟩ := hP
      obtain ⟨rfl, rfl⟩ := hy
      refine ⟨rfl, ?_⟩
      walk_at "ls"
      refine ⟨S, L, n + 1 + i, 26, rfl, st3, by omega, by decide, by decide, fun H5 q0 q1 q2 st5 od5 => ?_⟩
      obtain ⟨c, hcat, hc1, hc2⟩ := abc_at q1 q2
      refine ⟨_, _, c, rfl, rfl, (by decide +kernel), hcat, _, od5 D _ nD.1 nD.2 h3, ?_, cs ++ [c], ?_, ?_, ?_, ?_, ?_⟩
      · rw [List.length_map, List.length_map, hl]
        exact small1000 (by omega)
      · rw [List.length_append, hl]
        rfl
      · intro d hd
        rcases List.mem_append.mp hd with h | h
        · exact hc d h
        · rw [List.mem_singleton.mp h]
          exact ⟨hc1, hc2⟩
      · rw [upd_same, List.map_append, List.map_append]
        rfl
      · exact (st5.mono (by omega)).upd nD.1 nD.2
      · intro b o h1 h2 e
        rw [upd_ne (ne_of_none e hD)]
        exact od5 b o h1 h2 (od3 b o h1 h2 e)
    · obtain ⟨cs, hl, hc, h3, st3, od3⟩ := hP
      refine ⟨_, D, cs.map one, rfl, rfl, .inl (.inl (.inl h3)), ?_, ?_⟩
      · rw [ones_len, List.length_map]
        show cs.length + cs.length * 0 ≤ 16777216
        omega
      rw [join_ones]
      refine at_heap (φ := fun H4 => Stm H4 S L (n + 10) ∧ Old S L H H4 ∧ H4 w2 = some (.lst (words.map V.str))) ⟨st3.mono (by omega), (od1.trans od2).trans od3, od3 _ _ nw2.1 nw2.2 (od2 _ _ nw2.1 nw2.2 h2)⟩ ?_
      rintro H4 ⟨st4, od4, h4⟩
      refine ⟨fun σ' H' => ∃ z, Nm' z ∧ σ' = [some (.ref S), some (.ref a), some (.str "abcdefghijklmnopqrstuvwxyz"), some (.ref w2), some (.str z), none, none, none] ∧ Stm H' S L (n + 12) ∧ Old S L H H', ?_, ?_⟩
      · walk_at "ls"
        refine ⟨S, L, n + 10, 8, rfl, st4, by omega, by decide, by decide, fun H5 q0 q1 q2 st5 od5 => ?_⟩
        walk_at "ls"
        refine ite2 (fun e => ?_) (fun e => ?_)
        · walk_at "ls"
          refine ⟨S, L, n + 11, 18, rfl, st5, by omega, by decide, by decide, fun H6 u0 u1 u2 st6 od6 => ?_⟩
          obtain ⟨y, hy, hm⟩ := words_at u1 u2
          exact ⟨_, _, _, _, rfl, rfl, .inl (.inl (od6 _ _ nw2.1 nw2.2 (od5 _ _ nw2.1 nw2.2 h4))), hy, y, words_nm y hm, rfl, st6, (od4.trans od5).trans od6⟩
        · walk_at "ls"
          exact ⟨_, ⟨(by show 1 ≤ cs.toArray.size; rw [List.size_toArray]; omega), (by show cs.toArray.size ≤ 8; rw [List.size_toArray]; omega), fun c h => hc c h⟩, rfl, st5.mono (by omega), od4.trans od5⟩
      · rintro σ' H6 ⟨z, hz, rfl, st6, od6⟩
        have ha6 : H6 a = some (.lst (ts.map V.str)) := od6 _ _ aS aL ha
        refine or2 (decide (z ∈ ts)) (decide (V.str z = V.str "strike")) (fun Q' q' => ?_) (fun _ Q' q' => ?_) ?_
        · walk_at "ls"
          refine ⟨_, _, rfl, .inl (.inl (.inl ha6)), rfl, all_flat ts, _, rfl, ?_⟩
          rw [in_strs]
          exact q'
        · walk_at "ls"
          exact q'
        refine ite2 (fun e => ?_) (fun e => ?_)
        · -- some name that is not taken
          walk_at "ls"
          intro D1 hD1
          refine lc_pure walk_str (signs "abcdefghijklmnopqrstuvwxyz") addQ (signs_len _) yld_str (by decide +kernel) (fun _ => trivial) (fun i x hi hx => ?_) ?_
          · obtain ⟨c, rfl⟩ := signs_at hx
            refine ⟨rfl, ?_⟩
            walk_at "ls"
            exact ⟨(by show 1 + 1 ≤ sizeLine; decide), lc_yes hx hi (by decide +kernel) rfl⟩
          have nd1 := st6.noneS hD1
          refine ⟨_, rfl, ⟨_, .inl (.inl upd_same)⟩, fun D2 hD2 => ?_⟩
          rw [addQ_all] at hD2 ⊢
          have n12 : D1 ≠ D2 := fun e => by rw [← e, upd_same] at hD2; cases hD2
          have naD : a ≠ D1 := ne_of_none ha6 hD1
          have ha7 : ∀ acc, (upd (upd H6 D1 (.lst (qs.map V.str))) D2 (.lst acc)) a = some (.lst (ts.map V.str)) := fun acc => by
            have naD2 : a ≠ D2 := ne_of_none (show (upd H6 D1 (.lst (qs.map V.str))) a = some _ by rw [upd_ne naD]; exact ha6) hD2
            rw [upd_ne naD2, upd_ne naD]
            exact ha6
          refine lc_pure (walk_list (xs := qs.map V.str)) (qs.map V.str) (notIn ts) rfl (fun i H x H' hi hy => hy) (by decide +kernel) (fun acc => .inl (.inl (by rw [upd_ne n12]; exact upd_same))) (fun i x hi hx => ?_) ?_
          · obtain ⟨y, rfl⟩ := str_at hx
            refine ⟨rfl, ?_⟩
            walk_at "ls"
            refine ⟨_, _, rfl, .inl (.inl (.inl (ha7 _))), rfl, all_flat ts, _, rfl, ?_⟩
            show if (!inV (V.str y) (ts.map V.str)) = true then _ else _
            rw [in_strs]
            refine ite2 (fun e => ?_) (fun e => ?_)
            · walk_at "ls"
              exact lc_yes hx hi (by decide +kernel) (by unfold notIn; rw [in_strs]; simpa using e)
            · exact lc_no hx (by unfold notIn; rw [in_strs]; simpa using e)
          · rw [notIn_all]
            obtain ⟨y, r, hy, hq, hn⟩ := some_q tl
            rw [hy]
            walk_at "ls"
            refine ⟨_, _, _, _, rfl, rfl, .inl (.inl upd_same), atI_nat (j := 0) rfl, q _ y (qs_nm y hq) hn ?_ ?_⟩
            · have nd2 := (st6.upd nd1.1 nd1.2).noneS hD2
              exact (st6.upd nd1.1 nd1.2).upd nd2.1 nd2.2
            · exact (od6.trans (.new hD1)).trans (.new hD2)
        · walk_at "ls"
          rw [Bool.or_eq_true, not_or, decide_eq_true_eq, decide_eq_true_eq] at e
          exact q H6 z ⟨hz, fun h => e.2 (congrArg V.str h)⟩ e.1 st6 od6
end
end Ls
namespace Ls
open PySem PySem.Spec PyProof.Rows L2
/-! ### short steps -/
local macro_rules | `(tactic| walk_at "ls_ne") => `(tactic| first | assumption | exact Ne.symm (by assumption) | exact ne_of_none (by assumption) (by assumption) | exact Ne.symm (ne_of_none (by assumption) (by assumption)))
local macro_rules | `(tactic| walk_at "ls_hp") => `(tactic| first
  | with_reducible assumption
  | exact upd_same
  | exact Eq.trans (upd_ne (by walk_at "ls_ne")) (by walk_at "ls_hp"))
local macro_rules | `(tactic| walk_at "ls_st") => `(tactic| first
  | with_reducible assumption
  | exact Stm.upd (by walk_at "ls_st") (by first | walk_at "ls_ne" | exact (Stm.noneS (by assumption) (by assumption)).1) (by first | walk_at "ls_ne" | exact (Stm.noneS (by assumption) (by assumption)).2))
local macro_rules | `(tactic| walk_at "ls1") => `(tactic| first
  | refine ⟨_, rfl, ?_⟩
  | refine ⟨_, _, rfl, rfl, ?_⟩
  | refine ⟨_, _, _, _, rfl, rfl, .inl (.inl (by walk_at "ls_hp")), rfl, ?_⟩
  | refine ⟨_, _, _, _, rfl, rfl, (by walk_at "ls_hp"), rfl, ?_⟩
  | refine ⟨rfl, _, rfl, ?_⟩
  | refine ⟨.inl ⟨rfl, _, .inl (.inl (by walk_at "ls_hp"))⟩, ?_⟩)
local macro_rules | `(tactic| walk_at "ls") => `(tactic| repeat (walk_at "ls1"))

section
variable {P : Program} {w : World} {K : PySem.W.Frag} {mg : Str → Option Value} {base : Heap}
theorem nodup_snoc {α : Type} {l : List α} {x : α} (h : l.Nodup) (hx : x ∉ l) : (l ++ [x]).Nodup := by
  rw [List.nodup_append]
  refine ⟨h, by simp, fun a ha b hb e => ?_⟩
  rw [List.mem_singleton.mp hb] at e
  exact hx (e ▸ ha)
theorem all_snoc {α : Type} {p : α → Prop} {l : List α} {x : α} (h : ∀ y ∈ l, p y) (hx : p x) : ∀ y ∈ l ++ [x], p y := fun y hy => by
  rcases List.mem_append.mp hy with h1 | h1
  · exact h y h1
  · rw [List.mem_singleton.mp h1]
    exact hx
/-! ### _law_names -/
abbrev s__law_names : Stmt := topS 32
theorem sc__law_names : FnScope ["_law_stream", "_law_many", "_law_found", "_law_k"] ["_law_stream", "_law_many"] (defScope s__law_names) := ⟨rfl, rfl, rfl, by decide +kernel, rfl, by decide +kernel, by decide +kernel⟩
abbrev N__law_names : List Str := ["_law_stream", "_law_many", "_law_found", "_law_k"]
/-- names, all unlike -/
def NmsOk (ts : List Str) : Prop := ts.Nodup ∧ ∀ z ∈ ts, Nm z
def spNames : Sp := fun vs H Q _ => ∃ (S L : Addr) (n m : Nat), vs = [.ref S, .int (m : Int)] ∧ Stm H S L n ∧ n ≤ 9999000 ∧ m ≤ 20 ∧
  ∀ (H' : Hp) (p : Addr) (ts : List Str), ts.length = m → NmsOk ts → H p = none → H' p = some (.lst (ts.map V.str)) → Stm H' S L (n + 12 * m) → Old S L H H' → Q (.ref p) H'
theorem ok_names {f : Addr} {fd : FuncData} (F : Fun K "_law_names" "_law_names" s__law_names f fd) (T : Bt mg) (O__law_fresh : Own P w K mg base CX0 2 "_law_fresh" ["_law_stream", "_law_taken"] spFresh) : FnOk P w K mg base CX0 3 f fd ["_law_stream", "_law_many"] spNames := by
  refine F.ok sc__law_names (fun vs H Q E h => ?_) (fun cdv A outer s H vs Q E hr h => ?_)
  · obtain ⟨S, L, n, m, rfl, _⟩ := h
    rfl
  · obtain ⟨S, L, n, m, rfl, hst, hn, hm, q⟩ := h
    have hu := hu_of hr
    refine ⟨_, (pss_cons (ps_set (i := 2) sc__law_names.nd rfl (Or.inl rfl) (pe_lst pa_nil))
      (pss_cons (ps_for PassesOwn.never rfl (pi_range1 rfl T.m_range (pa_cons (pv 1) pa_nil)) (pg_name (i := 3) sc__law_names.nd rfl (Or.inl rfl)) (pss_one (ps_expr (pe_bm PySem.F.plainAttrs_list PySem.F.slot_list_append PySem.F.type_list_append mt_append (pv 2) (pa_cons (own_call O__law_fresh hr (by first | decide | omega) (pa_cons (pv 0) (pa_cons (pv 2) pa_nil))) pa_nil)))))
      (pss_one (ps_ret (pv 2))))), ?_⟩
    refine ⟨Nat.zero_le _, fun p hp => ?_⟩
    have np := hst.noneS hp
    walk_at "ls"
    refine ⟨by omega, by omega, ?_⟩
    refine for_it walk_range (fun i σ H1 => ∃ (ts : List Str) (v : Option V), σ = [some (.ref S), some (.int (m : Int)), some (.ref p), v] ∧ ts.length = i ∧ NmsOk ts ∧ H1 p = some (.lst (ts.map V.str)) ∧ Stm H1 S L (n + 12 * i) ∧ Old S L H H1)
      ⟨[], none, rfl, rfl, ⟨List.nodup_nil, fun _ h => nomatch h⟩, upd_same, hst.upd np.1 np.2, .new hp⟩ (fun _ _ _ _ _ => trivial) ?_ ?_
    · rintro i x σ H1 H2 hi ⟨ts, v, rfl, hl, hok, h1, st1, od1⟩ ⟨rfl, rfl⟩
      walk_at "ls"
      refine ⟨S, L, p, n + 12 * i, ts, rfl, st1, by omega, h1, np.1, np.2, by omega, fun H3 z hz hn2 st3 od3 => ?_⟩
      refine ⟨_, _, _, rfl, rfl, od3 _ _ np.1 np.2 h1, ?_, ts ++ [z], _, rfl, ?_, ⟨?_, ?_⟩, ?_, ?_, ?_⟩
      · rw [List.length_map]
        exact small1000 (by omega)
      · rw [List.length_append, hl]
        rfl
      · exact nodup_snoc hok.1 hn2
      · exact all_snoc hok.2 hz
      · rw [upd_same, List.map_append]
        rfl
      · exact (st3.mono (by omega)).upd np.1 np.2
      · exact (od1.trans od3).set hp
    · rintro σ H1 ⟨ts, v, rfl, hl, hok, h1, st1, od1⟩
      walk_at "ls"
      exact q H1 p ts hl hok hp h1 st1 od1
/-! ### _law_shape -/
abbrev s__law_shape : Stmt := topS 33
theorem sc__law_shape : FnScope ["_law_stream", "_law_many", "_law_most", "_law_words", "_law_columns", "_law_name", "_law_home", "_law_goal", "_law_kinds"] ["_law_stream", "_law_many", "_law_most"] (defScope s__law_shape) := ⟨rfl, rfl, rfl, by decide +kernel, rfl, by decide +kernel, by decide +kernel⟩
abbrev N__law_shape : List Str := ["_law_stream", "_law_many", "_law_most", "_law_words", "_law_columns", "_law_name", "_law_home", "_law_goal", "_law_kinds"]
/-- what a book is made of: kinds, columns (a name, its home, its goal, does it fall) -/
structure Shp where
  ks : List (Str × Bool)
  cs : List (Str × Str × Str × Bool)
abbrev ruleS (b : Bool) : Str := if b then "fall" else "clear"
def kindV (k : Str × Bool) : List V := [.str k.1, .bl k.2]
def colV (c : Str × Str × Str × Bool) : List V := [.str c.1, .str c.2.1, .str c.2.2.1, .str (ruleS c.2.2.2)]
/-- v is a tuple of these values -/
def TupOf (H : Hp) (v : V) (ys : List V) : Prop := ∃ t, v = .ref t ∧ H t = some (.tup ys)
/-- a list of tuples stands at a -/
def TupsAt (H : Hp) (xs : List V) (yss : List (List V)) : Prop := Paired (TupOf H) xs yss
structure Shp.Ok (B : Shp) : Prop where
  nk : 0 < B.ks.length
  nk3 : B.ks.length ≤ 3
  nc : B.cs.length ≤ 8
  nd : (B.ks.map (·.1) ++ B.cs.map (·.1)).Nodup
  nm : ∀ z ∈ B.ks.map (·.1) ++ B.cs.map (·.1), Nm z
  home : ∀ c ∈ B.cs, c.2.1 ∈ B.ks.map (·.1)
  goal : ∀ c ∈ B.cs, c.2.2.1 ∈ B.ks.map (·.1)
  nc0 : 0 < B.cs.length
/-- the law's own record of a shape at b -/
structure ShpAt (S L : Addr) (H : Hp) (b : Addr) (B : Shp) (ck : List Str) : Prop where
  ex : ∃ (ka ca ea : Addr) (kx cx : List V), H b = some (.dK [(.inr "kinds", .ref ka), (.inr "columns", .ref ca), (.inr "checks", .ref ea)]) ∧
    H ka = some (.lst kx) ∧ TupsAt H kx (B.ks.map kindV) ∧ H ca = some (.lst cx) ∧ TupsAt H cx (B.cs.map colV) ∧ H ea = some (.lst (ck.map V.str)) ∧ (ka ≠ S ∧ ka ≠ L) ∧ (ca ≠ S ∧ ca ≠ L) ∧ (ea ≠ S ∧ ea ≠ L)
/-! ### what stays of tuples -/
def TK (H H' : Hp) : Prop := ∀ t ys, H t = some (.tup ys) → H' t = some (.tup ys)
theorem TK.refl (H : Hp) : TK H H := fun _ _ h => h
theorem TK.trans {H H1 H2 : Hp} (a : TK H H1) (b : TK H1 H2) : TK H H2 := fun t ys h => b t ys (a t ys h)
theorem TK.same {H H1 : Hp} (s : Same H H1) : TK H H1 := fun t ys h => s t _ h
theorem TK.new {H : Hp} {p : Addr} {o : HO} (h : H p = none) : TK H (upd H p o) := .same (same_new h)
theorem TK.lst {H : Hp} {p : Addr} {o : HO} {xs : List V} (h : H p = some (.lst xs)) : TK H (upd H p o) := fun t ys e => by
  rw [upd_ne (ne_of e h fun z => nomatch z)]
  exact e
theorem TK.dK {H : Hp} {p : Addr} {o : HO} {xs : List (Key × V)} (h : H p = some (.dK xs)) : TK H (upd H p o) := fun t ys e => by
  rw [upd_ne (ne_of e h fun z => nomatch z)]
  exact e
theorem TK.old {S L : Addr} {H H' : Hp} {n : Nat} (st : Stm H S L n) (od : Old S L H H') : TK H H' := fun t ys e => by
  obtain ⟨ns, d, c, k, h1, h2, _⟩ := st
  exact od _ _ (ne_of e h1 fun z => nomatch z) (ne_of e h2 fun z => nomatch z) e
theorem TupOf.keep {H H' : Hp} {v : V} {ys : List V} (h : TupOf H v ys) (k : TK H H') : TupOf H' v ys := by
  obtain ⟨t, e, h⟩ := h
  exact ⟨t, e, k _ _ h⟩
theorem TupsAt.keep {H H' : Hp} : ∀ {xs : List V} {yss : List (List V)}, TupsAt H xs yss → TK H H' → TupsAt H' xs yss
  | _, _, .nil, _ => .nil
  | _, _, .cons r t, k => .cons (r.keep k) (TupsAt.keep t k)
theorem TupsAt.snoc {H : Hp} : ∀ {xs : List V} {yss : List (List V)} {v : V} {ys : List V}, TupsAt H xs yss → TupOf H v ys → TupsAt H (xs ++ [v]) (yss ++ [ys])
  | _, _, _, _, .nil, r => .cons r .nil
  | _, _, _, _, .cons a t, r => .cons a (TupsAt.snoc t r)
theorem TupsAt.len {H : Hp} {xs : List V} {yss : List (List V)} (h : TupsAt H xs yss) : xs.length = yss.length := Paired.length h
theorem rule_at {i : Int} (h0 : 0 ≤ i) (h1 : i < 3) : ∃ b, atI [V.str "fall", V.str "fall", V.str "clear"] i = some (.str (ruleS b)) := by
  obtain ⟨n, rfl⟩ := Int.eq_ofNat_of_zero_le h0
  match n, h1 with
  | 0, _ => exact ⟨true, rfl⟩
  | 1, _ => exact ⟨true, rfl⟩
  | 2, _ => exact ⟨false, rfl⟩
  | k + 3, h => omega
theorem ShpAt.old {S L : Addr} {H H' : Hp} {b : Addr} {B : Shp} {ck : List Str} {n : Nat} (h : ShpAt S L H b B ck) (st : Stm H S L n) (od : Old S L H H') : ShpAt S L H' b B ck := by
  obtain ⟨ka, ca, ea, kx, cx, hb, hk, hkt, hc, hct, he, n1, n2, n3⟩ := h
  have k := TK.old st od
  have nb : b ≠ S ∧ b ≠ L := by
    obtain ⟨ns, d, c, k, h1, h2, _⟩ := st
    exact ⟨ne_of hb h1 (fun z => nomatch z), ne_of hb h2 (fun z => nomatch z)⟩
  exact ⟨ka, ca, ea, kx, cx, od _ _ nb.1 nb.2 hb, od _ _ n1.1 n1.2 hk, hkt.keep k, od _ _ n2.1 n2.2 hc, hct.keep k, od _ _ n3.1 n3.2 he, n1, n2, n3⟩
theorem ShpAt.same {S L : Addr} {H H' : Hp} {b : Addr} {B : Shp} {ck : List Str} (h : ShpAt S L H b B ck) (s : Same H H') : ShpAt S L H' b B ck := by
  obtain ⟨ka, ca, ea, kx, cx, hb, hk, hkt, hc, hct, he, n1, n2, n3⟩ := h
  exact ⟨ka, ca, ea, kx, cx, s _ _ hb, s _ _ hk, hkt.keep (.same s), s _ _ hc, hct.keep (.same s), s _ _ he, n1, n2, n3⟩
theorem cut_take (xs : List V) (n : Nat) : cutV xs none (some (n : Int)) = xs.take n := by
  unfold cutV
  rw [HT.sIx_nat, HT.sIx_none, List.drop_zero, Nat.sub_zero]
  by_cases h : n ≤ xs.length
  · rw [Nat.min_eq_left h]
  · rw [Nat.min_eq_right (by omega), List.take_of_length_le (Nat.le_refl _), List.take_of_length_le (by omega)]
theorem cut_mid (xs : List V) (m k : Nat) (hm : m ≤ xs.length) : cutV xs (some (m : Int)) (some ((m + k : Nat) : Int)) = (xs.drop m).take k := by
  unfold cutV
  rw [HT.sIx_nat, HT.sIx_nat, Nat.min_eq_left hm]
  by_cases h : m + k ≤ xs.length
  · rw [Nat.min_eq_left h, Nat.add_sub_cancel_left]
  · rw [Nat.min_eq_right (by omega), List.take_of_length_le (by rw [List.length_drop]; omega), List.take_of_length_le (by rw [List.length_drop]; omega)]
end
section
variable {P : Program} {w : World} {K : PySem.W.Frag} {mg : Str → Option Value} {base : Heap}
def spShape : Sp := fun vs H Q _ => ∃ (S L : Addr) (n m c : Nat), vs = [.ref S, .int (m : Int), .int (c : Int)] ∧ Stm H S L n ∧ n ≤ 9990000 ∧ 0 < m ∧ m ≤ 3 ∧ 0 < c ∧ c ≤ 8 ∧
  ∀ (H' : Hp) (b : Addr) (B : Shp), B.Ok → B.ks.length = m → B.cs.length ≤ c → H b = none → ShpAt S L H' b B [] → Stm H' S L (n + 200) → Old S L H H' → Q (.ref b) H'
theorem ok_shape {f : Addr} {fd : FuncData} (F : Fun K "_law_shape" "_law_shape" s__law_shape f fd) (T : Bt mg) (O__law_draw : Own P w K mg base CX0 1 "_law_draw" ["_law_stream", "_law_many"] spDraw)
    (O__law_pick : Own P w K mg base CX0 2 "_law_pick" ["_law_stream", "_law_things"] (spPick K)) (O__law_names : Own P w K mg base CX0 3 "_law_names" ["_law_stream", "_law_many"] spNames) :
    FnOk P w K mg base CX0 4 f fd ["_law_stream", "_law_many", "_law_most"] spShape := by
  refine F.ok sc__law_shape (fun vs H Q E h => ?_) (fun cdv A outer s H vs Q E hr h => ?_)
  · obtain ⟨S, L, n, m, c, rfl, _⟩ := h
    rfl
  · obtain ⟨S, L, n, m, c, rfl, hst, hn, m0, m3, c0, c8, q⟩ := h
    have hu := hu_of hr
    refine ⟨_, (pss_cons (ps_par (i := 3) (j := 4) (by rfl) sc__law_shape.nd rfl rfl (by decide) rfl rfl (pa_cons (own_call O__law_names hr (by first | decide | omega) (pa_cons (pv 0) (pa_cons (pe_op op_add (pv 1) (pv 2)) pa_nil))) (pa_cons (pe_lst pa_nil) pa_nil)) (by rfl))
      (pss_cons (ps_for PassesOwn.never rfl (pi_list (pe_slice sl_list (pv 3) (po_some (pv 1)) (po_some (pe_op op_add (pe_op op_add (pv 1) pe_int) (own_call O__law_draw hr (by first | decide | omega) (pa_cons (pv 0) (pa_cons (pv 2) pa_nil))))))) (pg_name (i := 5) sc__law_shape.nd rfl (Or.inl rfl)) (pss_cons (ps_par (i := 6) (j := 7) (by rfl) sc__law_shape.nd rfl rfl (by decide) rfl rfl (pa_cons (own_call O__law_pick hr (by first | decide | omega) (pa_cons (pv 0) (pa_cons (pe_slice sl_list (pv 3) po_none (po_some (pv 1))) pa_nil))) (pa_cons (own_call O__law_pick hr (by first | decide | omega) (pa_cons (pv 0) (pa_cons (pe_slice sl_list (pv 3) po_none (po_some (pv 1))) pa_nil))) pa_nil)) (by rfl))
      (pss_one (ps_expr (pe_bm PySem.F.plainAttrs_list PySem.F.slot_list_append PySem.F.type_list_append mt_append (pv 4) (pa_cons (pe_tup (pa_cons (pv 5) (pa_cons (pv 6) (pa_cons (pv 7) (pa_cons (pe_ix (ixL K) (pe_lst (pa_cons pe_str (pa_cons pe_str (pa_cons pe_str pa_nil)))) (own_call O__law_draw hr (by first | decide | omega) (pa_cons (pv 0) (pa_cons pe_int pa_nil))) (fun _ _ => rfl)) pa_nil))))) pa_nil))))))
      (pss_cons (ps_setLc (i := 8) (own := [("_law_name", 5)]) (g := gName 5) (by rfl) sc__law_shape.nd rfl rfl (sw_true rfl rfl rfl (by decide +kernel)) (pi_list (pe_slice sl_list (pv 3) po_none (po_some (pv 1)))) (blkOk_by (own := [("_law_name", 5)]) (N := N__law_shape) (sc := defScope s__law_shape) (by decide +kernel)) (fun _ _ _ _ _ => (pg_name (i := 5) sc__law_shape.nd rfl (Or.inl rfl) (Or.inr rfl))) (fun _ _ _ _ _ => pts_nil) (fun _ _ _ _ _ => (pe_tup (pa_cons (pv 5) (pa_cons (pe_cmpR op_gt (own_call O__law_draw hr (by first | decide | omega) (pa_cons (pv 0) (pa_cons pe_int pa_nil))) pe_int (nomark _)) pa_nil)))))
      (pss_one (ps_ret (pe_disp (pps_cons pe_str (pv 8) (pps_cons pe_str (pv 4) (pps_cons pe_str (pe_lst pa_nil) pps_nil))) (by rfl) (by rfl) (fun z => by cases z) (by decide))))))), ?_⟩
    walk_at "ls"
    refine ⟨S, L, n, m + c, rfl, hst, by omega, by omega, fun H1 pw ts tl tok hpw h1 st1 od1 => ?_⟩
    refine ⟨Nat.zero_le _, fun ca hca => ?_⟩
    refine ⟨_, _, rfl, ?_⟩
    have npw := hst.noneS hpw
    have hca0 : H ca = none := by
      cases e : H ca with
      | none => rfl
      | some o => rw [od1 _ _ (st1.noneS hca).1 (st1.noneS hca).2 e] at hca; cases hca
    have nca := st1.noneS hca
    have ncw : pw ≠ ca := ne_of_none h1 hca
    -- the slice of the columns' names
    walk_at "ls"
    refine ⟨S, L, n + 12 * (m + c), (c : Int), rfl, st1.upd nca.1 nca.2, by omega, by omega, by omega, fun H2 r r0 r1 st2 od2 => ?_⟩
    walk_at "ls"
    have h2 : H2 pw = some (.lst (ts.map V.str)) := od2 _ _ npw.1 npw.2 (by rw [upd_ne ncw]; exact h1)
    have h2c : H2 ca = some (.lst []) := od2 _ _ nca.1 nca.2 upd_same
    refine ⟨pw, _, rfl, .inl (.inl h2), fun sa hsa => ?_⟩
    have nsa := st2.noneS hsa
    have nsw : pw ≠ sa := ne_of_none h2 hsa
    have nsc : ca ≠ sa := ne_of_none h2c hsa
    obtain ⟨r, rfl⟩ := Int.eq_ofNat_of_zero_le r0
    have ecut : cutV (ts.map V.str) (some (m : Int)) (some ((m : Int) + 1 + (r : Int))) = (((ts.drop m).take (1 + r)).map V.str) := by
      have := cut_mid (ts.map V.str) m (1 + r) (by rw [List.length_map]; omega)
      rw [show ((m : Int) + 1 + (r : Int)) = ((m + (1 + r) : Nat) : Int) by omega, this, List.map_take, List.map_drop]
    refine at_heap (φ := fun H3 => Stm H3 S L (n + 12 * (m + c) + 1) ∧ Old S L H H3 ∧ H3 pw = some (.lst (ts.map V.str)) ∧ H3 ca = some (.lst []) ∧ H3 sa = some (.lst (((ts.drop m).take (1 + r)).map V.str)))
      ⟨st2.upd nsa.1 nsa.2, ((od1.trans (.new hca)).trans od2).trans (.new hsa), (by rw [upd_ne nsw]; exact h2), (by rw [upd_ne nsc]; exact h2c), (by rw [← ecut]; exact upd_same)⟩ ?_
    rintro H3 ⟨st3, od3, h3, h3c, h3s⟩
    refine ⟨sa, rfl, ⟨_, .inl (.inl h3s)⟩, ?_⟩
    have lC : ((ts.drop m).take (1 + r)).length ≤ c := by rw [List.length_take, List.length_drop]; omega
    refine for_it (walk_list (xs := (((ts.drop m).take (1 + r)).map V.str))) (fun i σ H4 => ∃ (cs : List (Str × Str × Str × Bool)) (cx : List V) (v5 v6 v7 : Option V), σ = [some (.ref S), some (.int (m : Int)), some (.int (c : Int)), some (.ref pw), some (.ref ca), v5, v6, v7, none] ∧
        cs.map (·.1) = ((ts.drop m).take (1 + r)).take i ∧ (∀ d ∈ cs, d.2.1 ∈ ts.take m ∧ d.2.2.1 ∈ ts.take m) ∧ H4 ca = some (.lst cx) ∧ TupsAt H4 cx (cs.map colV) ∧ Stm H4 S L (n + 12 * (m + c) + 1 + 3 * i) ∧ Old S L H H4 ∧
        H4 pw = some (.lst (ts.map V.str)) ∧ H4 sa = some (.lst (((ts.drop m).take (1 + r)).map V.str)))
      ⟨[], [], none, none, none, rfl, rfl, (fun _ h => nomatch h), h3c, .nil, st3, od3, h3, h3s⟩ (fun i σ H4 _ ⟨_, _, _, _, _, _, _, _, _, _, _, _, _, hs⟩ => .inl (.inl hs)) ?_ ?_
    · rintro i x σ Hz H4 hi ⟨cs, cx, v5, v6, v7, rfl, ecs, hcs, h4c, h4t, st4, od4, h4, h4s⟩ ⟨rfl, hx⟩
      obtain ⟨z, rfl⟩ := str_at hx
      rw [List.length_map] at hi
      walk_at "ls"
      -- home
      refine ⟨pw, _, rfl, .inl (.inl h4), fun p1 hp1 => ?_⟩
      have n1 := st4.noneS hp1
      have n1w : pw ≠ p1 := ne_of_none h4 hp1
      rw [cut_take, ← List.map_take]
      refine ⟨S, L, p1, _, _, rfl, st4.upd n1.1 n1.2, by omega, .inl (.inl upd_same), n1.1, n1.2, ?_, ?_, fun H5 v hv st5 od5 => ?_⟩
      · rw [List.length_map, List.length_take]
        omega
      · rw [List.length_map, List.length_take]
        omega
      obtain ⟨hm, hhm, rfl⟩ := List.mem_map.mp hv
      have h5 : H5 pw = some (.lst (ts.map V.str)) := od5 _ _ npw.1 npw.2 (by rw [upd_ne n1w]; exact h4)
      walk_at "ls"
      -- goal
      refine ⟨pw, _, rfl, .inl (.inl h5), fun p2 hp2 => ?_⟩
      have n2 := st5.noneS hp2
      have n2w : pw ≠ p2 := ne_of_none h5 hp2
      rw [cut_take, ← List.map_take]
      refine ⟨S, L, p2, _, _, rfl, st5.upd n2.1 n2.2, by omega, .inl (.inl upd_same), n2.1, n2.2, ?_, ?_, fun H6 v2 hv2 st6 od6 => ?_⟩
      · rw [List.length_map, List.length_take]
        omega
      · rw [List.length_map, List.length_take]
        omega
      obtain ⟨gl, hgl, rfl⟩ := List.mem_map.mp hv2
      have k46 : Old S L H4 H6 := (((Old.new hp1).trans od5).trans (.new hp2)).trans od6
      have h6c := k46 _ _ nca.1 nca.2 h4c
      refine ⟨_, _, rfl, ?_⟩
      walk_at "ls"
      refine ⟨(by show 3 ≤ sizeLine; decide), fun p3 hp3 => ?_⟩
      have n3 := st6.noneS hp3
      walk_at "ls"
      refine ⟨S, L, _, 3, rfl, st6.upd n3.1 n3.2, by omega, by decide, by decide, fun H7 q0 q1 q2 st7 od7 => ?_⟩
      obtain ⟨b, hb⟩ := rule_at q1 q2
      refine ⟨_, _, _, _, rfl, rfl, .inl (.inl (od7 _ _ n3.1 n3.2 upd_same)), hb, ?_⟩
      refine ⟨(by show 4 ≤ sizeLine; decide), fun t ht => ?_⟩
      have k47 : Old S L H4 H7 := (k46.trans (.new hp3)).trans od7
      have h7c := k47 _ _ nca.1 nca.2 h4c
      have nct : ca ≠ t := ne_of_none h7c ht
      have nt := st7.noneS ht
      refine ⟨_, _, _, rfl, rfl, (by rw [upd_ne nct]; exact h7c), ?_, ?_⟩
      · have := h4t.len
        have e2 : cs.length = i := by
          have := congrArg List.length ecs
          rw [List.length_map, List.length_take, Nat.min_eq_left (by omega)] at this
          exact this
        rw [List.length_map] at this
        exact small1000 (by omega)
      · have kt : TK H4 (upd (upd H7 t (.tup [.str z, .str hm, .str gl, .str (ruleS b)])) ca (.lst (cx ++ [.ref t]))) := ((TK.old st4 k47).trans (.new ht)).trans (.lst (by rw [upd_ne nct]; exact h7c))
        refine ⟨cs ++ [(z, hm, gl, b)], cx ++ [.ref t], _, _, _, rfl, ?_, ?_, upd_same, ?_, ?_, ?_, ?_, ?_⟩
        · have hz : ((ts.drop m).take (1 + r))[i]? = some z := by
            rw [List.getElem?_map] at hx
            cases e : ((ts.drop m).take (1 + r))[i]? with
            | none => rw [e] at hx; cases hx
            | some y => rw [e] at hx; cases hx; rfl
          rw [List.map_append, ecs, List.take_add_one, hz]
          rfl
        · exact all_snoc hcs ⟨hhm, hgl⟩
        · rw [List.map_append]
          exact (h4t.keep kt).snoc ⟨t, rfl, by rw [upd_ne nct.symm]; exact upd_same⟩
        · exact ((st7.mono (by omega)).upd nt.1 nt.2).upd nca.1 nca.2
        · exact ((od4.trans k47).trans (.new ht)).set hca0
        · rw [upd_ne ncw, upd_ne (ne_of_none (k47 _ _ npw.1 npw.2 h4) ht)]
          exact k47 _ _ npw.1 npw.2 h4
        · rw [upd_ne nsc.symm, upd_ne (ne_of_none (k47 _ _ nsa.1 nsa.2 h4s) ht)]
          exact k47 _ _ nsa.1 nsa.2 h4s
    · rintro σ H4 ⟨cs, cx, v5, v6, v7, rfl, ecs, hcs, h4c, h4t, st4, od4, h4, h4s⟩
      rw [List.length_map, List.take_length] at ecs
      rw [List.length_map] at st4
      walk_at "ls"
      refine ⟨pw, _, rfl, .inl (.inl h4), fun sk hsk => ?_⟩
      have nsk := st4.noneS hsk
      rw [cut_take, ← List.map_take]
      have nskw : pw ≠ sk := ne_of_none h4 hsk
      have nskc : ca ≠ sk := ne_of_none h4c hsk
      refine ⟨sk, rfl, ⟨_, .inl (.inl upd_same)⟩, fun D hD => ?_⟩
      have st5 := st4.upd (o := .lst ((ts.take m).map V.str)) nsk.1 nsk.2
      have nD := st5.noneS hD
      have nDk : sk ≠ D := ne_of_none upd_same hD
      have od4s : Old S L H (upd H4 sk (.lst ((ts.take m).map V.str))) := od4.trans (.new hsk)
      have h5c : (upd H4 sk (.lst ((ts.take m).map V.str))) ca = some (.lst cx) := by rw [upd_ne nskc]; exact h4c
      have nDc : ca ≠ D := ne_of_none h5c hD
      refine lc_it (walk_list (xs := (ts.take m).map V.str)) (fun i H5 => ∃ (ks : List (Str × Bool)) (kx : List V), ks.map (·.1) = (ts.take m).take i ∧ H5 D = some (.lst kx) ∧ TupsAt H5 kx (ks.map kindV) ∧ H5 sk = some (.lst ((ts.take m).map V.str)) ∧ H5 ca = some (.lst cx) ∧
          TupsAt H5 cx (cs.map colV) ∧ Stm H5 S L (n + 12 * (m + c) + 1 + 3 * ((ts.drop m).take (1 + r)).length + i) ∧ Old S L H H5)
        ⟨[], [], rfl, upd_same, .nil, (by rw [upd_ne nDk]; exact upd_same), (by rw [upd_ne nDc]; exact h5c), (h4t.keep (.new hsk)).keep (.new hD), st5.upd nD.1 nD.2, (od4.trans (.new hsk)).trans (.new hD)⟩
        (fun i H5 _ ⟨_, _, _, _, _, h, _⟩ => .inl (.inl h)) ?_ ?_
      · rintro i x Hz H5 hi ⟨ks, kx, eks, h5D, h5t, h5s, h5c, h5ct, st5, od5⟩ ⟨rfl, hx⟩
        obtain ⟨z, rfl⟩ := str_at hx
        rw [List.length_map] at hi
        refine ⟨rfl, ?_⟩
        walk_at "ls"
        have lm : (ts.take m).length ≤ m := by rw [List.length_take]; omega
        refine ⟨S, L, _, 3, rfl, st5, by omega, by decide, by decide, fun H6 q0 q1 q2 st6 od6 => ?_⟩
        walk_at "ls"
        refine ⟨(by show 2 ≤ sizeLine; decide), fun t ht => ?_⟩
        have nt := st6.noneS ht
        have h6D := od6 _ _ nD.1 nD.2 h5D
        have nDt : D ≠ t := ne_of_none h6D ht
        have h6D' : (upd H6 t (.tup [V.str z, V.bl (decide (0 < q0))])) D = some (.lst kx) := by rw [upd_ne nDt]; exact h6D
        have kt : TK H5 (upd (upd H6 t (.tup [V.str z, V.bl (decide (0 < q0))])) D (.lst (kx ++ [.ref t]))) := ((TK.old st5 od6).trans (.new ht)).trans (.lst h6D')
        have ek : ks.length = i := by
          have := congrArg List.length eks
          rw [List.length_map, List.length_take, Nat.min_eq_left (by omega)] at this
          exact this
        have hkl : kx.length = i := by rw [h5t.len, List.length_map, ek]
        have hz : (ts.take m)[i]? = some z := by
          rw [List.getElem?_map] at hx
          cases e : (ts.take m)[i]? with
          | none => rw [e] at hx; cases hx
          | some y => rw [e] at hx; cases hx; rfl
        have h6s := od6 _ _ nsk.1 nsk.2 h5s
        have h6c := od6 _ _ nca.1 nca.2 h5c
        have lm : (ts.take m).length ≤ m := by rw [List.length_take]; omega
        refine ⟨kx, h6D', small1000 (by omega), ks ++ [(z, decide (0 < q0))], kx ++ [.ref t], ?_, upd_same, ?_, ?_, ?_, h5ct.keep kt, ?_, ?_⟩
        · rw [List.map_append, eks, List.take_add_one, hz]
          rfl
        · rw [List.map_append]
          exact (h5t.keep kt).snoc ⟨t, rfl, by rw [upd_ne nDt.symm]; exact upd_same⟩
        · rw [upd_ne nDk, upd_ne (ne_of_none h6s ht)]
          exact h6s
        · rw [upd_ne nDc, upd_ne (ne_of_none h6c ht)]
          exact h6c
        · exact ((st6.mono (by omega)).upd nt.1 nt.2).upd nD.1 nD.2
        · exact ((od5.trans od6).trans (.new ht)).set (od4s.none hD nD)
      · rintro H5 ⟨ks, kx, eks, h5D, h5t, h5s, h5c, h5ct, st5, od5⟩
        rw [List.length_map, List.take_length] at eks
        rw [List.length_map] at st5
        intro b hb
        have nb := st5.noneS hb
        have nDb : D ≠ b := ne_of_none h5D hb
        have ncb : ca ≠ b := ne_of_none h5c hb
        walk_at "ls"
        refine ⟨Nat.zero_le _, fun ea hea => ?_⟩
        have neb : b ≠ ea := ne_of_none upd_same hea
        have nea := (st5.upd nb.1 nb.2).noneS hea
        have nDe : D ≠ ea := ne_of_none (show (upd H5 b (.dK [])) D = _ by rw [upd_ne nDb]; exact h5D) hea
        have nce : ca ≠ ea := ne_of_none (show (upd H5 b (.dK [])) ca = _ by rw [upd_ne ncb]; exact h5c) hea
        refine ⟨(by rw [upd_ne neb]; exact upd_same), [(.inr "kinds", .ref D), (.inr "columns", .ref ca), (.inr "checks", .ref ea)], rfl, (by show 3 ≤ 15; decide), ?_⟩
        have lm : (ts.take m).length = m := by rw [List.length_take]; omega
        have elk : ks.length = m := by
          have := congrArg List.length eks
          rw [List.length_map, lm] at this
          exact this
        have elc : cs.length ≤ c := by
          have := congrArg List.length ecs
          rw [List.length_map] at this
          omega
        have elc0 : 0 < cs.length := by
          have := congrArg List.length ecs
          rw [List.length_map, List.length_take, List.length_drop] at this
          omega
        have emb : ∀ z ∈ (ks.map (·.1) ++ cs.map (·.1)), z ∈ ts := by
          rw [eks, ecs]
          intro z hz
          rcases List.mem_append.mp hz with h | h
          · exact List.mem_of_mem_take h
          · exact List.mem_of_mem_drop (List.mem_of_mem_take h)
        have kt : TK H5 (upd (upd (upd H5 b (.dK [])) ea (.lst [])) b (.dK (mergeK [] [(.inr "kinds", .ref D), (.inr "columns", .ref ca), (.inr "checks", .ref ea)]))) :=
          ((TK.new hb).trans (.new hea)).trans (.dK (by rw [upd_ne neb]; exact upd_same))
        refine q _ b ⟨ks, cs⟩ ⟨by show 0 < ks.length; omega, by show ks.length ≤ 3; omega, by show cs.length ≤ 8; omega, ?_, fun z hz => tok.2 z (emb z hz), fun d hd => by show d.2.1 ∈ ks.map (·.1); rw [eks]; exact (hcs d hd).1, fun d hd => by show d.2.2.1 ∈ ks.map (·.1); rw [eks]; exact (hcs d hd).2, elc0⟩
          elk elc (od5.none hb nb) ⟨D, ca, ea, kx, cx, upd_same, ?_, h5t.keep kt, ?_, h5ct.keep kt, ?_, nD, nca, nea⟩ ?_ ?_
        · show (ks.map (·.1) ++ cs.map (·.1)).Nodup
          rw [eks, ecs]
          have nd := tok.1
          rw [← List.take_append_drop m ts] at nd
          have h1 := List.nodup_append.mp nd
          refine List.nodup_append.mpr ⟨h1.1, h1.2.1.sublist (List.take_sublist _ _), fun x hx y hy => h1.2.2 x hx y (List.mem_of_mem_take hy)⟩
        · rw [upd_ne nDb, upd_ne nDe, upd_ne nDb]
          exact h5D
        · rw [upd_ne ncb, upd_ne nce, upd_ne ncb]
          exact h5c
        · rw [upd_ne neb.symm]
          exact upd_same
        · exact (((st5.mono (by omega)).upd nb.1 nb.2).upd nea.1 nea.2).upd nb.1 nb.2
        · exact ((od5.trans (.new hb)).trans (.new hea)).set (od5.none hb nb)
end
end Ls
namespace Ls
open PySem PySem.Spec PyProof.Rows L2
/-! ### short steps -/
local macro_rules | `(tactic| walk_at "ls_ne") => `(tactic| first | assumption | exact Ne.symm (by assumption) | exact ne_of_none (by assumption) (by assumption) | exact Ne.symm (ne_of_none (by assumption) (by assumption)))
local macro_rules | `(tactic| walk_at "ls_hp") => `(tactic| first
  | with_reducible assumption
  | exact upd_same
  | exact Eq.trans (upd_ne (by walk_at "ls_ne")) (by walk_at "ls_hp"))
local macro_rules | `(tactic| walk_at "ls_st") => `(tactic| first
  | with_reducible assumption
  | exact Stm.upd (by walk_at "ls_st") (by first | walk_at "ls_ne" | exact (Stm.noneS (by assumption) (by assumption)).1) (by first | walk_at "ls_ne" | exact (Stm.noneS (by assumption) (by assumption)).2))
local macro_rules | `(tactic| walk_at "ls1") => `(tactic| first
  | refine ⟨_, rfl, ?_⟩
  | refine ⟨_, _, rfl, rfl, ?_⟩
  | refine ⟨_, _, _, _, rfl, rfl, .inl (.inl (by walk_at "ls_hp")), rfl, ?_⟩
  | refine ⟨_, _, _, _, rfl, rfl, (by walk_at "ls_hp"), rfl, ?_⟩
  | refine ⟨rfl, _, rfl, ?_⟩
  | refine ⟨.inl ⟨rfl, _, .inl (.inl (by walk_at "ls_hp"))⟩, ?_⟩)
local macro_rules | `(tactic| walk_at "ls") => `(tactic| repeat (walk_at "ls1"))

/-! ### the menu -/
def colW : List Str := ["put", "turn", "keep", "hold", "again"]
def kindW : List Str := ["bare", "calm", "again"]
def bookW : List Str := ["lone", "fresh"]
def withN (ws : List Str) (z : Str) : List Str := ws.map fun a => a ++ " " ++ z
def menu (B : Shp) : List Str := ((B.cs.flatMap fun c => withN colW c.1) ++ B.ks.flatMap fun k => withN kindW k.1) ++ bookW
def addN (z : Str) : V → Option V
  | .str a => some (.str (a ++ " " ++ z))
  | _ => none
theorem addN_all (z : Str) : ∀ ws : List Str, (ws.map V.str).filterMap (addN z) = (withN ws z).map V.str
  | [] => rfl
  | a :: r => by
    rw [List.map_cons, List.filterMap_cons]
    show V.str (a ++ " " ++ z) :: (r.map V.str).filterMap (addN z) = _
    rw [addN_all z r]
    rfl
theorem cat_len (a b : Str) : (a ++ b).length = a.length + b.length := Array.size_append
theorem flat_len {α : Type} (f : α → List Str) (k : Nat) (h : ∀ x, (f x).length = k) : ∀ l : List α, (l.flatMap f).length = k * l.length
  | [] => by simp
  | a :: r => by rw [List.flatMap_cons, List.length_append, flat_len f k h r, h, List.length_cons, Nat.mul_succ]; omega
theorem menu_len (B : Shp) : (menu B).length = 5 * B.cs.length + 3 * B.ks.length + 2 := by
  unfold menu
  rw [List.length_append, List.length_append, flat_len _ 5 (fun c => by rw [withN, List.length_map]; rfl), flat_len _ 3 (fun c => by rw [withN, List.length_map]; rfl)]
  rfl
theorem TupsAt.get {H : Hp} : ∀ {xs : List V} {yss : List (List V)} {i : Nat} {x : V}, TupsAt H xs yss → xs[i]? = some x → ∃ ys, yss[i]? = some ys ∧ TupOf H x ys
  | _, _, _, _, .nil, e => by simp at e
  | _, _, 0, x, .cons r _, e => by simp at e; subst e; exact ⟨_, rfl, r⟩
  | _, _, i + 1, x, .cons _ t, e => by
    obtain ⟨u, h1, h2⟩ := TupsAt.get (i := i) (x := x) t (by simpa using e)
    exact ⟨u, by simpa using h1, h2⟩
theorem map_get {α β : Type} {f : α → β} {l : List α} {i : Nat} {y : β} (h : (l.map f)[i]? = some y) : ∃ x, l[i]? = some x ∧ y = f x := by
  rw [List.getElem?_map] at h
  cases e : l[i]? with
  | none => rw [e] at h; cases h
  | some x => rw [e] at h; exact ⟨x, rfl, (Option.some.inj h).symm⟩
theorem colW_len : ∀ a ∈ colW, a.length ≤ 5 := by decide +kernel
theorem kindW_len : ∀ a ∈ kindW, a.length ≤ 5 := by decide +kernel
theorem room_str {a b : Str} {n m : Nat} (h1 : a.length ≤ n) (h2 : b.length ≤ m) (h3 : n + m ≤ 1000) : a.length + b.length ≤ sizeLine := Nat.le_trans (by omega) (show 1000 ≤ sizeLine by decide)
theorem word_len {a : Str} (h : a.length ≤ 5) : (a ++ " ").length ≤ 6 := by
  rw [cat_len]
  have : (" " : Str).length = 1 := by decide +kernel
  omega
theorem flat_snoc {α : Type} {f : α → List Str} {l : List α} {i : Nat} {c : α} (h : l[i]? = some c) : ((l.take (i + 1)).flatMap f) = (l.take i).flatMap f ++ f c := by
  rw [List.take_add_one, h, List.flatMap_append]
  simp
/-! ### the record's three lists -/
theorem nkc : ¬ ((Sum.inr ("kinds" : Str) : Key) = Sum.inr ("columns" : Str)) := by decide +kernel
theorem nkh : ¬ ((Sum.inr ("kinds" : Str) : Key) = Sum.inr ("checks" : Str)) := by decide +kernel
theorem nch : ¬ ((Sum.inr ("columns" : Str) : Key) = Sum.inr ("checks" : Str)) := by decide +kernel
section
variable {H : Hp} {b : Addr} {x y z : V}
theorem dg {k : Key} {v : V} {kvs : List (Key × V)} (h : H b = some (.dK kvs)) (e : valV kvs k = some v) : DGet H b (kV k) (some v) := by rw [← e]; exact DGet.k h
theorem dg_kinds (h : H b = some (.dK [(.inr "kinds", x), (.inr "columns", y), (.inr "checks", z)])) : DGet H b (.str "kinds") (some x) := dg (k := .inr "kinds") h (valV_pos rfl)
theorem dg_columns (h : H b = some (.dK [(.inr "kinds", x), (.inr "columns", y), (.inr "checks", z)])) : DGet H b (.str "columns") (some y) := dg (k := .inr "columns") h (by rw [valV_neg nkc]; exact valV_pos rfl)
theorem dg_checks (h : H b = some (.dK [(.inr "kinds", x), (.inr "columns", y), (.inr "checks", z)])) : DGet H b (.str "checks") (some z) := dg (k := .inr "checks") h (by rw [valV_neg nkh, valV_neg nch]; exact valV_pos rfl)
end
section
variable {P : Program} {w : World} {K : PySem.W.Frag} {mg : Str → Option Value} {base : Heap}
abbrev s__law_all_checks : Stmt := topS 34
theorem sc__law_all_checks : FnScope ["_law_b", "_law_found", "_law_column", "_law_kind", "_law_word"] ["_law_b"] (defScope s__law_all_checks) := ⟨rfl, rfl, rfl, by decide +kernel, rfl, by decide +kernel, by decide +kernel⟩
abbrev N__law_all_checks : List Str := ["_law_b", "_law_found", "_law_column", "_law_kind", "_law_word"]
def spAll : Sp := fun vs H Q _ => ∃ (S L b : Addr) (B : Shp) (ck : List Str), vs = [.ref b] ∧ ShpAt S L H b B ck ∧ B.Ok ∧
  ∀ (H' : Hp) (p : Addr), H p = none → H' p = some (.lst ((menu B).map V.str)) → Same H H' → Q (.ref p) H'
theorem ok_all {f : Addr} {fd : FuncData} (F : Fun K "_law_all_checks" "_law_all_checks" s__law_all_checks f fd) (T : Bt mg) : FnOk P w K mg base CX0 1 f fd ["_law_b"] spAll := by
  refine F.ok sc__law_all_checks (fun vs H Q E h => ?_) (fun cdv A outer s H vs Q E hr h => ?_)
  · obtain ⟨S, L, b, B, ck, rfl, _⟩ := h
    rfl
  · obtain ⟨S, L, b, B, ck, rfl, ⟨ka, ca, ea, kx, cx, hb, hka, hkt, hca, hct, hea, _⟩, hB, q⟩ := h
    have hu := hu_of hr
    refine ⟨_, (pss_cons (ps_set (i := 1) sc__law_all_checks.nd rfl (Or.inl rfl) (pe_lst pa_nil))
      (pss_cons (ps_for PassesOwn.never rfl (pi_list (pe_dget hu (pv 0) pe_str (fun _ _ => rfl))) (pg_name (i := 2) sc__law_all_checks.nd rfl (Or.inr rfl)) (pss_one (ps_expr (pe_bm PySem.F.plainAttrs_list PySem.F.slot_list_extend PySem.F.type_list_extend mt_extend (pv 1) (pa_cons (pe_lc (own := [("_law_word", 4)]) (g := gName 4) (by rfl) sc__law_all_checks.nd (pi_list (pe_lst (pa_cons pe_str (pa_cons pe_str (pa_cons pe_str (pa_cons pe_str (pa_cons pe_str pa_nil))))))) (blkOk_by (own := [("_law_word", 4)]) (N := N__law_all_checks) (sc := defScope s__law_all_checks) (by decide +kernel)) (fun _ _ _ _ _ => (pg_name (i := 4) sc__law_all_checks.nd rfl (Or.inl rfl) (Or.inr rfl))) (fun _ _ _ _ _ => pts_nil) (fun _ _ _ _ _ => (pe_op op_add_str (pe_op op_add_str (pv 4) pe_str) (pe_ix (ixT K) (pv 2) pe_int (fun _ _ => rfl))))) pa_nil)))))
      (pss_cons (ps_for PassesOwn.never rfl (pi_list (pe_dget hu (pv 0) pe_str (fun _ _ => rfl))) (pg_name (i := 3) sc__law_all_checks.nd rfl (Or.inr rfl)) (pss_one (ps_expr (pe_bm PySem.F.plainAttrs_list PySem.F.slot_list_extend PySem.F.type_list_extend mt_extend (pv 1) (pa_cons (pe_lc (own := [("_law_word", 4)]) (g := gName 4) (by rfl) sc__law_all_checks.nd (pi_list (pe_lst (pa_cons pe_str (pa_cons pe_str (pa_cons pe_str pa_nil))))) (blkOk_by (own := [("_law_word", 4)]) (N := N__law_all_checks) (sc := defScope s__law_all_checks) (by decide +kernel)) (fun _ _ _ _ _ => (pg_name (i := 4) sc__law_all_checks.nd rfl (Or.inl rfl) (Or.inr rfl))) (fun _ _ _ _ _ => pts_nil) (fun _ _ _ _ _ => (pe_op op_add_str (pe_op op_add_str (pv 4) pe_str) (pe_ix (ixT K) (pv 3) pe_int (fun _ _ => rfl))))) pa_nil)))))
      (pss_one (ps_ret (pe_op op_cat (pv 1) (pe_lst (pa_cons pe_str (pa_cons pe_str pa_nil))))))))), ?_⟩
    refine ⟨Nat.zero_le _, fun p hp => ?_⟩
    walk_at "ls"
    have nbp : b ≠ p := ne_of_none hb hp
    have nca : ca ≠ p := ne_of_none hca hp
    have s0 : Same H (upd H p (.lst [])) := same_new hp
    refine ⟨b, _, rfl, dg_columns (s0 _ _ hb), ca, rfl, ⟨_, .inl (.inl (s0 _ _ hca))⟩, ?_⟩
    refine for_it (walk_list (xs := cx)) (fun i σ H1 => ∃ v : Option V, σ = [some (.ref b), some (.ref p), v, none, none] ∧ H1 p = some (.lst (((B.cs.take i).flatMap fun c => withN colW c.1).map V.str)) ∧ Same H H1)
      ⟨none, rfl, upd_same, s0⟩ (fun i σ H1 _ ⟨_, _, _, s1⟩ => .inl (.inl (s1 _ _ hca))) ?_ ?_
    · rintro i x σ Hz H1 hi ⟨v, rfl, h1, s1⟩ ⟨rfl, hx⟩
      obtain ⟨ys, hys, t, rfl, ht⟩ := TupsAt.get (hct.keep (.same s1)) hx
      obtain ⟨c, hc, rfl⟩ := map_get hys
      have hci : i < B.cs.length := (List.getElem?_eq_some_iff.mp hc).1
      have hnm : c.1.length ≤ 8 := (hB.nm _ (List.mem_append_right _ (List.mem_map_of_mem (List.mem_of_getElem? hc)))).1.2.1
      walk_at "ls"
      refine ⟨(by show 5 ≤ sizeLine; decide), fun w1 hw1 => ?_⟩
      refine ⟨w1, rfl, ⟨_, .inl (.inl upd_same)⟩, fun D hD => ?_⟩
      have nwD : w1 ≠ D := ne_of_none upd_same hD
      have npw : p ≠ w1 := ne_of_none h1 hw1
      have npD : p ≠ D := ne_of_none (by rw [upd_ne npw]; exact h1) hD
      have ntw : t ≠ w1 := ne_of_none ht hw1
      have ntD : t ≠ D := ne_of_none (by rw [upd_ne ntw]; exact ht) hD
      refine lc_pure (walk_list (xs := colW.map V.str)) (colW.map V.str) (addN c.1) rfl (fun i H x H' hi hy => hy) (by decide +kernel) (fun acc => .inl (.inl (by rw [upd_ne nwD]; exact upd_same))) (fun k y hk hy => ?_) ?_
      · obtain ⟨a, ha, rfl⟩ := map_get hy
        have hal : a.length ≤ 5 := colW_len a (List.mem_of_getElem? ha)
        refine ⟨rfl, ?_⟩
        walk_at "ls"
        refine ⟨room_str (m := 1) hal (by decide +kernel) (by decide), ?_⟩
        walk_at "ls"
        refine ⟨room_str (n := 6) (m := 8) (word_len hal) hnm (by decide), ?_⟩
        exact lc_yes hy hk (by decide +kernel) rfl
      rw [addN_all]
      refine ⟨_, _, _, _, rfl, rfl, (by rw [upd_ne npD, upd_ne npw]; exact h1), upd_same, ?_, ?_⟩
      · rw [List.length_map, List.length_map, flat_len _ 5 (fun c => by rw [withN, List.length_map]; rfl), withN, List.length_map, List.length_take]
        have := hB.nc
        show 5 * _ + 5 ≤ sizeLine
        exact Nat.le_trans (by omega) (show 1000 ≤ sizeLine by decide)
      · refine ⟨_, rfl, ?_, ?_⟩
        · rw [upd_same, flat_snoc hc, List.map_append]
        · intro u o e
          have nup : u ≠ p := ne_of_none e hp
          have e1 := s1 _ _ e
          have nuw : u ≠ w1 := ne_of_none e1 hw1
          rw [upd_ne nup, upd_ne (ne_of_none (by rw [upd_ne nuw]; exact e1) hD), upd_ne nuw]
          exact e1
    · rintro σ H1 ⟨v, rfl, h1, s1⟩
      have e1 : B.cs.take cx.length = B.cs := by
        have := hct.len
        rw [List.length_map] at this
        rw [this, List.take_length]
      rw [e1] at h1
      walk_at "ls"
      refine ⟨b, _, rfl, dg_kinds (s1 _ _ hb), ka, rfl, ⟨_, .inl (.inl (s1 _ _ hka))⟩, ?_⟩
      refine for_it (walk_list (xs := kx)) (fun i σ H1 => ∃ v v3 : Option V, σ = [some (.ref b), some (.ref p), v, v3, none] ∧ H1 p = some (.lst (((B.cs.flatMap fun c => withN colW c.1) ++ (B.ks.take i).flatMap fun c => withN kindW c.1).map V.str)) ∧ Same H H1)
        ⟨v, none, rfl, (by rw [List.take_zero, List.flatMap_nil, List.append_nil]; exact h1), s1⟩ (fun i σ H1 _ ⟨_, _, _, _, s1⟩ => .inl (.inl (s1 _ _ hka))) ?_ ?_
      · clear h1 s1 v
        rintro i x σ Hz H1 hi ⟨v, v3, rfl, h1, s1⟩ ⟨rfl, hx⟩
        obtain ⟨ys, hys, t, rfl, ht⟩ := TupsAt.get (hkt.keep (.same s1)) hx
        obtain ⟨c, hc, rfl⟩ := map_get hys
        have hci : i < B.ks.length := (List.getElem?_eq_some_iff.mp hc).1
        have hnm : c.1.length ≤ 8 := (hB.nm _ (List.mem_append_left _ (List.mem_map_of_mem (List.mem_of_getElem? hc)))).1.2.1
        walk_at "ls"
        refine ⟨(by show 3 ≤ sizeLine; decide), fun w1 hw1 => ?_⟩
        refine ⟨w1, rfl, ⟨_, .inl (.inl upd_same)⟩, fun D hD => ?_⟩
        have nwD : w1 ≠ D := ne_of_none upd_same hD
        have npw : p ≠ w1 := ne_of_none h1 hw1
        have npD : p ≠ D := ne_of_none (by rw [upd_ne npw]; exact h1) hD
        have ntw : t ≠ w1 := ne_of_none ht hw1
        have ntD : t ≠ D := ne_of_none (by rw [upd_ne ntw]; exact ht) hD
        refine lc_pure (walk_list (xs := kindW.map V.str)) (kindW.map V.str) (addN c.1) rfl (fun i H x H' hi hy => hy) (by decide +kernel) (fun acc => .inl (.inl (by rw [upd_ne nwD]; exact upd_same))) (fun k y hk hy => ?_) ?_
        · obtain ⟨a, ha, rfl⟩ := map_get hy
          have hal : a.length ≤ 5 := kindW_len a (List.mem_of_getElem? ha)
          refine ⟨rfl, ?_⟩
          walk_at "ls"
          refine ⟨room_str (m := 1) hal (by decide +kernel) (by decide), ?_⟩
          walk_at "ls"
          refine ⟨room_str (n := 6) (m := 8) (word_len hal) hnm (by decide), ?_⟩
          exact lc_yes hy hk (by decide +kernel) rfl
        rw [addN_all]
        refine ⟨_, _, _, _, rfl, rfl, (by rw [upd_ne npD, upd_ne npw]; exact h1), upd_same, ?_, ?_⟩
        · rw [List.length_map, List.length_append, List.length_map, flat_len _ 5 (fun c => by rw [withN, List.length_map]; rfl), flat_len _ 3 (fun c => by rw [withN, List.length_map]; rfl), withN, List.length_map, List.length_take]
          have := hB.nc
          have := hB.nk3
          show 5 * _ + 3 * _ + 3 ≤ sizeLine
          exact Nat.le_trans (by omega) (show 1000 ≤ sizeLine by decide)
        · refine ⟨_, _, rfl, ?_, ?_⟩
          · rw [upd_same, flat_snoc hc, List.map_append, List.map_append, List.map_append, List.append_assoc]
          · intro u o e
            have nup : u ≠ p := ne_of_none e hp
            have e1 := s1 _ _ e
            have nuw : u ≠ w1 := ne_of_none e1 hw1
            rw [upd_ne nup, upd_ne (ne_of_none (by rw [upd_ne nuw]; exact e1) hD), upd_ne nuw]
            exact e1
      · clear h1 s1 v
        rintro σ H1 ⟨v, v3, rfl, h1, s1⟩
        have e2 : B.ks.take kx.length = B.ks := by
          have := hkt.len
          rw [List.length_map] at this
          rw [this, List.take_length]
        rw [e2] at h1
        walk_at "ls"
        refine ⟨(by show 2 ≤ sizeLine; decide), fun p2 hp2 => ?_⟩
        have np2 : p ≠ p2 := ne_of_none h1 hp2
        refine ⟨_, _, _, _, rfl, rfl, (by rw [upd_ne np2]; exact h1), upd_same, ?_, fun p3 hp3 => ?_⟩
        · have l1 := flat_len (fun c : Str × Str × Str × Bool => withN colW c.1) 5 (fun c => by show (withN colW c.1).length = 5; rw [withN, List.length_map]; rfl) B.cs
          have l2 := flat_len (fun c : Str × Bool => withN kindW c.1) 3 (fun c => by show (withN kindW c.1).length = 3; rw [withN, List.length_map]; rfl) B.ks
          have := hB.nc
          have := hB.nk3
          rw [List.length_map, List.length_append, l1, l2]
          refine Nat.le_trans ?_ (show 1000 ≤ sizeLine by decide)
          show _ + 2 ≤ 1000
          omega
        · have s2 : Same H (upd H1 p2 (.lst [.str "lone", .str "fresh"])) := s1.trans (same_new hp2)
          refine q _ p3 (s2.free hp3) ?_ (s2.trans (same_new hp3))
          rw [upd_same]
          unfold menu
          rw [List.map_append (l₂ := bookW)]
          rfl
/-! ### _law_checked -/
abbrev s__law_checked : Stmt := topS 35
theorem sc__law_checked : FnScope ["_law_stream", "_law_b", "_law_share", "_law_checks", "_law_check"] ["_law_stream", "_law_b"] (defScope s__law_checked) := ⟨rfl, rfl, rfl, by decide +kernel, rfl, by decide +kernel, by decide +kernel⟩
abbrev N__law_checked : List Str := ["_law_stream", "_law_b", "_law_share", "_law_checks", "_law_check"]
def spChecked : Sp := fun vs H Q _ => ∃ (S L b : Addr) (n : Nat) (B : Shp) (ck : List Str), vs = [.ref S, .ref b] ∧ Stm H S L n ∧ n ≤ 9990000 ∧ ShpAt S L H b B ck ∧ B.Ok ∧
  ∀ (H' : Hp) (p : Addr) (ck' : List Str), H p = none → ck'.Sublist (menu B) → ShpAt S L H' p B ck' → Stm H' S L (n + 60) → Old S L H H' → Q (.ref p) H'
theorem share_at {i : Int} (h0 : 0 ≤ i) (h1 : i < 6) : ∃ k : Int, atI [V.int 0, V.int 2, V.int 4, V.int 6, V.int 9, V.int 12] i = some (.int k) := by
  obtain ⟨n, rfl⟩ := Int.eq_ofNat_of_zero_le h0
  match n, h1 with
  | 0, _ => exact ⟨0, rfl⟩
  | 1, _ => exact ⟨2, rfl⟩
  | 2, _ => exact ⟨4, rfl⟩
  | 3, _ => exact ⟨6, rfl⟩
  | 4, _ => exact ⟨9, rfl⟩
  | 5, _ => exact ⟨12, rfl⟩
  | k + 6, h => omega
theorem sub_snoc {α : Type} {l m : List α} {x : α} (h : l.Sublist m) : (l ++ [x]).Sublist (m ++ [x]) := List.Sublist.append h (List.Sublist.refl _)
theorem sub_skip {α : Type} {l m : List α} {x : α} (h : l.Sublist m) : l.Sublist (m ++ [x]) := h.trans (List.sublist_append_left _ _)
theorem ok_checked {f : Addr} {fd : FuncData} (F : Fun K "_law_checked" "_law_checked" s__law_checked f fd) (T : Bt mg) (O__law_draw : Own P w K mg base CX0 1 "_law_draw" ["_law_stream", "_law_many"] spDraw)
    (O__law_all_checks : Own P w K mg base CX0 1 "_law_all_checks" ["_law_b"] spAll) : FnOk P w K mg base CX0 2 f fd ["_law_stream", "_law_b"] spChecked := by
  refine F.ok sc__law_checked (fun vs H Q E h => ?_) (fun cdv A outer s H vs Q E hr h => ?_)
  · obtain ⟨S, L, b, n, B, ck, rfl, _⟩ := h
    rfl
  · obtain ⟨S, L, b, n, B, ck, rfl, hst, hn, hs, hB, q⟩ := h
    have hu := hu_of hr
    refine ⟨_, (pss_cons (ps_set (i := 2) sc__law_checked.nd rfl (Or.inr rfl) (pe_ix (ixL K) (pe_lst (pa_cons pe_int (pa_cons pe_int (pa_cons pe_int (pa_cons pe_int (pa_cons pe_int (pa_cons pe_int pa_nil))))))) (own_call O__law_draw hr (by first | decide | omega) (pa_cons (pv 0) (pa_cons pe_int pa_nil))) (fun _ _ => rfl)))
      (pss_cons (ps_setLc (i := 3) (own := [("_law_check", 4)]) (g := gName 4) (by rfl) sc__law_checked.nd rfl rfl (sw_true rfl rfl rfl (by decide +kernel)) (pi_list (own_call O__law_all_checks hr (by first | decide | omega) (pa_cons (pv 1) pa_nil))) (blkOk_by (own := [("_law_check", 4)]) (N := N__law_checked) (sc := defScope s__law_checked) (by decide +kernel)) (fun _ _ _ _ _ => (pg_name (i := 4) sc__law_checked.nd rfl (Or.inl rfl) (Or.inr rfl))) (fun _ _ _ _ _ => (pts_one (pt_cmpR op_lt (own_call O__law_draw hr (by first | decide | omega) (pa_cons (pv 0) (pa_cons pe_int pa_nil))) (pv 2) (nomark _)))) (fun _ _ _ _ _ => (pv 4)))
      (pss_one (ps_ret (pe_disp (pps_cons pe_str (pe_dget hu (pv 1) pe_str (fun _ _ => rfl)) (pps_cons pe_str (pe_dget hu (pv 1) pe_str (fun _ _ => rfl)) (pps_cons pe_str (pv 3) pps_nil))) (by rfl) (by rfl) (fun z => by cases z) (by decide)))))), ?_⟩
    refine ⟨(by show 6 ≤ sizeLine; decide), fun p0 hp0 => ?_⟩
    have n0 := hst.noneS hp0
    walk_at "ls"
    refine ⟨S, L, n, 6, rfl, hst.upd n0.1 n0.2, by omega, by decide, by decide, fun H1 r r0 r1 st1 od1 => ?_⟩
    obtain ⟨k, hk⟩ := share_at r0 r1
    refine ⟨_, _, _, _, rfl, rfl, .inl (.inl (od1 _ _ n0.1 n0.2 upd_same)), hk, ?_⟩
    have od1' : Old S L H H1 := (Old.new hp0).trans od1
    have hs1 := hs.old hst od1'
    walk_at "ls"
    refine ⟨S, L, b, B, ck, rfl, hs1, hB, fun H2 pm hpm h2 s2 => ?_⟩
    have hs2 := hs1.same s2
    have st2 := st1.keep s2
    have nm := st1.noneS hpm
    refine ⟨pm, rfl, ⟨_, .inl (.inl h2)⟩, fun D hD => ?_⟩
    have nD := st2.noneS hD
    have nmD : pm ≠ D := ne_of_none h2 hD
    have od2 : Old S L H H2 := od1'.trans (.same s2)
    have lm : (menu B).length ≤ 51 := by have := menu_len B; have := hB.nc; have := hB.nk3; omega
    refine lc_it (walk_list (xs := (menu B).map V.str)) (fun i H3 => ∃ cs : List Str, cs.Sublist ((menu B).take i) ∧ H3 D = some (.lst (cs.map V.str)) ∧ H3 pm = some (.lst ((menu B).map V.str)) ∧ Stm H3 S L (n + 1 + i) ∧ Old S L H H3)
      ⟨[], List.Sublist.refl _, upd_same, (by rw [upd_ne nmD]; exact h2), st2.upd nD.1 nD.2, od2.trans (.new hD)⟩ (fun i H3 _ ⟨_, _, _, h, _⟩ => .inl (.inl h)) ?_ ?_
    · rintro i x Hz H3 hi ⟨cs, hcs, h3D, h3m, st3, od3⟩ ⟨rfl, hx⟩
      obtain ⟨z, hz, rfl⟩ := map_get hx
      rw [List.length_map] at hi
      refine ⟨rfl, ?_⟩
      walk_at "ls"
      refine ⟨S, L, _, 12, rfl, st3, by omega, by decide, by decide, fun H4 u u0 u1 st4 od4 => ?_⟩
      have h4D := od4 _ _ nD.1 nD.2 h3D
      have h4m := od4 _ _ nm.1 nm.2 h3m
      walk_at "ls"
      have et : (menu B).take (i + 1) = (menu B).take i ++ [z] := by rw [List.take_add_one, hz]; rfl
      refine ite2 (fun e => ?_) (fun e => ?_)
      · walk_at "ls"
        have lcs : cs.length ≤ i := by have := hcs.length_le; rw [List.length_take] at this; omega
        refine ⟨_, h4D, (by rw [List.length_map]; exact small1000 (by omega)), cs ++ [z], ?_, ?_, ?_, (st4.mono (by omega)).upd nD.1 nD.2, (od3.trans od4).set (od2.none hD nD)⟩
        · rw [et]
          exact sub_snoc hcs
        · rw [upd_same, List.map_append]
          rfl
        · rw [upd_ne nmD]
          exact h4m
      · exact ⟨cs, (by rw [et]; exact sub_skip hcs), h4D, h4m, st4.mono (by omega), od3.trans od4⟩
    · rintro H3 ⟨cs, hcs, h3D, h3m, st3, od3⟩
      rw [List.length_map, List.take_length] at hcs
      obtain ⟨ka, ca, ea, kx, cx, hb, hka, hkt, hca, hct, hea, nk, nc, ne⟩ := hs.old hst od3
      intro p hp
      have np := st3.noneS hp
      have nbp : b ≠ p := ne_of_none hb hp
      have nDp : D ≠ p := ne_of_none h3D hp
      have hb' : (upd H3 p (.dK [])) b = _ := (upd_ne nbp).trans hb
      walk_at "ls"
      refine ⟨b, _, rfl, dg_kinds hb', ?_⟩
      walk_at "ls"
      refine ⟨b, _, rfl, dg_columns hb', ?_⟩
      walk_at "ls"
      refine ⟨upd_same, [(.inr "kinds", .ref ka), (.inr "columns", .ref ca), (.inr "checks", .ref D)], rfl, (by show 3 ≤ 15; decide), ?_⟩
      have kt : TK H3 (upd (upd H3 p (.dK [])) p (.dK (mergeK [] [(.inr "kinds", .ref ka), (.inr "columns", .ref ca), (.inr "checks", .ref D)]))) := (TK.new hp).trans (.dK upd_same)
      have hpn := od3.none hp np
      refine q _ p cs hpn hcs ⟨ka, ca, D, kx, cx, upd_same, ?_, hkt.keep kt, ?_, hct.keep kt, ?_, nk, nc, nD⟩ ((st3.mono (by rw [List.length_map]; omega)).upd np.1 np.2 |>.upd np.1 np.2) ((od3.trans (.new hp)).set hpn)
      · rw [upd_upd, upd_ne (ne_of_none hka hp)]
        exact hka
      · rw [upd_upd, upd_ne (ne_of_none hca hp)]
        exact hca
      · rw [upd_upd, upd_ne nDp]
        exact h3D
end
end Ls
namespace Ls
open PySem PySem.Spec PyProof.Rows L2
/-! ### defs that run where no repr is under way -/
/-- the promise of a def, kept wherever no guard of the interpreter's own stands -/
structure FnG (P : Program) (w : World) (K : PySem.W.Frag) (mg : Str → Option Value) (base : Heap) (CX : CXT) (k : Nat) (f : Addr) (fd : FuncData) (ps : List Str) (sp : Sp) : Prop where
  len : ∀ vs H Q E, sp vs H Q E → vs.length = ps.length
  run : ∀ (A : Around) (outer : List Env) (s : Shared) (H : Hp) (args : Args) (us : List Value) (vs : List V) (Q : VK) (E : XK), A.guards = some [] → Room k A → Env0 P w K mg base A outer s H →
    BindsTo s fd args (ps.zip us) → Vals vs us → sp vs H Q E → codeAny (model P w) A (.call (.ref f) args) (CR CX outer P w H s Q E) s
/-- where it stands and how it is bound -/
structure OwnG (P : Program) (w : World) (K : PySem.W.Frag) (mg : Str → Option Value) (base : Heap) (CX : CXT) (k : Nat) (x : Str) (ps : List Str) (sp : Sp) : Prop where
  ex : ∃ (f : Addr) (fd : FuncData), FnG P w K mg base CX k f fd ps sp ∧ mg x = some (.ref f) ∧ PySem.W.keepIn K (.ref f) = true ∧ Binds K fd ps []
section
variable {X : Cx} {k j : Nat} {x : Str} {ps : List Str} {sp : Sp} {p pos : Pos} {e : Expr} {es : List Expr} {t : TA}
theorem own_callG (O : OwnG X.prog X.w X.K X.mg X.base CX0 k x ps sp) (hgd : X.A.guards = some []) (hr : Room j X.A) (hkj : k ≤ j) (ha : PA X (e :: es) t)
    (hg : Gl X x := by rfl) (hdb : (x == ("__debug__" : Str)) = false := by decide) (he : starEach (e :: es) X.env = (false, eval e X.env) :: starEach es X.env := by rfl) (hpl : (backTo pos (starEach es X.env)).any (·.1) = false := by rfl) :
    PE X (.Call (.Name x p) (e :: es) [] pos) (tCall sp [] E0 t) := by
  obtain ⟨f, fd, F, g, kp, b⟩ := O.ex
  refine ⟨fun pins s σ H Q I h => wpAny_Call_Name_kw (ld_glob I hg g (PySem.W.callWith_K (h₀ := X.base) I.ok.mod.kin kp ?_ he hpl) hdb)⟩
  refine thn (ha.run pos pins s σ H _ I h) fun us s1 hh => ?_
  obtain ⟨vs, H1, I1, r, q⟩ := hh
  refine ⟨I1.kIn, wpAny_call ?_⟩
  have q0 : sp vs H1 Q E0 := by simpa using q
  have b1 := b s1 us I1.kIn (by rw [List.append_nil, ← r.length]; exact F.len _ _ _ _ q0)
  rw [List.append_nil] at b1
  refine codeAny_mono (F.run X.A X.stack s1 H1 ⟨us, []⟩ us vs Q E0 hgd (hr.mono hkj) I1.env0 b1 r q0) fun res s2 hq => ?_
  match res, hq with
  | .ok (.ret u), hq => exact I1.after hq
  | .error z, hq => exact False.elim hq
end
section
variable {P : Program} {w : World} {K : PySem.W.Frag} {mg : Str → Option Value} {base : Heap}
/-- a def by its body, where no guard stands -/
theorem fun_okG {x qual : Str} {st : Stmt} {f : Addr} {fd : FuncData} {N ps : List Str} {k : Nat} {sp : Sp} (F : Fun K x qual st f fd) (S : FnScope N ps (defScope st)) (len : ∀ vs H Q E, sp vs H Q E → vs.length = ps.length)
    (body : ∀ (cdv : Value) (A : Around) (outer : List Env) (s : Shared) (H : Hp) (vs : List V) (Q : VK) (E : XK), A.guards = some [] → Room k (A.deeper (envOfC qual (defScope st) s.heap.objs.size f cdv)) → sp vs H Q E →
      ∃ t, PSs (cxOf CX0 P w K mg base N qual (defScope st) f cdv A outer s H E).nox (defBody st) t ∧ t { nx := fun _ H' => Q .non H', rt := Q } (start N vs) H) : FnG P w K mg base CX0 (k + 1) f fd ps sp := by
  obtain ⟨oc, od, kV, doc, pm, an, cdv, ct, osl, rfl, lk, hcd⟩ := F.ex
  refine ⟨len, fun A outer s H args us vs Q E hgd hr e0 hb r hsp => ?_⟩
  have kin : K.In s.heap := e0.mod.kin.keeps fun b o e => (e0.bs b o e).1
  have kinds : ∀ y ∈ ps.zip us, (defScope st).names.lookup y.1 = some .local ∨ ((defScope st).names.lookup y.1 = some .cell ∧ ((cellsFrom (s.heap.objs.size + 1) (defScope st).names []).lookup y.1).isSome = true) := by
    rintro ⟨n, v⟩ hy
    exact (S.par n (List.of_mem_zip hy).1).imp id fun q => ⟨q, PySem.W.cellsFrom_some _ _ _ (.inl q)⟩
  refine codeAny_call_function hr.depth (kin _ _ lk) rfl S.co S.gen rfl (PySem.W.codeRec_of kin hcd) (hb _ _ _ _ (wpAny_newFunctionEnv_cells S.kind kinds fun env he s1 x1 => ?_))
  subst he
  refine ⟨(e0.mod.nolimit.keeps fun b o e => (e0.bs b o e).1).keeps x1.toInCall.keep, codeAny_func ?_⟩
  obtain ⟨t, ht, hq⟩ := body cdv A outer s H vs Q E hgd (hr.deeper _) hsp
  have I := inv_start (P := P) (w := w) (mg := mg) (base := base) (CX := CX0) (E := E) S hr.hd e0 (len _ _ _ _ hsp) r x1
  refine wpAny_mono (ht.nox.run [] s1 (start N vs) H _ I hq) (fun fl s' hs => ?_) fun _ _ hs => hs
  match fl, hs with
  | .ret u, ⟨v, σ', H', J, rv, q⟩ => exact ⟨v, H', J.os, J.bare, J.base, J.hok, rv, q⟩
  | .next, ⟨σ', H', J, q⟩ => exact ⟨V.non, H', J.os, J.bare, J.base, J.hok, rfl, q⟩
  | .brk, ⟨_, _, _, q⟩ => exact False.elim q
  | .cont, ⟨_, _, _, q⟩ => exact False.elim q
theorem FnOk.toG {CX : CXT} {k : Nat} {f : Addr} {fd : FuncData} {ps : List Str} {sp : Sp} (F : FnOk P w K mg base CX k f fd ps sp) : FnG P w K mg base CX k f fd ps sp :=
  ⟨F.len, fun A outer s H args us vs Q E _ hr e0 hb r h => F.run A outer s H args us vs Q E hr e0 hb r h⟩
end
/-! ### repr of data -/
section
variable {X : Cx}
/-- repr(x): the text of x's data -/
def rRepr (K : PySem.W.Frag) : List V → Hp → VK → Prop := fun xs H Q => ∃ (a : Addr) (d : PyData), xs = [.ref a] ∧ Dp K H (.ref a) d ∧ d.showable = true ∧ d.hasDict = false ∧ d.depth ≤ 60 ∧ d.shown.length ≤ sizeLine ∧ Q (.str d.shown) H
theorem call_repr_data {k : Nat} (hgd : X.A.guards = some []) (hr : Room k X.A) : CallR X (.builtin "repr") (rRepr X.K) := by
  intro pins s σ H xs us Q I r h
  obtain ⟨a, d, rfl, hd, hs, hn, hdp, hz, q⟩ := h
  obtain ⟨u, rfl, ru⟩ := r.one
  obtain ⟨as, rd⟩ := Dp.reads I d _ u hd ru
  cases ru
  refine repr_of_reads' rd hs (fun z => by rw [hn] at z; cases z) hgd (by have := hr.un; omega) (fun b o e => e) (fun h' v tk keep => ?_) hz
  exact ⟨.str d.shown, H, I.kept (t' := tk) keep, ⟨_, rfl⟩, q⟩
end
/-! ### the law's own call -/
/-- the script's list, known to the object -/
def scriptO (vs : List Value) : Obj := { cls := .type "list", data := .seq vs.toArray }
/-- what is tracked at the law's entry: the script, if it is no object of the module -/
def H0 (K : PySem.W.Frag) (a : Addr) (vs : List Value) (ns : List Int) : Hp := fun b => if b = a ∧ K.lookup a = none then some (.frz (scriptO vs) (.lst (ns.map V.int))) else none
theorem H0_some {K : PySem.W.Frag} {a b : Addr} {vs : List Value} {ns : List Int} {u : HO} (h : H0 K a vs ns b = some u) : b = a ∧ K.lookup a = none ∧ u = .frz (scriptO vs) (.lst (ns.map V.int)) := by
  unfold H0 at h
  by_cases c : b = a ∧ K.lookup a = none
  · rw [if_pos c] at h
    exact ⟨c.1, c.2, (Option.some.inj h).symm⟩
  · rw [if_neg c] at h
    cases h
theorem ints_vals : ∀ {ns : List Int} {vs : List Value}, IntsAre vs ns → Vals (ns.map V.int) vs
  | _, _, .nil => .nil
  | _, _, .cons _ _ r => .cons ⟨_, rfl⟩ (ints_vals r)
theorem law_callG {P : Program} {w : World} {K : PySem.W.Frag} {mg mb : Str → Option Value} {k : Nat} {fa a : Addr} {fd : FuncData} {x : Str} {sp : Sp} {s₁ : Shared} {vs : List Value} {ns : List Int}
    (kin : K.In s₁.heap) (hm : s₁.heap.Ns mainGlobals mg) (hbl : s₁.heap.Ns builtinsNs mb) (hbt : ∀ y : Str, y ≠ "__name__" → mb y = bootBuiltins y) (lim : s₁.heap.NoLimit) (gens : s₁.gens = #[])
    (obj : s₁.heap.get? a = some (scriptO vs)) (hints : IntsAre vs ns) (size : ns.length ≤ sizeLine) (room : Room k callerA)
    (F : ∀ base : Heap, K.In base → base.Ns mainGlobals mg → FnG P w K mg base CX0 k fa fd [x] sp) (bind : ∀ (s : Shared) (u : Value), BindsTo s fd ⟨[u], []⟩ [(x, u)])
    (want : ∀ H : Hp, SqL K H a (ns.map V.int) → sp [.ref a] H (fun v _ => v = .bl true) E0) :
    codeAny (model P w) callerA (.call (.ref fa) ⟨[.ref a], []⟩) (fun r s' => r = .ok (.ret (.bool true)) ∧ OldK s₁.heap s'.heap ∧ s'.os = s₁.os ∧ AllBare s'.gens) s₁ := by
  have rv := ints_vals hints
  have ok : HOk P w (H0 K a vs ns) s₁.heap := fun b u h => by
    obtain ⟨rfl, _, rfl⟩ := H0_some h
    exact ⟨obj, by rw [List.length_map]; exact size, vs, _, rv, obj⟩
  have sq : SqL K (H0 K a vs ns) a (ns.map V.int) := by
    cases lk : K.lookup a with
    | none => exact .inl (.inr ⟨scriptO vs, if_pos ⟨rfl, lk⟩⟩)
    | some o =>
      have e := kin a o lk
      rw [obj] at e
      cases e
      exact .inr ⟨_, vs.toArray, _, lk, rfl, rfl, rfl, by rw [List.size_toArray, hints.length]; exact size, by simpa using rv⟩
  -- what is not tracked stays in sight
  have seen : ∀ {b : Addr} {o : Obj}, s₁.heap.get? b = some o → (b = a → K.lookup a ≠ none) → (hidT s₁.heap (H0 K a vs ns)).get? b = some o := fun {b o} e n => hidT_get e (by
    cases q : H0 K a vs ns b with
    | none => rfl
    | some u =>
      obtain ⟨h1, h2, _⟩ := H0_some q
      exact absurd h2 (n h1))
  have dicts : ∀ {b : Addr} {m : Str → Option Value}, s₁.heap.Ns b m → (hidT s₁.heap (H0 K a vs ns)).Ns b m := fun {b m} ⟨o, es, ep, e, d, r⟩ => ⟨o, es, ep, seen e (fun z => by
    subst z
    rw [obj] at e
    cases e
    cases (show Data.seq vs.toArray _ = Data.dict es ep from d)), d, r⟩
  have kinB : K.In (hidT s₁.heap (H0 K a vs ns)) := fun b o e => seen (kin b o e) (fun z => by subst z; rw [e]; simp)
  have md : Mod K mg (hidT s₁.heap (H0 K a vs ns)) := ⟨kinB, dicts hm, ⟨mb, dicts hbl, hbt⟩, let ⟨mc, h1, h2⟩ := lim; ⟨mc, dicts h1, h2⟩⟩
  have e0 : Env0 P w K mg (hidT s₁.heap (H0 K a vs ns)) callerA [] s₁ (H0 K a vs ns) :=
    { frames := rfl, mod := md, bs := fun b o e => of_hidT e, bsz := Nat.le_of_eq (hidT_size _ _), funs := trivial, frf := fun b hb => (List.not_mem_nil hb).elim, hok := ok, bare := .of_eq gens }
  refine codeAny_mono ((F _ kinB (dicts hm)).run callerA [] s₁ (H0 K a vs ns) ⟨[.ref a], []⟩ [.ref a] [.ref a] (fun v _ => v = .bl true) E0 rfl room e0 (bind s₁ (.ref a)) (.cons rfl .nil) (want _ sq)) fun r s' h => ?_
  match r, h with
  | .error z, h => exact False.elim h
  | .ok (.ret u), ⟨v, H', os, bare, un, ok', rv', q⟩ =>
    have q' : v = .bl true := q
    subst q'
    obtain rfl : u = Value.bool true := rv'
    refine ⟨rfl, OldK.of_keep fun b o e => ?_, os, bare⟩
    cases t : H0 K a vs ns b with
    | none => exact un.keep b o e t (fun z => (List.not_mem_nil z).elim) (fun z => (List.not_mem_nil z).elim)
    | some u =>
      obtain ⟨rfl, _, rfl⟩ := H0_some t
      have e2 := (ok' b _ (un.frzs b _ _ t)).1
      rw [obj] at e
      cases e
      exact e2
theorem walk_ofG {l : PySem.W.OpenLaw} {n k : Nat} {q : Program} {loose : List Str} {XP : (Str → Option Value) → Heap → Prop} {YP : World → Heap → Prop} {d : DefRec} {K : Params → PySem.W.Frag} {sp : World → Sp} {x : Str}
    (hn : l.most = some n) (hn2 : n ≤ sizeLine) (hdf : d.params.defaults = []) (room : Room k callerA) (hY : ∀ (w : World) (h : Heap), YP w h → (K w.params).In h)
    (F : ∀ (w : World) (mg : Str → Option Value) (fa : Addr) (h : Heap), (K w.params).In h → h.Ns mainGlobals mg → mg d.name = some (.ref fa) →
      ∃ fd : FuncData, (∀ (s : Shared) (u : Value), BindsTo s fd ⟨[u], []⟩ [(x, u)]) ∧ ∀ base : Heap, (K w.params).In base → base.Ns mainGlobals mg → FnG l.prog w (K w.params) mg base CX0 k fa fd [x] (sp w))
    (want : ∀ (w : World) (H : Hp) (a : Addr) (ns : List Int), ns.length ≤ n → SqL (K w.params) H a (ns.map V.int) → sp w [.ref a] H (fun v _ => v = .bl true) E0) :
    PySem.W.WalkO q loose XP YP l.row.toRowW d [] (fun f vs => PySem.call f vs) := by
  refine Att.attach_call hn hdf fun w s₀ s₁ mg mb fa o pm cd doc a vs ns G Y ho hd hcd hmg hobj hints hlen hg => ?_
  have kin := hY w _ Y
  obtain ⟨fd, hb, hF⟩ := F w mg fa _ kin G.T.g hmg
  exact law_callG kin G.T.g G.T.b G.T.builtins G.T.nolimit hg hobj hints (Nat.le_trans hlen hn2) room hF hb fun H hS => want w H a ns hlen hS
end Ls
namespace Ls
open PySem PySem.Spec PyProof.Rows L2
/-! ### repr of data, or of a pair of a text and an empty dict -/
def DpX (K : PySem.W.Frag) (H : Hp) (v : V) (d : PyData) : Prop := (Dp K H v d ∧ d.hasDict = false) ∨ ∃ (a e : Addr) (z : Str), v = .ref a ∧ H a = some (.tup [.str z, .ref e]) ∧ H e = some (.dK []) ∧ d = .tuple [.str z, .dict []]
section
variable {X : Cx} {pins : List (Addr × Obj)} {σ : L2.St} {H : Hp} {s : Shared}
theorem DpX.reads (I : Inv X pins σ H s) {v : V} {u : Value} {d : PyData} (h : DpX X.K H v d) (r : RelV v u) : ∃ as, Reads s.heap u d as ∧ (d.hasDict = true → sysModules ∉ as) := by
  rcases h with ⟨h, hn⟩ | ⟨a, e, z, rfl, ha, he, rfl⟩
  · obtain ⟨as, rd⟩ := Dp.reads I d v u h r
    exact ⟨as, rd, fun y => by rw [hn] at y; cases y⟩
  · cases r
    obtain ⟨its, rv, ⟨o, ho, hc, n, hd⟩, _⟩ := I.tuple (.inl (.inl ha))
    obtain ⟨_, hsm, vs, kv, oD, es, ep, hoD, hex, hdD, _, pr, _⟩ := dk_of I.hok he
    cases kv
    have e0 : es.toList = [] := by
      cases h : es.toList with
      | nil => rfl
      | cons x y => rw [h] at pr; cases pr
    have hcls : oD.cls = .type "dict" := hex.1
    cases rv with
    | cons r1 rr =>
      cases rr with
      | cons r2 rr =>
        cases rr
        obtain ⟨t, rfl⟩ := r1
        cases r2
        refine ⟨[] ++ ((e :: [] ++ []) ++ []), Reads.tuple ho hc hd (.cons (.str z t) (.cons (Reads.dict hoD hcls hdD ?_ ?_) .nil)), fun _ hm => ?_⟩
        · rw [e0]
          exact .nil
        · rw [e0]
          exact .nil
        · simp at hm
          rw [← hm] at hsm
          simp at hsm
/-- repr(x): the text of x's data -/
def rReprX (K : PySem.W.Frag) : List V → Hp → VK → Prop := fun xs H Q => ∃ (a : Addr) (d : PyData), xs = [.ref a] ∧ DpX K H (.ref a) d ∧ d.showable = true ∧ d.depth ≤ 60 ∧ d.shown.length ≤ sizeLine ∧ Q (.str d.shown) H
theorem call_repr_dataX {k : Nat} (hgd : X.A.guards = some []) (hr : Room k X.A) : CallR X (.builtin "repr") (rReprX X.K) := by
  intro pins s σ H xs us Q I r h
  obtain ⟨a, d, rfl, hd, hs, hdp, hz, q⟩ := h
  obtain ⟨u, rfl, ru⟩ := r.one
  obtain ⟨as, rd, hsm⟩ := DpX.reads I hd ru
  cases ru
  refine repr_of_reads' rd hs hsm hgd (by have := hr.un; omega) (fun b o e => e) (fun h' v tk keep => ?_) hz
  exact ⟨.str d.shown, H, I.kept (t' := tk) keep, ⟨_, rfl⟩, q⟩
end
end Ls
namespace Ls
open PySem PySem.Spec PyProof.Rows L2
/-! ### data whose text is not too long -/
structure DOk (k m : Nat) (d : PyData) : Prop where
  sh : d.showable = true
  nd : d.hasDict = false
  dp : d.depth ≤ k
  ls : d.leavesShort 100 = true
  bk : d.bulk ≤ m
theorem DOk.mono {k m k' m' : Nat} {d : PyData} (h : DOk k m d) (h1 : k ≤ k') (h2 : m ≤ m') : DOk k' m' d := ⟨h.sh, h.nd, Nat.le_trans h.dp h1, h.ls, Nat.le_trans h.bk h2⟩
theorem DOk.none {m : Nat} : DOk 0 m .none := ⟨rfl, rfl, by simp [PyData.depth], rfl, by simp [PyData.bulk]⟩
theorem DOk.bool {m : Nat} (b : Bool) : DOk 0 m (.bool b) := ⟨rfl, rfl, by simp [PyData.depth], rfl, by simp [PyData.bulk]⟩
theorem log_small {i : Int} (h : i.natAbs < 2 ^ 1920) : i.natAbs.log2 < 1920 := by
  by_cases z : i.natAbs = 0
  · rw [z]
    decide
  · exact (Nat.log2_lt z).mpr h
theorem DOk.int {m : Nat} {i : Int} (h : i.natAbs < 10 ^ 60) : DOk 0 m (.int i) :=
  ⟨by
    have e := log_small (Nat.lt_trans h (show 10 ^ 60 < 2 ^ 1920 by decide +kernel))
    simp [PyData.showable, e], by simp [PyData.hasDict], by simp [PyData.depth], by
    have e := int_text_length_le10 (k := 60) (by decide) h
    simp only [PyData.leavesShort, PyData.shown, decide_eq_true_eq]
    refine decide_eq_true ?_
    rw [PySem.ofString_length]
    omega, by simp [PyData.bulk]⟩
/-- a text of at most m signs -/
def okB (m : Nat) (z : Str) : Bool := decide (z.length ≤ m) && z.cps.toList.all fun c => decide (c < 1114112)
theorem okB_len {m : Nat} {z : Str} (h : okB m z = true) : z.length ≤ m := of_decide_eq_true (Bool.and_eq_true_iff.mp h).1
theorem okB_cp {m : Nat} {z : Str} (h : okB m z = true) : ∀ c ∈ z.cps.toList, c < 1114112 := fun c hc => of_decide_eq_true (List.all_eq_true.mp (Bool.and_eq_true_iff.mp h).2 c hc)
theorem okB_ch {m : Nat} {z : Str} (h : okB m z = true) : ∀ c ∈ z.cps.toList, c < 16 ^ 8 := fun c hc => Nat.lt_trans (okB_cp h c hc) (by decide)
theorem okB_strOk {m : Nat} {z : Str} (h : okB m z = true) : PyData.strOk z = true := by
  unfold PyData.strOk
  rw [← Array.all_toList]
  exact List.all_eq_true.mpr fun c hc => decide_eq_true (okB_cp h c hc)
theorem okB_mono {m m' : Nat} {z : Str} (h : okB m z = true) (h1 : m ≤ m') : okB m' z = true := by
  unfold okB at h ⊢
  obtain ⟨a, b⟩ := Bool.and_eq_true_iff.mp h
  rw [b, decide_eq_true (Nat.le_trans (of_decide_eq_true a) h1)]
  rfl
theorem okB_of {m : Nat} {z : Str} (h : z.length ≤ m) (h2 : ∀ c ∈ z.cps.toList, c < 1114112) : okB m z = true := by
  unfold okB
  rw [decide_eq_true h, Bool.true_and, List.all_eq_true]
  exact fun c hc => decide_eq_true (h2 c hc)
theorem okB_append {m n : Nat} {y z : Str} (h : okB m y = true) (h2 : okB n z = true) : okB (m + n) (y ++ z) = true := by
  unfold okB at h h2
  obtain ⟨a, b⟩ := Bool.and_eq_true_iff.mp h
  obtain ⟨c, d⟩ := Bool.and_eq_true_iff.mp h2
  have a := of_decide_eq_true a
  have c := of_decide_eq_true c
  refine okB_of ?_ fun x hx => ?_
  · rw [strLen_append]
    omega
  · have e : (y ++ z).cps.toList = y.cps.toList ++ z.cps.toList := by rw [PySem.Str.cps_append, Array.toList_append]
    rw [e] at hx
    rcases List.mem_append.mp hx with h | h
    · exact of_decide_eq_true (List.all_eq_true.mp b x h)
    · exact of_decide_eq_true (List.all_eq_true.mp d x h)
theorem DOk.str {m : Nat} {z : Str} (h : okB m z = true) : DOk 0 m (.str z) :=
  ⟨rfl, rfl, by simp [PyData.depth], by
    simp only [PyData.leavesShort]
    exact List.all_eq_true.mpr fun c hc => decide_eq_true (okB_ch h c hc), by
    simp only [PyData.bulk]
    exact okB_len h⟩
theorem dok_all {k m : Nat} : ∀ {ds : List PyData}, (∀ d ∈ ds, DOk k m d) → PyData.showableAll ds = true ∧ PyData.hasDictAll ds = false ∧ PyData.depthAll ds ≤ k ∧ PyData.leavesShortAll 100 ds = true ∧ PyData.bulkAll ds ≤ (m + 1) * ds.length
  | [], _ => ⟨by simp [PyData.showableAll], by simp [PyData.hasDictAll], by simp [PyData.depthAll], by simp [PyData.leavesShortAll], by simp [PyData.bulkAll]⟩
  | d :: r, h => by
    obtain ⟨a, b, c, e, f⟩ := dok_all fun x hx => h x (.tail _ hx)
    obtain ⟨a1, b1, c1, e1, f1⟩ := h d (.head _)
    refine ⟨by simp [PyData.showableAll, a, a1], by simp [PyData.hasDictAll, b, b1], ?_, by simp [PyData.leavesShortAll, e, e1], ?_⟩
    · simp only [PyData.depthAll]
      omega
    · simp only [PyData.bulkAll, List.length_cons]
      rw [Nat.mul_add, Nat.mul_one]
      omega
theorem DOk.list {k m : Nat} {ds : List PyData} (h : ∀ d ∈ ds, DOk k m d) : DOk (k + 1) ((m + 1) * ds.length) (.list ds) := by
  obtain ⟨a, b, c, e, f⟩ := dok_all h
  exact ⟨by rw [PyData.showable]; exact a, by rw [PyData.hasDict]; exact b, by rw [PyData.depth]; omega, by rw [PyData.leavesShort]; exact e, by rw [PyData.bulk]; exact f⟩
theorem DOk.tuple {k m : Nat} {ds : List PyData} (h : ∀ d ∈ ds, DOk k m d) : DOk (k + 1) ((m + 1) * ds.length) (.tuple ds) := by
  obtain ⟨a, b, c, e, f⟩ := dok_all h
  exact ⟨by rw [PyData.showable]; exact a, by rw [PyData.hasDict]; exact b, by rw [PyData.depth]; omega, by rw [PyData.leavesShort]; exact e, by rw [PyData.bulk]; exact f⟩
theorem DOk.list' {k m n : Nat} {ds : List PyData} (h : ∀ d ∈ ds, DOk k m d) (hn : ds.length ≤ n) : DOk (k + 1) ((m + 1) * n) (.list ds) := (DOk.list h).mono (Nat.le_refl _) (Nat.mul_le_mul_left _ hn)
theorem DOk.tuple' {k m n : Nat} {ds : List PyData} (h : ∀ d ∈ ds, DOk k m d) (hn : ds.length ≤ n) : DOk (k + 1) ((m + 1) * n) (.tuple ds) := (DOk.tuple h).mono (Nat.le_refl _) (Nat.mul_le_mul_left _ hn)
theorem DOk.fits {k m : Nat} {d : PyData} (h : DOk k m d) (hk : k ≤ 60) (hm : m ≤ 160000) : d.showable = true ∧ d.depth ≤ 60 ∧ d.shown.length ≤ sizeLine := by
  refine ⟨h.sh, Nat.le_trans h.dp hk, ?_⟩
  have e := PyData.shown_le_bulk 100 (by decide) d h.ls
  have e2 := h.bk
  have e3 : (100 + 2) * d.bulk ≤ 102 * 160000 := Nat.mul_le_mul_left _ (by omega)
  exact Nat.le_trans (show _ ≤ 102 * 160000 + 100 by omega) (by decide)
end Ls
namespace Ls
open PySem PySem.Spec PyProof.Rows L2
/-! ### names and checks are short -/
theorem nm_ok {z : Str} (h : Nm z) : okB 8 z = true := okB_of h.1.2.1 fun c hc => by
  have := (h.1.2.2 c hc).2
  omega
theorem nm_ok100 {z : Str} (h : Nm z) : okB 100 z = true := okB_mono (nm_ok h) (by decide)
theorem with_ok {ws : List Str} {z : Str} (hw : ∀ a ∈ ws, okB 5 a = true) (hz : Nm z) : ∀ x ∈ withN ws z, okB 14 x = true := fun x hx => by
  obtain ⟨a, ha, rfl⟩ := List.mem_map.mp hx
  exact okB_append (okB_append (hw a ha) (show okB 1 " " = true by decide +kernel)) (nm_ok hz)
theorem menu_ok {B : Shp} (hB : B.Ok) : ∀ z ∈ menu B, okB 14 z = true := fun z hz => by
  unfold menu at hz
  rcases List.mem_append.mp hz with hz | hz
  · rcases List.mem_append.mp hz with hz | hz
    · obtain ⟨c, hc, h⟩ := List.mem_flatMap.mp hz
      exact with_ok (show ∀ a ∈ colW, okB 5 a = true by decide +kernel) (hB.nm _ (List.mem_append_right _ (List.mem_map_of_mem hc))) z h
    · obtain ⟨c, hc, h⟩ := List.mem_flatMap.mp hz
      exact with_ok (show ∀ a ∈ kindW, okB 5 a = true by decide +kernel) (hB.nm _ (List.mem_append_left _ (List.mem_map_of_mem hc))) z h
  · exact (show ∀ z ∈ bookW, okB 14 z = true by decide +kernel) z hz
theorem menu_small {B : Shp} (hB : B.Ok) : (menu B).length ≤ 51 := by
  have h2 := menu_len B
  have h3 := hB.nc
  have h4 := hB.nk3
  omega
theorem menu_pos (B : Shp) : 0 < (menu B).length := by
  have h2 := menu_len B
  omega
end Ls
namespace Ls
open PySem PySem.Spec PyProof.Rows L2
/-! ### short steps -/
local macro_rules | `(tactic| walk_at "ls_ne") => `(tactic| first | assumption | exact Ne.symm (by assumption) | exact ne_of_none (by assumption) (by assumption) | exact Ne.symm (ne_of_none (by assumption) (by assumption)))
local macro_rules | `(tactic| walk_at "ls_hp") => `(tactic| first
  | with_reducible assumption
  | exact upd_same
  | exact Eq.trans (upd_ne (by walk_at "ls_ne")) (by walk_at "ls_hp"))
local macro_rules | `(tactic| walk_at "ls_st") => `(tactic| first
  | with_reducible assumption
  | exact Stm.upd (by walk_at "ls_st") (by first | walk_at "ls_ne" | exact (Stm.noneS (by assumption) (by assumption)).1) (by first | walk_at "ls_ne" | exact (Stm.noneS (by assumption) (by assumption)).2))
local macro_rules | `(tactic| walk_at "ls1") => `(tactic| first
  | refine ⟨_, rfl, ?_⟩
  | refine ⟨_, _, rfl, rfl, ?_⟩
  | refine ⟨_, _, _, _, rfl, rfl, .inl (.inl (by walk_at "ls_hp")), rfl, ?_⟩
  | refine ⟨_, _, _, _, rfl, rfl, (by walk_at "ls_hp"), rfl, ?_⟩
  | refine ⟨rfl, _, rfl, ?_⟩
  | refine ⟨.inl ⟨rfl, _, .inl (.inl (by walk_at "ls_hp"))⟩, ?_⟩)
local macro_rules | `(tactic| walk_at "ls") => `(tactic| repeat (walk_at "ls1"))

section
variable {P : Program} {w : World} {K : PySem.W.Frag} {mg : Str → Option Value} {base : Heap}
/-! ### _law_rules -/
abbrev s__law_rules : Stmt := topS 36
theorem sc__law_rules : FnScope ["_law_stream", "_law_many", "_law_most"] ["_law_stream", "_law_many", "_law_most"] (defScope s__law_rules) := ⟨rfl, rfl, rfl, by decide +kernel, rfl, by decide +kernel, by decide +kernel⟩
abbrev N__law_rules : List Str := ["_law_stream", "_law_many", "_law_most"]
def spRules : Sp := fun vs H Q _ => ∃ (S L : Addr) (n m c : Nat), vs = [.ref S, .int (m : Int), .int (c : Int)] ∧ Stm H S L n ∧ n ≤ 9900000 ∧ 0 < m ∧ m ≤ 3 ∧ 0 < c ∧ c ≤ 8 ∧
  ∀ (H' : Hp) (b : Addr) (B : Shp) (ck : List Str), B.Ok → B.ks.length ≤ m → B.cs.length ≤ c → H b = none → ck.Sublist (menu B) → ShpAt S L H' b B ck → Stm H' S L (n + 300) → Old S L H H' → Q (.ref b) H'
theorem ok_rules {f : Addr} {fd : FuncData} (F : Fun K "_law_rules" "_law_rules" s__law_rules f fd) (T : Bt mg) (O__law_draw : Own P w K mg base CX0 1 "_law_draw" ["_law_stream", "_law_many"] spDraw)
    (O__law_shape : Own P w K mg base CX0 4 "_law_shape" ["_law_stream", "_law_many", "_law_most"] spShape) (O__law_checked : Own P w K mg base CX0 2 "_law_checked" ["_law_stream", "_law_b"] spChecked) : FnOk P w K mg base CX0 5 f fd ["_law_stream", "_law_many", "_law_most"] spRules := by
  refine F.ok sc__law_rules (fun vs H Q E h => ?_) (fun cdv A outer s H vs Q E hr h => ?_)
  · obtain ⟨S, L, n, m, c, rfl, _⟩ := h
    rfl
  · obtain ⟨S, L, n, m, c, rfl, st, hn, hm0, hm3, hc0, hc8, q⟩ := h
    have hu := hu_of hr
    refine ⟨_, (pss_one (ps_ret (own_call O__law_checked hr (by first | decide | omega) (pa_cons (pv 0) (pa_cons (own_call O__law_shape hr (by first | decide | omega) (pa_cons (pv 0) (pa_cons (pe_op op_add pe_int (own_call O__law_draw hr (by first | decide | omega) (pa_cons (pv 0) (pa_cons (pv 1) pa_nil)))) (pa_cons (pv 2) pa_nil)))) pa_nil))))), ?_⟩
    walk_at "ls"
    refine ⟨S, L, n, (m : Int), rfl, st, by omega, by omega, by omega, fun H1 r r0 r1 st1 od1 => ?_⟩
    refine ⟨_, _, rfl, rfl, ?_⟩
    have er : (1 : Int) + r = ((1 + r.toNat : Nat) : Int) := by omega
    walk_at "ls"
    refine ⟨S, L, n + 1, 1 + r.toNat, c, (by show [V.ref S, V.int (1 + r), V.int (c : Int)] = _; rw [er]), st1, by omega, by omega, by omega, hc0, hc8, fun H2 b B hB hBk hBc hb2 hsh st2 od2 => ?_⟩
    refine ⟨S, L, b, _, B, [], rfl, st2, by omega, hsh, hB, fun H3 p ck' hp hck hsh3 st3 od3 => ?_⟩
    exact q _ p B ck' hB (by omega) hBc ((od1.trans od2).none hp (st2.noneS hp)) hck hsh3 (st3.mono (by omega)) ((od1.trans od2).trans od3)
end
end Ls
namespace Ls
open PySem PySem.Spec PyProof.Rows L2 NdefX
open PySem.W (InstAt ks_superObj ksEnv mg_none_of)

/-! ### an own error over ValueError whose __init__ says super().__init__('..') ahead -/
abbrev bmVE : List Value := [.type "ValueError", .type "Exception", .type "BaseException", .type "object"]
/-- the class at C, the cell of its name, the code object of its __init__ -/
structure SupC (P : Program) (K : PySem.W.Frag) (C cc cda : Addr) : Prop where
  ox : OexC K C
  code : ∃ ccl cdd vs ccs file tf, K.lookup cda = some ⟨ccl, cdd, .fields vs, ccs⟩ ∧ vs[2]? = some (.str file tf) ∧ ((P.main.file : Str) == file) = true
  cell : ∃ cl cld csl, K.lookup cc = some ⟨cl, cld, .cell (some (.ref C)), csl⟩
  sub : PySem.W.mroIn K C (.ref C) = some true
  nsup : PySem.W.nsIn K mainGlobals "super" = some none
  opq : PySem.W.nsIn K cStatics "thirdparty.any" = some none
  sup : PySem.W.ks_superIn K C C "__init__" = some (some (.builtin "ValueError.__init__"))
  subV : PySem.W.subIn K (.ref C) (.type "ValueError") = some true
  ini : PySem.W.excInitIn K C bmVE "ValueError.__new__" = true
  top : (P.main.scope.names.lookup ("super" : Str)).isSome = false

section
variable {prog : Program} {w : World} {A : Around} {E : Value → Shared → Prop} {s : Shared} {h₀ : Heap} {L : Addr} {m mg : Str → Option Value} {K : PySem.W.Frag} {news : List (Addr × Obj)} {x C f cc cda : Addr} {ox : Obj} {odx : Option Obj}
  {body : List Stmt} {q : Str} {scope : Scope} {p0 p1 p2 p3 p4 p5 : Pos} {fd : FuncData} {ar : Arg} {oc : Value} {od : Option Addr} {osl : Array (Option Value)}
theorem sup_node {whole : Sem Value} {Q : Value → Shared → Prop} (T : SupC prog K C cc cda) (F : Fr h₀ L s.heap m) (M : Mod K mg h₀) (N : News h₀ L s.heap news)
    (hf : K.lookup f = some ⟨oc, od, .func fd, osl⟩) (hp : (fd.params.posonlyargs ++ fd.params.args).head? = some ar) (hv : m ar.arg = some (.ref x)) (I : InstAt s.heap x ox C odx)
    (hks : scope.names.lookup ("super" : Str) = some .globalImplicit) (hkc : scope.names.lookup ("__class__" : Str) = some .free) (hka : scope.names.lookup ar.arg = some .local) (hk : scope.kind = .function)
    (h : ∀ so h', Fr h₀ L h' m → News h₀ L h' ((so, ks_superObj C x C) :: news) → (∀ p ∈ news, p.1 < so) → Q (.ref so) { s with heap := h' }) :
    _root_.PySem.wpAt (model prog w) A (.func body (ksEnv q scope L f (.ref cda) cc)) (attributeBase (.Call (.Name "super" p0) [] [] p1) "__init__" (ksEnv q scope L f (.ref cda) cc) whole) Q E s := by
  have KH : K.In s.heap := M.kin.keeps F.keep
  obtain ⟨ccl, cdd, vs, ccs, file, tf, hcode, hvs, hfile⟩ := T.code
  obtain ⟨cl, cld, csl, hcell⟩ := T.cell
  obtain ⟨nm, qn, N', bs, bm, sn, sub, ab, col, dd, k0, k1, k2, k3, k5, hC, _⟩ := T.ox.cls
  obtain ⟨mb, hb, hbt⟩ := M.blt
  obtain ⟨hh, g, d, t, os⟩ := s
  have oC := KH _ _ hC
  refine ks_wpAt_super_base (env := ksEnv q scope L f (.ref cda) cc) hks hkc (by decide) rfl (KH _ _ hf) rfl hp rfl (KH _ _ hcode) rfl hvs hfile T.top ?_
  refine PySem.W.ks_loadName_global hk hks ?_
  refine Calls.loadGlobal_builtin (env := ksEnv q scope L f (.ref cda) cc) (M.glob.keeps F.keep) (mg_none_of M.kin M.glob T.nsup) (hb.keeps F.keep) ((hbt _ (by decide +kernel)).trans PyProof.Rows.Boot.«super») ⟨rfl, ?_⟩
  refine wpAny_loadName_free hk hkc rfl ⟨_, KH _ _ hcell, rfl⟩ ?_
  refine wpAny_loadName_local hk hka F.ns hv ?_
  refine ks_wpAny_isType_cls oC rfl ⟨rfl, ?_⟩
  have nc : ∀ c, ox.data ≠ .cls c := fun c e => by
    have z := I.no
    unfold PySem.W.notCls at z
    rw [e] at z
    exact Bool.noConfusion z
  refine ks_wpAny_call_super oC rfl I.at_ I.cls nc (PySem.W.looks_mroIn KH T.sub) fun h' e k => ?_
  obtain ⟨F', N', l'⟩ := PySem.W.ks_newsPush (s := ⟨hh, g, d, t, os⟩) F N rfl e k
  exact h _ _ F' N' l'
/-- how that call reads in its frame -/
def SupEv (q : Str) (scope : Scope) (f cc cda : Addr) (txt : Str) (j : Nat) (p0 p1 p2 p3 p4 : Pos) : Prop := ∀ L, ∃ pl : Sem Bool, eval (.Call (.Attribute (.Call (.Name "super" p0) [] [] p1) "__init__" p2) [.Constant (.str txt) j p3] [] p4) (ksEnv q scope L f (.ref cda) cc) = (do
  let ov ← attributeBase (.Call (.Name "super" p0) [] [] p1) "__init__" (ksEnv q scope L f (.ref cda) cc) (eval (.Call (.Name "super" p0) [] [] p1) (ksEnv q scope L f (.ref cda) cc))
  standAt p2.atName
  let (f', first) ← holding [ov] (getMethod ov "__init__" pl)
  callWith p4 f' first (backTo p4 (starEach [.Constant (.str txt) j p3] (ksEnv q scope L f (.ref cda) cc))) [])
/-- the statement super().__init__('..') -/
theorem sup_first {txt : Str} {j : Nat} {t0 : Addr} {Q : Flow → Shared → Prop} (T : SupC prog K C cc cda) (F : Fr h₀ L s.heap m) (M : Mod K mg h₀) (hx : s.heap.get? x = some (PySem.W.excObj C t0 none .none)) (xL : x ≠ L) (x0 : h₀.get? x = none)
    (hf : K.lookup f = some ⟨oc, od, .func fd, osl⟩) (hp : (fd.params.posonlyargs ++ fd.params.args).head? = some ar) (hv : m ar.arg = some (.ref x))
    (hks : scope.names.lookup ("super" : Str) = some .globalImplicit) (hkc : scope.names.lookup ("__class__" : Str) = some .free) (hka : scope.names.lookup ar.arg = some .local) (hk : scope.kind = .function)
    (hev : SupEv q scope f cc cda txt j p0 p1 p2 p3 p4) (h : ∀ h' tk t1, Fr h₀ L h' m → h'.get? x = some (PySem.W.excObj C t1 none .none) → Q .next { s with heap := h', toks := tk }) :
    _root_.PySem.wpAt (model prog w) A (.func body (ksEnv q scope L f (.ref cda) cc)) (exec (.Expr (.Call (.Attribute (.Call (.Name "super" p0) [] [] p1) "__init__" p2) [.Constant (.str txt) j p3] [] p4) p5) (ksEnv q scope L f (.ref cda) cc)) Q E s := by
  have N : News h₀ L s.heap [(x, PySem.W.excObj C t0 none .none)] := fun p hp => by
    rcases List.mem_singleton.mp hp with rfl
    exact ⟨hx, xL, x0⟩
  obtain ⟨pl, hcl⟩ := hev L
  refine ks_wpAt_Expr_any (ks_wpAt_MethodCall (pl := pl) ?_ hcl) (hi := by show (scope.kind == .module && _) = false; rw [hk]; rfl)
  refine sup_node (ox := PySem.W.excObj C t0 none .none) (odx := none) T F M N hf hp hv ⟨hx, rfl, rfl, trivial⟩ hks hkc hka hk fun so h1 F1 N1 l1 => ?_
  refine PySem.W.kxs_method PySem.W.kxs_ValueError F1 M.kin N1 (List.mem_cons_self ..) (ox := PySem.W.excObj C t0 none .none) (odx := none) ⟨(N1 _ (.tail _ (.head _))).1, rfl, rfl, trivial⟩ T.opq T.sup T.subV rfl fun u h2 F2 N2 l2 => ?_
  have xs : x ≠ so := Nat.ne_of_lt (l1 (x, PySem.W.excObj C t0 none .none) (.head _))
  have xu : x ≠ u := Nat.ne_of_lt (l2 (x, PySem.W.excObj C t0 none .none) (.tail _ (.head _)))
  refine PySem.W.kxs_callWith1 N2 (.head _) ?_
  refine Calls.spliced_cons (Calls.Constant_str (k := j) (pos := p3) (Calls.spliced_nil ⟨PySem.W.kxs_at N2 (.head _), ?_⟩))
  refine PySem.W.kxs_call F2 M.kin N2 PySem.F.excBase_ValueError T.ini (.head _) (PySem.W.UpdF.tail (Ne.symm xu) (PySem.W.UpdF.tail (Ne.symm xs) (PySem.W.UpdF.head fun p hp => nomatch hp))) (by show 1 ≤ sizeLine; rw [sizeLine_eq]; omega) fun t' h3 F3 N3 l3 => ?_
  exact h h3 _ t' F3 (N3 _ (.tail _ (.tail _ (.tail _ (.head _))))).1
end

/-- no error leaves -/
abbrev CXN : CXT := fun _ _ _ _ _ _ => False
/-- THE RULE: such an __init__ by what stands behind super().__init__('..') -/
theorem sup_fn {CX : CXT} {P : Program} {w : World} {K : PySem.W.Frag} {mg : Str → Option Value} {base : Heap} {k : Nat} {fI C cc cda : Addr} {name qual : Str} {params : Arguments} {body rest : List Stmt} {scope : Scope} {doc pm ct oc : Value}
    {od : Option Addr} {osl : Array (Option Value)} {N ps : List Str} {sp : Sp} {txt : Str} {j : Nat} {p0 p1 p2 p3 p4 p5 : Pos} {ar : Arg} (T : SupC P K C cc cda)
    (lk : K.lookup fI = some ⟨oc, od, .func (PySem.W.fnX name qual params body scope [("__class__", cc)] .none .none doc pm none (.ref cda) ct), osl⟩) (hcd : PySem.W.codeIn K (.ref cda) qual = true) (S : NScope N ps ["__class__"] scope)
    (hbd : body = .Expr (.Call (.Attribute (.Call (.Name "super" p0) [] [] p1) "__init__" p2) [.Constant (.str txt) j p3] [] p4) p5 :: rest)
    (hp : (params.posonlyargs ++ params.args).head? = some ar) (ha : ps[0]? = some ar.arg) (hks : scope.names.lookup ("super" : Str) = some .globalImplicit) (hev : SupEv qual scope fI cc cda txt j p0 p1 p2 p3 p4)
    (len : ∀ vs H Q E, sp vs H Q E → vs.length = ps.length)
    (self : ∀ vs H Q E, sp vs H Q E → ∃ a, vs[0]? = some (.ref a) ∧ H a = some (exo a C none))
    (hbody : ∀ (A : Around) (outer : List Env) (s : Shared) (H : Hp) (vs : List V) (Q : VK) (E : XK), sp vs H Q E →
      ∃ t, PSs (ncx CXN P w K mg base N ⟨name, qual, params, body, scope, [("__class__", cc)], cda⟩ fI A outer s H E) rest t ∧ t { nx := fun _ H' => Q .non H', rt := Q } (startF N vs [some (.ref C)]) H) :
    FnOk P w K mg base CX (k + 1) fI (PySem.W.fnX name qual params body scope [("__class__", cc)] .none .none doc pm none (.ref cda) ct) ps sp := by
  refine ⟨len, fun A outer s H args us vs Q E hr e0 hb r hsp => ?_⟩
  have hl := len _ _ _ _ hsp
  obtain ⟨a, hv0, hHa⟩ := self _ _ _ _ hsp
  obtain ⟨u0, hu0, ru0⟩ := r.get hv0
  obtain rfl : u0 = Value.ref a := ru0
  have bk : ∀ b o, base.get? b = some o → s.heap.get? b = some o := fun b o e => (e0.bs b o e).1
  have KX : K.In s.heap := e0.mod.kin.keeps bk
  have lim : s.heap.NoLimit := e0.mod.nolimit.keeps bk
  obtain ⟨t1, hoa⟩ := exo_at e0.hok hHa
  obtain ⟨cl, cld, csl, hcell⟩ := T.cell
  have C0 : CellsAt [("__class__", cc)] ["__class__"] [some (.ref C)] s.heap H := {
    len := rfl
    all := fun y c e => by
      have z : y = "__class__" ∧ c = cc := by
        by_cases hy : y = ("__class__" : Str)
        · subst hy
          simp [List.lookup] at e
          exact ⟨rfl, e.symm⟩
        · have e2 : (y == ("__class__" : Str)) = false := by simpa using hy
          simp [List.lookup, e2] at e
      obtain ⟨_, rfl⟩ := z
      refine ⟨?_, _, _, KX _ _ hcell, rfl⟩
      exact (e0.bs _ _ (e0.mod.kin _ _ hcell)).2
    inj := fun x y c e1 e2 => by
      have one : ∀ {y : Str}, List.lookup y [(("__class__" : Str), cc)] = some c → y = "__class__" := fun {y} e => by
        by_cases hy : y = ("__class__" : Str)
        · exact hy
        · have e2 : (y == ("__class__" : Str)) = false := by simpa using hy
          simp [List.lookup, e2] at e
      rw [one e1, one e2]
    has := fun i y e => by
      cases i with
      | succ i => simp at e
      | zero =>
        simp at e
        subst e
        refine ⟨cc, by simp [List.lookup], fun v hv => ?_⟩
        simp at hv
        subst hv
        exact ⟨.ref C, rfl, _, KX _ _ hcell, rfl⟩ }
  refine codeAny_call_function hr.depth (KX _ _ lk) rfl S.co S.gen rfl (PySem.W.codeRec_of KX hcd) (hb _ _ _ _ ?_)
  refine wpAny_newFunctionEnv S.nocell (fun ⟨n, _⟩ hy => S.par n (List.of_mem_zip hy).1) (fun h₁ hns hsb => ⟨lim.fresh _ hsb, ?_⟩) S.kind
  have kp : ∀ b o, s.heap.get? b = some o → h₁.get? b = some o := fun b o e => hsb.extBut b o (Nat.ne_of_lt (Heap.lt_size e)) (Heap.get?_push_of_some _ e)
  obtain ⟨t, ht, hq⟩ := hbody A outer s H vs Q E hsp
  have I1 : Inv (ncx CXN P w K mg base N ⟨name, qual, params, body, scope, [("__class__", cc)], cda⟩ fI A outer s H E) [] (startF N vs [some (.ref C)]) H { s with heap := h₁, toks := s.toks + (ps.zip us).length } := inv_startN S hr.hd e0 hl r C0 hns kp
  have aL : a ≠ s.heap.objs.size := Nat.ne_of_lt (Heap.lt_size hoa)
  have hid : ∀ b o, (PySem.W.hideAll s.heap [a]).get? b = some o → s.heap.get? b = some o := fun b o e => PySem.W.of_hideAll _ e
  have G0 : ∀ b o, base.get? b = some o → (PySem.W.hideAll s.heap [a]).get? b = some o := fun b o e => PySem.W.hideAll_get _ (bk b o e) fun z => by
    have z' := List.mem_singleton.mp z
    subst z'
    rw [(e0.bs _ _ e).2] at hHa
    cases hHa
  have M0 : Mod K mg (PySem.W.hideAll s.heap [a]) := ⟨e0.mod.kin.keeps G0, e0.mod.glob.keeps G0, by
    obtain ⟨mb, hb, hbt⟩ := e0.mod.blt
    exact ⟨mb, hb.keeps G0, hbt⟩, e0.mod.nolimit.keeps G0⟩
  have ndP : ps.Nodup := by
    have q := S.nd.sublist (List.take_sublist (ps.length + [("__class__" : Str)].length) N)
    rw [S.pre] at q
    exact (List.nodup_append.mp q).1
  have F1 : Fr (PySem.W.hideAll s.heap [a]) s.heap.objs.size h₁ (fun y => (ps.zip us).reverse.lookup y) := ⟨hns, fun b o e => kp _ _ (hid _ _ e), Nat.le_of_eq (PySem.W.hideAll_size _ _)⟩
  show codeAny _ _ (.func body (envF ⟨name, qual, params, body, scope, [("__class__", cc)], cda⟩ fI s.heap.objs.size)) _ _
  refine ks_codeAny_funcAt ?_
  show _root_.PySem.wpAt _ _ (.func body (ksEnv qual scope s.heap.objs.size fI (.ref cda) cc)) (execs body (ksEnv qual scope s.heap.objs.size fI (.ref cda) cc)) _ _ _
  have hbx : execs body (ksEnv qual scope s.heap.objs.size fI (.ref cda) cc) = execs (.Expr (.Call (.Attribute (.Call (.Name "super" p0) [] [] p1) "__init__" p2) [.Constant (.str txt) j p3] [] p4) p5 :: rest) (ksEnv qual scope s.heap.objs.size fI (.ref cda) cc) := by rw [hbd]
  rw [hbx]
  refine ks_wpAt_execs_cons ?_
  refine sup_first (x := a) T F1 M0 (kp _ _ hoa) aL (PySem.W.hideAll_none _ (List.mem_singleton.mpr rfl)) lk hp (zip_look ndP ha hu0) hks (S.frk _ (List.mem_singleton.mpr rfl)) (S.par _ (List.mem_of_getElem? ha)) S.kind hev fun h3 tk t3 F3 hx3 => ?_
  have k3 : ∀ b o, b ≠ a → s.heap.get? b = some o → h3.get? b = some o := fun b o hb e => F3.keep _ _ (PySem.W.hideAll_get _ e fun z => hb (List.mem_singleton.mp z))
  have old : ∀ b o, b ≠ s.heap.objs.size → h₁.get? b = some o → s.heap.get? b = some o := fun b o hb e => by
    exact (Heap.get?_push_ne _ _ _ hb).symm.trans ((hsb.2 b hb).symm.trans e)
  have na : ∀ {b : Addr}, H b = none → b ≠ a := fun {b} n z => by
    rw [z, hHa] at n
    cases n
  have eu : upd H a (exo a C none) = H := by
    funext b
    by_cases hb : b = a
    · rw [hb, upd_same, hHa]
    · rw [upd_ne hb]
  have hok3 : HOk P w H h3 := by
    have z := e0.hok.write (x := a) (e := a) (o' := exo a C none) (h' := h3) (by rw [hHa]; exact True.intro) (.inl rfl) k3 ⟨_, hx3⟩ (exo_ok hx3)
    rw [eu] at z
    exact z
  have I3 : Inv (ncx CXN P w K mg base N ⟨name, qual, params, body, scope, [("__class__", cc)], cda⟩ fI A outer s H E) [] (startF N vs [some (.ref C)]) H { s with heap := h3, toks := tk } := by
    refine Inv.step (s := { s with heap := h₁, toks := s.toks + (ps.zip us).length }) (h' := h3) I1 (g' := s.gens) (d' := s.drawn) (t' := tk) (ch := []) (fun _ z => nomatch z) (fun b o hL _ _ e n => k3 b o (na n) (old b o hL e)) (fun b o hL _ _ e n => ⟨o.slots, k3 b o (na n) (old b o hL e)⟩) (fun _ _ _ _ n => n) (fun b o _ e => ?_)
      (fun _ _ z => z) (fun _ _ _ z => z) (fun b ps z => ⟨#[], by rw [z]; simp⟩) (fun m hm => ?_) hok3 e0.bare
    · by_cases hL : b = s.heap.objs.size
      · obtain ⟨o', _, _, q, _⟩ := F3.ns
        exact ⟨o', by rw [hL]; exact q⟩
      · by_cases hb : b = a
        · exact ⟨_, by rw [hb]; exact hx3⟩
        · exact ⟨o, k3 b o hb (old b o hL e)⟩
    · have q : m = fun y => (ps.zip us).reverse.lookup y := funext fun y => Heap.Ns.agree (show h₁.Ns s.heap.objs.size m from hm) hns y
      rw [q]
      exact F3.ns
  refine wpAt_of_wpAny ?_
  refine wpAny_mono (ht.run [] _ (startF N vs [some (.ref C)]) H _ I3 hq) (fun fl s' hs => ?_) fun e s' hs => ?_
  · have fin : ∀ {σ' : L2.St} {H' : Hp} {v : V} {u : Value}, Inv (ncx CXN P w K mg base N ⟨name, qual, params, body, scope, [("__class__", cc)], cda⟩ fI A outer s H E) [] σ' H' s' → L2.RelV v u → Q v H' → CE outer P w H s Q u s' :=
      fun {σ' H' v u} J rv q => ⟨v, H', J.os, J.bare, J.base, J.hok, rv, q⟩
    cases fl with
    | ret u =>
      obtain ⟨v, σ', H', J, rv, q⟩ := hs
      exact fin J rv q
    | next =>
      obtain ⟨σ', H', J, q⟩ := hs
      exact fin (v := V.non) (u := Value.none) J rfl q
    | brk =>
      obtain ⟨_, _, _, q⟩ := hs
      exact False.elim q
    | cont =>
      obtain ⟨_, _, _, q⟩ := hs
      exact False.elim q
  · exact wpAny_mono hs (fun _ _ z => z.elim) fun _ _ z => z.elim
end Ls
namespace Ls
open PySem PySem.Spec PyProof.Rows L2 NdefX
open PySem.W (ksEnv)

/-! ### the texts of such __init__ -/
/-- self.f = f -/
def StoreSt (f : Str) (st : Stmt) : Prop := (∃ p p' p'' pos, st = .Assign [.Attribute (.Name "self" p) f p'] (.Name f p'') pos) ∧ (f == ("__debug__" : Str)) = false ∧ (f == ("__classdict__" : Str)) = false
def Stores : List Str → List Stmt → Prop
  | [], [] => True
  | f :: fs, st :: r => StoreSt f st ∧ Stores fs r
  | _, _ => False
/-- what is asked of the text st of an own error's __init__ with the fields fs -/
structure ErrTx (st : Stmt) (qual : Str) (fs : List Str) : Prop where
  nsc : NScope (("self" : Str) :: (fs ++ [("__class__" : Str)])) (("self" : Str) :: fs) [("__class__" : Str)] (defScope st)
  hsup : (defScope st).names.lookup ("super" : Str) = some .globalImplicit
  par : ∃ ar, ((defArgs st).posonlyargs ++ (defArgs st).args).head? = some ar ∧ ar.arg = "self"
  body : ∃ (txt : Str) (j : Nat) (p0 p1 p2 p3 p4 p5 : Pos) (rest : List Stmt), defBody st = .Expr (.Call (.Attribute (.Call (.Name "super" p0) [] [] p1) "__init__" p2) [.Constant (.str txt) j p3] [] p4) p5 :: rest ∧ Stores fs rest ∧
    ∀ f cc cda, SupEv qual (defScope st) f cc cda txt j p0 p1 p2 p3 p4
  bind : ∀ (cc cda : Addr) (doc pm ct : Value) (us : List Value), us.length = (("self" : Str) :: fs).length → bindArgs (PySem.W.fnX "__init__" qual (defArgs st) (defBody st) (defScope st) [("__class__", cc)] .none .none doc pm none (.ref cda) ct) ⟨us, []⟩ = pure ((("self" : Str) :: fs).zip us)

/-! ### what they promise -/
/-- an exception of C at a, its dict (fields fs) at d -/
def exoD (H : Hp) (a C d : Addr) (fs : List (Str × V)) : Hp := upd (upd H d (exd d fs)) a (exo a C (some d))
def spI0 (C : Addr) : Sp := fun vs H Q _ => ∃ a, vs = [.ref a] ∧ H a = some (exo a C none) ∧ Q .non H
def spI1 (C : Addr) (f : Str) : Sp := fun vs H Q _ => ∃ a v, vs = [.ref a, v] ∧ H a = some (exo a C none) ∧ ∀ d, H d = none → d ≠ a → Q .non (exoD H a C d [(f, v)])
def spI2 (C : Addr) (f g : Str) : Sp := fun vs H Q _ => ∃ a v w, vs = [.ref a, v, w] ∧ H a = some (exo a C none) ∧ ∀ d, H d = none → d ≠ a → Q .non (exoD H a C d [(g, w), (f, v)])

section
variable {CX : CXT} {P : Program} {w : World} {K : PySem.W.Frag} {mg : Str → Option Value} {base : Heap} {fI C cc cda : Addr} {st : Stmt} {qual f g : Str} {doc pm ct oc : Value} {od : Option Addr} {osl : Array (Option Value)}
theorem err_fn0 (T : SupC P K C cc cda) (Tx : ErrTx st qual [])
    (lk : K.lookup fI = some ⟨oc, od, .func (PySem.W.fnX "__init__" qual (defArgs st) (defBody st) (defScope st) [("__class__", cc)] .none .none doc pm none (.ref cda) ct), osl⟩) (hcd : PySem.W.codeIn K (.ref cda) qual = true) :
    FnOk P w K mg base CX 1 fI (PySem.W.fnX "__init__" qual (defArgs st) (defBody st) (defScope st) [("__class__", cc)] .none .none doc pm none (.ref cda) ct) ["self"] (spI0 C) := by
  obtain ⟨txt, j, p0, p1, p2, p3, p4, p5, rest, hb, hst, hev⟩ := Tx.body
  obtain ⟨ar, hp, ha⟩ := Tx.par
  refine sup_fn (N := ["self", "__class__"]) T lk hcd Tx.nsc hb hp (by rw [ha]; rfl) Tx.hsup (hev _ _ _) (fun vs H Q E ⟨a, e, _⟩ => by rw [e]; rfl) (fun vs H Q E ⟨a, e, h, _⟩ => ⟨a, by rw [e]; rfl, h⟩) fun A outer s H vs Q E ⟨a, e, h, q⟩ => ?_
  cases rest with
  | nil => exact ⟨_, pss_nil, q⟩
  | cons x r => exact hst.elim
theorem err_fn1 (T : SupC P K C cc cda) (Tx : ErrTx st qual [f]) (hno : PySem.W.findIn K (.ref C) f = some none)
    (lk : K.lookup fI = some ⟨oc, od, .func (PySem.W.fnX "__init__" qual (defArgs st) (defBody st) (defScope st) [("__class__", cc)] .none .none doc pm none (.ref cda) ct), osl⟩) (hcd : PySem.W.codeIn K (.ref cda) qual = true) :
    FnOk P w K mg base CX 1 fI (PySem.W.fnX "__init__" qual (defArgs st) (defBody st) (defScope st) [("__class__", cc)] .none .none doc pm none (.ref cda) ct) ["self", f] (spI1 C f) := by
  obtain ⟨txt, j, p0, p1, p2, p3, p4, p5, rest, hb, hst, hev⟩ := Tx.body
  obtain ⟨ar, hp, ha⟩ := Tx.par
  refine sup_fn (N := ["self", f, "__class__"]) T lk hcd Tx.nsc hb hp (by rw [ha]; rfl) Tx.hsup (hev _ _ _) (fun vs H Q E ⟨a, v, e, _⟩ => by rw [e]; rfl) (fun vs H Q E ⟨a, v, e, h, _⟩ => ⟨a, by rw [e]; rfl, h⟩) fun A outer s H vs Q E ⟨a, v, e, h, q⟩ => ?_
  subst e
  match rest, hst with
  | [x], hst =>
    obtain ⟨⟨⟨q1, q2, q3, q4, rfl⟩, d1, d2⟩, _⟩ := hst
    refine ⟨_, pss_one (ps_ost (pe_var (i := 0) rfl (.inl (Tx.nsc.par _ (List.mem_cons_self ..)))) (pe_var (i := 1) rfl (.inl (Tx.nsc.par _ (.tail _ (.head _)))) d1 d2)), ?_⟩
    exact ⟨v, rfl, .ref a, rfl, a, C, rfl, T.ox, hno, .inl ⟨h, fun dx n ne => q dx n ne⟩⟩
  | [], hst => exact hst.elim
  | _ :: _ :: _, hst => exact hst.2.elim
theorem err_fn2 (T : SupC P K C cc cda) (Tx : ErrTx st qual [f, g]) (hno : PySem.W.findIn K (.ref C) f = some none) (hno2 : PySem.W.findIn K (.ref C) g = some none)
    (lk : K.lookup fI = some ⟨oc, od, .func (PySem.W.fnX "__init__" qual (defArgs st) (defBody st) (defScope st) [("__class__", cc)] .none .none doc pm none (.ref cda) ct), osl⟩) (hcd : PySem.W.codeIn K (.ref cda) qual = true) :
    FnOk P w K mg base CX 1 fI (PySem.W.fnX "__init__" qual (defArgs st) (defBody st) (defScope st) [("__class__", cc)] .none .none doc pm none (.ref cda) ct) ["self", f, g] (spI2 C f g) := by
  obtain ⟨txt, j, p0, p1, p2, p3, p4, p5, rest, hb, hst, hev⟩ := Tx.body
  obtain ⟨ar, hp, ha⟩ := Tx.par
  refine sup_fn (N := ["self", f, g, "__class__"]) T lk hcd Tx.nsc hb hp (by rw [ha]; rfl) Tx.hsup (hev _ _ _) (fun vs H Q E ⟨a, v, u, e, _⟩ => by rw [e]; rfl) (fun vs H Q E ⟨a, v, u, e, h, _⟩ => ⟨a, by rw [e]; rfl, h⟩) fun A outer s H vs Q E ⟨a, v, u, e, h, q⟩ => ?_
  subst e
  match rest, hst with
  | [x, y], hst =>
    obtain ⟨⟨⟨q1, q2, q3, q4, rfl⟩, d1, d2⟩, ⟨⟨q5, q6, q7, q8, rfl⟩, d3, d4⟩, _⟩ := hst
    refine ⟨_, pss_cons (ps_ost (pe_var (i := 0) rfl (.inl (Tx.nsc.par _ (List.mem_cons_self ..)))) (pe_var (i := 1) rfl (.inl (Tx.nsc.par _ (.tail _ (.head _)))) d1 d2))
      (pss_one (ps_ost (pe_var (i := 0) rfl (.inl (Tx.nsc.par _ (List.mem_cons_self ..)))) (pe_var (i := 2) rfl (.inl (Tx.nsc.par _ (.tail _ (.tail _ (.head _))))) d3 d4))), ?_⟩
    refine ⟨v, rfl, .ref a, rfl, a, C, rfl, T.ox, hno, .inl ⟨h, fun dx n ne => ?_⟩⟩
    refine ⟨u, rfl, .ref a, rfl, a, C, rfl, T.ox, hno2, .inr ⟨dx, [(f, v)], upd_same, (upd_ne ne).trans upd_same, Nat.le_of_ble_eq_true rfl, ?_⟩⟩
    have e : upd (upd (upd H dx (exd dx [(f, v)])) a (exo a C (some dx))) dx (exd dx [(g, u), (f, v)]) = exoD H a C dx [(g, u), (f, v)] := by
      funext b
      unfold exoD
      by_cases hb : b = dx
      · subst hb
        rw [upd_same, upd_ne ne, upd_same]
      · rw [upd_ne hb]
        by_cases h2 : b = a
        · subst h2
          rw [upd_same, upd_same]
        · rw [upd_ne h2, upd_ne h2, upd_ne hb, upd_ne hb]
    show Q _ (upd (upd (upd H dx (exd dx [(f, v)])) a (exo a C (some dx))) dx (exd dx [(g, u), (f, v)]))
    rw [e]
    exact q dx n ne
  | [], hst => exact hst.elim
  | [_], hst => exact hst.2.elim
  | _ :: _ :: _ :: _, hst => exact hst.2.2.elim
end
end Ls
namespace Ls
open PySem PySem.Spec PyProof.Rows L2 NdefX

/-! ### a class of own errors -/
/-- x names the class at C, its fields fs, sp what its __init__ promises -/
structure OwnX (P : Program) (w : World) (K : PySem.W.Frag) (mg : Str → Option Value) (base : Heap) (x : Str) (fs : List Str) (sp : Sp) (C : Addr) : Prop where
  ox : OexC K C
  xf : XfC K C
  gl : mg x = some (.ref C)
  nof : ∀ f ∈ fs, PySem.W.findIn K (.ref C) f = some none
  ini : ∃ (fI : Addr) (fd : FuncData), PySem.W.findIn K (.ref C) "__init__" = some (some (.ref fI)) ∧ PySem.W.typeIn K (.ref fI) = some (.type "function") ∧ FnOk P w K mg base CX0 1 fI fd (("self" : Str) :: fs) sp ∧ Binds K fd (("self" : Str) :: fs) []

/-- a reading of arguments that may be weakened -/
def upA (ta : TA) : TA := fun σ H Q => ∃ Q' : List V → Hp → Prop, ta σ H Q' ∧ ∀ vs H', Q' vs H' → Q vs H'
section
variable {X : Cx} {x f g : Str} {C : Addr} {fs : List Str} {sp : Sp} {e : Expr} {es : List Expr} {ta : TA} {p pos : Pos}
theorem pa_up (h : PA X es ta) : PA X es (upA ta) := ⟨fun pos pins s σ H Q I ⟨Q', h', k⟩ => thn (h.run pos pins s σ H Q' I h') fun us s1 ⟨vs, H1, I1, r, q⟩ => ⟨vs, H1, I1, r, k _ _ q⟩⟩
theorem pmk_imp {t t' : L2.St → Hp → XK → Prop} (h : PMk X e t) (i : ∀ σ H Q, t' σ H Q → t σ H Q) : PMk X e t' := fun pins s σ H Q I q => h pins s σ H Q I (i _ _ _ q)
theorem pass0E {E : XK} : Passes CX0 X E := fun _ _ _ _ _ _ _ h => h.elim
theorem exoD_end {H : Hp} {a d : Addr} {l : List (Str × V)} (ha : H a = none) : upd (del (exoD (upd H a (exo a C none)) a C d l) a) d (.xd l) = upd H d (.xd l) := by
  funext b
  by_cases hb : b = d
  · rw [hb, upd_same, upd_same]
  · rw [upd_ne hb, upd_ne hb]
    by_cases h2 : b = a
    · rw [h2, del_same, ha]
    · unfold exoD
      rw [del_ne h2, upd_ne h2, upd_ne hb, upd_ne h2]
def tErr1 (C : Addr) (f : Str) (ta : TA) : L2.St → Hp → XK → Prop := fun σ H Q => ta σ H fun vs H1 => ∃ v, vs = [v] ∧ ∀ d, H1 d = none → Q (.ref C) (some d) (upd H1 d (.xd [(f, v)]))
def tErr2 (C : Addr) (f g : Str) (ta : TA) : L2.St → Hp → XK → Prop := fun σ H Q => ta σ H fun vs H1 => ∃ v w, vs = [v, w] ∧ ∀ d, H1 d = none → Q (.ref C) (some d) (upd H1 d (.xd [(g, w), (f, v)]))
def tErr0 (C : Addr) : L2.St → Hp → XK → Prop := fun _ H Q => Q (.ref C) none H
theorem xd_of {H : Hp} {a d : Addr} {l : List (Str × V)} : exoD H a C d l a = some (exo a C (some d)) := upd_same
/-- x(e) -/
theorem pmk_err1 (O : OwnX X.prog X.w X.K X.mg X.base x [f] (spI1 C f) C) (hr : Room 2 X.A) (ha : PA X [e] ta) (hg : Gl X x := by rfl) (hdb : (x == ("__debug__" : Str)) = false := by decide)
    (he : starEach [e] X.env = (false, eval e X.env) :: starEach [] X.env := by rfl) : PMk X (.Call (.Name x p) [e] [] pos) (tErr1 C f ta) := by
  obtain ⟨fI, fd, iC, tI, F1, hb⟩ := O.ini
  refine pmk_imp (pmk_oex O.ox iC tI F1 hr hb .nil pass0E hg O.gl (pa_up ha) hdb he rfl) fun σ H Q q => ?_
  refine ⟨_, q, fun vs H1 ⟨v, ev, k⟩ => ?_⟩
  subst ev
  refine ⟨Nat.le_of_ble_eq_true rfl, fun a ha => ⟨a, v, rfl, upd_same, fun d hd hda => ⟨rfl, d, [(f, v)], xd_of, ?_, ?_, ?_⟩⟩⟩
  · unfold exoD
    rw [upd_ne hda, upd_same]
  · rw [upd_ne hda] at hd
    exact hd
  · rw [exoD_end ha]
    rw [upd_ne hda] at hd
    exact k d hd
/-- x(e, e2) -/
theorem pmk_err2 {e2 : Expr} (O : OwnX X.prog X.w X.K X.mg X.base x [f, g] (spI2 C f g) C) (hr : Room 2 X.A) (ha : PA X [e, e2] ta) (hg : Gl X x := by rfl) (hdb : (x == ("__debug__" : Str)) = false := by decide)
    (he : starEach [e, e2] X.env = (false, eval e X.env) :: starEach [e2] X.env := by rfl) (hpl : (backTo pos (starEach [e2] X.env)).any (·.1) = false := by rfl) : PMk X (.Call (.Name x p) [e, e2] [] pos) (tErr2 C f g ta) := by
  obtain ⟨fI, fd, iC, tI, F1, hb⟩ := O.ini
  refine pmk_imp (pmk_oex O.ox iC tI F1 hr hb .nil pass0E hg O.gl (pa_up ha) hdb he hpl) fun σ H Q q => ?_
  refine ⟨_, q, fun vs H1 ⟨v, w, ev, k⟩ => ?_⟩
  subst ev
  refine ⟨Nat.le_of_ble_eq_true rfl, fun a ha => ⟨a, v, w, rfl, upd_same, fun d hd hda => ⟨rfl, d, [(g, w), (f, v)], xd_of, ?_, ?_, ?_⟩⟩⟩
  · unfold exoD
    rw [upd_ne hda, upd_same]
  · rw [upd_ne hda] at hd
    exact hd
  · rw [exoD_end ha]
    rw [upd_ne hda] at hd
    exact k d hd
/-- the end of x(): the exception, which has no dict, is let go -/
theorem mk_endN {pins : List (Addr × Obj)} {σ : L2.St} {H1 : Hp} {Q : XK} {hp hp2 h2 : Heap} {g1 g2 : Array GenState} {d1 d2 : Drawn} {t1 t2 : Nat} {os1 os2 : OsState} {a : Addr} (T : Raises X (.ref C)) (I1 : Inv X pins σ H1 ⟨hp, g1, d1, t1, os1⟩)
    (ha : hp.objs.size ≤ a) (k : ∀ b o, hp.get? b = some o → hp2.get? b = some o) (un : Un (frs X.stack) [] (upd H1 a (exo a C none)) (upd H1 a (exo a C none)) hp2 h2) (hok : HOk X.prog X.w (upd H1 a (exo a C none)) h2) (ho : os2 = os1) (hb : AllBare g2)
    (q : Q (.ref C) none H1) : MkP X pins σ Q (.ref a) ⟨h2, g2, d2, t2, os2⟩ := by
  obtain ⟨t0, hoe⟩ := exo_at (e := a) (C := C) (d := none) hok upd_same
  have hn : H1 a = none := I1.hok.fresh ha
  obtain ⟨G, g1', g2'⟩ := restrict h2 fun b => decide (b ≠ a)
  have gk : ∀ b, b ≠ a → G.get? b = h2.get? b := fun b hb => g1' b (decide_eq_true hb)
  have ge : G.get? a = none := g2' a (by simp)
  have nha : ∀ {b : Addr} {o : Obj}, hp.get? b = some o → b ≠ a := fun {b o} z => Nat.ne_of_lt (Nat.lt_of_lt_of_le (Heap.lt_size z) ha)
  have up : ∀ {b : Addr}, b ≠ a → H1 b = none → upd H1 a (exo a C none) b = none := fun {b} hb n => by rw [upd_ne hb]; exact n
  have U : Un (frs X.stack) [] H1 H1 hp G := {
    keep := fun b o z n hf hx => by
      rw [gk b (nha z)]
      exact un.keep b o (k b o z) (up (nha z) n) hf hx
    slot := fun b o z n hf hx => by
      rw [gk b (nha z)]
      exact un.slot b o (k b o z) (up (nha z) n) hf hx
    free := fun b o z n hx => n
    there := fun b o z hx => by
      rw [gk b (nha z)]
      exact un.there b o (k b o z) hx
    tups := fun b xs z => z
    frzs := fun b o v z => z
    tbls := fun b ps z => ⟨#[], by rw [z]; simp⟩ }
  have hok3 : HOk X.prog X.w H1 G := fun b o z => by
    have hba : b ≠ a := fun e => by
      rw [e, hn] at z
      cases z
    have z2 : upd H1 a (exo a C none) b = some o := (upd_ne hba).trans z
    have noa : ∀ {c : Addr}, upd H1 a (exo a C none) c = some (.own b) → c ≠ a := fun {c} hc e => by
      rw [e, upd_same] at hc
      exact exo_own (Option.some.inj hc)
    exact (hok b o z2).stay (fun c v hc y => by
        have hca : c ≠ a := by
          rcases hc with hc | hc
          · rw [hc]
            exact hba
          · exact noa hc
        rw [gk c hca]
        exact y)
      (fun c hc => by rw [upd_ne (noa hc)] at hc; exact hc) (fun c xs hc => by
        have hca : c ≠ a := fun e => by
          rw [e, upd_same] at hc
          exact exo_tup (Option.some.inj hc)
        rw [upd_ne hca] at hc
        exact hc)
  have J : Inv X pins σ H1 ⟨G, g2, d2, t2, os2⟩ := I1.call' (ch := []) ho U hok3 hb (fun b z => absurd z (by simp))
  refine ⟨a, _, _, ⟨G, g2, d2, t2, os2⟩, H1, .ref C, none, rfl, J, fun b o z => ?_, ge, hoe, ⟨rfl, rfl⟩, rfl, rfl, hn, rfl, hb, T, q⟩
  by_cases hba : b = a
  · rw [hba, ge] at z
    cases z
  · exact (gk b hba).symm.trans z
/-- x() -/
theorem pmk_err0 (O : OwnX X.prog X.w X.K X.mg X.base x [] (spI0 C) C) (hr : Room 2 X.A) (hg : Gl X x := by rfl) (hdb : (x == ("__debug__" : Str)) = false := by decide) : PMk X (.Call (.Name x p) [] [] pos) (tErr0 C) := by
  obtain ⟨fI, fd, iC, tI, F1, hb⟩ := O.ini
  intro pins s σ H Q I h
  obtain ⟨nm, q, N, bs, bm, sn, sub, ab, col, dd, k0, k1, k2, k3, k5, hC, hbm⟩ := O.ox.cls
  refine wpAny_Call_Name_kw (ld_glob I hg O.gl ?_ hdb)
  refine PySem.W.callWith_K0 I.kIn O.ox.kC ?_
  show wpAny _ _ (call (.ref C) []) _ _ _
  obtain ⟨hp, g, dr, tk, os⟩ := s
  have hsz : hp.objs.size ≤ hp.objs.size + 1 := Nat.le_succ _
  have hn : H (hp.objs.size + 1) = none := I.hok.fresh hsz
  have kk : ∀ b o, hp.get? b = some o → ((hp.push (PySem.W.kdv_tup [])).push (PySem.HandSPX.excO C hp.objs.size)).get? b = some o := fun b o e => Heap.get?_push_of_some _ (Heap.get?_push_of_some _ e)
  have hget : ((hp.push (PySem.W.kdv_tup [])).push (PySem.HandSPX.excO C hp.objs.size)).get? (hp.objs.size + 1) = some (PySem.HandSPX.excO C hp.objs.size) := by heap_get
  have I2 : Inv X pins σ (upd H (hp.objs.size + 1) (exo (hp.objs.size + 1) C none)) ⟨(hp.push (PySem.W.kdv_tup [])).push (PySem.HandSPX.excO C hp.objs.size), g, dr, tk, os⟩ :=
    I.laid (t' := tk) (a := hp.objs.size + 1) (o := exo (hp.objs.size + 1) C none) (h' := (hp.push (PySem.W.kdv_tup [])).push (PySem.HandSPX.excO C hp.objs.size)) kk hsz (exo_ok hget)
  have r2 : Vals [V.ref (hp.objs.size + 1)] [Value.ref (hp.objs.size + 1)] := .cons rfl .nil
  have hq : spI0 C [V.ref (hp.objs.size + 1)] (upd H (hp.objs.size + 1) (exo (hp.objs.size + 1) C none)) (fun v H2 => v = .non ∧ H2 = upd H (hp.objs.size + 1) (exo (hp.objs.size + 1) C none)) (fun _ _ _ => False) := ⟨_, rfl, upd_same, rfl, rfl⟩
  refine wpAny_call (PySem.HandSPX.call_own F.excBase_ValueError (fun Y => PySem.HandSPX.refsVE_contains Y bm hbm) (I.kIn _ _ hC) (PySem.W.looks_findIn I.kIn iC) (fun self => PySem.W.bind_fn I.kIn self tI) (Nat.zero_le _)
    (codeAny_mono (F1.run _ X.stack _ _ ⟨[Value.ref (hp.objs.size + 1)], []⟩ [Value.ref (hp.objs.size + 1)] _ _ (fun _ _ _ => False) ((hr.mono (by omega : 2 ≤ 2)).make C [] [] |>.mono (Nat.le_refl _)) (I2.env0.make C [] []) (hb _ [Value.ref (hp.objs.size + 1)] I2.kIn rfl) r2 hq) fun r s' hq' => ?_))
  cases r with
  | error er => exact hq'.elim
  | ok fl =>
    cases fl with
    | ret u =>
      obtain ⟨v, H2, os2, bare2, un2, hok2, rv, ev, eH⟩ := hq'
      subst ev
      subst eH
      obtain ⟨h2, g2, d2, t2, os'⟩ := s'
      exact ⟨rv, mk_endN (raises_own O.ox.exC O.ox.tyC) I hsz kk un2 hok2 os2 bare2 h⟩
    | next => exact False.elim hq'
    | brk => exact False.elim hq'
    | cont => exact False.elim hq'
end
end Ls
namespace Ls
open PySem PySem.Spec PyProof.Rows L2

/-! ### several clauses «except X as e» -/
/-- the ends of a suite behind which the name at slot i goes -/
def asEnds (D : Ends) (i : Nat) : Ends := { nx := fun σ' H' => D.nx (σ'.set i none) H', rt := D.rt, bk := fun σ' H' => D.bk (σ'.set i none) H', ct := fun σ' H' => D.ct (σ'.set i none) H' }
/-- a clause: its class, its name's slot, its suite -/
structure AsCl where
  c : Value
  i : Nat
  ts : Addr → Value → Option Addr → TS
/-- what the clauses wish of an exception of the body -/
def wAsM (K : PySem.W.Frag) (Wout : WX) (D : Ends) : List AsCl → WX
  | [] => Wout
  | q :: r => fun cls d σ H => ∃ b, PySem.W.exmOne K cls q.c = some b ∧ (b = true → ∀ a, H a = none → q.ts a cls d (asEnds D q.i) (σ.set q.i (some (.ref a))) H) ∧ (b = false → wAsM K Wout D r cls d σ H)
inductive AsOk (X : Cx) : List ExceptHandler → List AsCl → Prop
  | nil : AsOk X [] []
  | cons {x n : Str} {q : AsCl} {st : Stmt} {sts : List Stmt} {p1 p2 : Pos} {hds : List ExceptHandler} {l : List AsCl} (hi : X.N[q.i]? = some n) (hl : X.env.kindOf n = some .local) (hc : Names X x q.c)
      (hsu : ∀ (a : Addr) (oe : Obj) (cls : Value) (d : Option Addr) (pn : List (Addr × Obj)), Zc cls d oe → (∃ vs, oe.data = .fields vs) → PSs (X.suite a ((a, oe) :: pn)) (st :: sts) (q.ts a cls d)) (r : AsOk X hds l) :
      AsOk X (.ExceptHandler (some (.Name x p1)) (some n) (st :: sts) p2 :: hds) (q :: l)
/-- where an exception of the body arrives -/
abbrev xeAs (X : Cx) (pins : List (Addr × Obj)) (hds : List ExceptHandler) (D : Ends) : Value → Shared → Prop := fun e s₁ =>
  wpAny (model X.prog X.w) X.A (noteFrame e X.env) (fun _ s₂ => wpAny (model X.prog X.w) X.A (setFlight e none) (fun _ s₃ => wpAny (model X.prog X.w) X.A (handleBy e X.env hds) (SP X pins D) X.xe s₃) X.xe s₂) X.xe s₁
section
variable {X : Cx} {body : List Stmt} {h₀ : ExceptHandler} {hds : List ExceptHandler} {l : List AsCl} {pos : Pos} {tb : WX → TS} {Wout : WX} {pins : List (Addr × Obj)} {D : Ends}
theorem as_takes (ok : X.Ok) (hs : X.stack = X.env :: X.outer) (hf : X.env.frame = some X.env.locals) (hN : X.N.Nodup) (tk : Takes X Wout) (hh : AsOk X hds l) : Takes (X.tr (X.pn ++ pins) (xeAs X pins hds D)) (wAsM X.K Wout D l) := by
  intro u s' xx
  have hfr : X.A.frames = some (X.env :: X.outer) := by rw [ok.frames, hs]
  obtain ⟨a, B, sI, pins', σ', H', cls, d, rfl, JT, nb, up, sky, na, os, ag, w0⟩ := xx
  have J : Inv X pins σ' H' sI := JT.ofTry ok
  have sky2 : Sky B (X.env :: X.outer) a (Zc cls d) X.env.locals s'.heap := by
    rw [← hs]
    exact sky
  show wpAny _ _ (noteFrame (.ref a) X.env) _ _ _
  refine Sky.land Zc.steady hfr hf sky2 fun hA flA upA => ?_
  have JA : Inv X pins σ' H' { s' with heap := hA } := J.landed nb flA.1 (up.trans upA) os ag
  obtain ⟨oA, vA, eA, zA, dA⟩ := flA.there
  have nfr : a ∉ frs (X.env :: X.outer) := fun hm => by
    obtain ⟨_, o', e', hnf⟩ := (flA.2.2.1).mem hm
    have e2 := eA.symm.trans e'
    cases e2
    exact hnf _ dA
  have nL : a ≠ X.env.locals := fun z => nfr (List.mem_filterMap.mpr ⟨X.env, List.mem_cons_self, by rw [hf, z]⟩)
  have nF : a ∉ X.fs := fun hm => by
    obtain ⟨y, hy, q⟩ := List.mem_filterMap.mp hm
    exact nfr (List.mem_filterMap.mpr ⟨y, .tail _ hy, q⟩)
  have SA := JA.suite eA dA na nL nF
  have LT : PySem.W.Looks (model X.prog X.w) hA (typeOf (.ref a)) cls := fun A Q E s k q => wpAny_typeOf_ref (k _ _ eA) (by rw [zA.1]; exact q)
  have go : ∀ {hds' : List ExceptHandler} {l' : List AsCl}, AsOk X hds' l' → wAsM X.K Wout D l' cls d σ' H' → wpAny (model X.prog X.w) X.A (handleBy (.ref a) X.env hds') (SP X pins D) X.xe { s' with heap := hA } := by
    intro hds' l' hk
    induction hk with
    | nil =>
      intro w
      refine wpAny_handleBy_nil ?_
      obtain ⟨_, _, _, oe, vs, T, _, _, he, _, hd, h1, _⟩ := id flA
      unfold PySem.passOn
      refine wpAny_bind (wpAny_field he hd h1 ?_)
      have nt : ¬ ((Value.ref T == Value.none) = true) := by simp
      rw [if_neg nt]
      have fin : wpAny (model X.prog X.w) X.A (setFlight (.ref a) X.env.frame) (fun _ s4 => wpAny (model X.prog X.w) X.A (throw (.ref a) : Sem Flow) (SP X pins D) X.xe s4) X.xe { s' with heap := hA } := by
        rw [hf]
        refine HandSPX.setFlight_upZ flA fun hB skyB upB => wpAny_throw (tk _ _ ?_)
        refine ⟨a, B, sI, pins, σ', H', cls, d, rfl, J, nb, (up.trans upA).trans upB, .inr (.inr ?_), na, os, ag, w⟩
        rw [hs]
        exact skyB
      first
        | exact wpAny_bind (wpAny_pure (wpAny_bind fin))
        | exact wpAny_bind fin
    | @cons x n q st sts p1 p2 hds2 l2 hi hl hc hsu r ih =>
      intro w
      obtain ⟨b, hb, hyes, hno⟩ := w
      refine wpAny_handleBy_cons (codeAny_handlers_test ?_) (by intro z; cases z)
      have LM := PySem.W.exm_one (M := model X.prog X.w) JA.kIn LT hb
      have test : ∀ {Q : Value → Shared → Prop} {E : Value → Shared → Prop}, Q q.c { s' with heap := hA } → wpAny (model X.prog X.w) (X.A.mark (some (.ref a))) (eval (.Name x p1) X.env) Q E { s' with heap := hA } := fun {Q E} z => by
        obtain ⟨hg, hdb, hm | ⟨hm, hv, hnn⟩⟩ := hc
        · exact ld_glob (X := X.suite a ((a, oA) :: (X.pn ++ pins))) SA hg hm z hdb
        · exact ld_blt (X := X.suite a ((a, oA) :: (X.pn ++ pins))) SA hg hm hv z hnn hdb
      refine test (LM.here ?_)
      cases b with
      | false =>
        show wpAny _ X.A (handleBy (.ref a) X.env hds2) _ _ _
        exact ih (hno rfl)
      | true =>
        refine codeAny_handlers_suite_as ?_
        refine HandSPX.lands_againZ flA fun hB flB upB => ?_
        have JB : Inv X pins σ' H' { s' with heap := hB } := J.landed nb flB.1 ((up.trans upA).trans upB) os ag
        obtain ⟨oB, vB, eB, zB, dB⟩ := flB.there
        have SB := JB.suite eB dB na nL nF
        refine store_ok (X := X.suite a ((a, oB) :: (X.pn ++ pins))) (v := .ref a) SB hN hi (.inl hl) rfl (fun s5 S5 => ?_) (.inr hl)
        refine wpAny_mono ((hsu a oB cls d (X.pn ++ pins) zB ⟨_, dB⟩).run [] s5 _ H' _ S5 (hyes rfl a na)) (fun f s6 hsp => ?_) (fun _ _ z => z.elim)
        have gone : ∀ {σ6 : L2.St} {H6 : Hp} {Q : Shared → Prop}, Inv (X.suite a ((a, oB) :: (X.pn ++ pins))) [] σ6 H6 s6 → (∀ s7, Inv X pins (σ6.set q.i none) H6 s7 → Q s7) →
            wpAny (model X.prog X.w) X.A (do bindName X.env n .none; unbindBehindTheSuite X.env n p2) (fun _ s7 => Q s7) X.xe s6 := fun {σ6 H6 Q} S6 hq => gone_ok (S6.unsuite ok) hN hi hl hq
        cases f with
        | ret u =>
          obtain ⟨v6, σ6, H6, S6, r6, q6⟩ := hsp
          exact gone S6 fun s7 J7 => ⟨v6, _, _, J7, r6, q6⟩
        | next =>
          obtain ⟨σ6, H6, S6, q6⟩ := hsp
          exact gone S6 fun s7 J7 => ⟨_, _, J7, q6⟩
        | brk =>
          obtain ⟨σ6, H6, S6, q6⟩ := hsp
          exact gone S6 fun s7 J7 => ⟨_, _, J7, q6⟩
        | cont =>
          obtain ⟨σ6, H6, S6, q6⟩ := hsp
          exact gone S6 fun s7 J7 => ⟨_, _, J7, q6⟩
  exact go hh w0
/-- THE RULE: try: body / except X as e: .. / except Y as f: .. -/
theorem ps_try_asM (hs : X.stack = X.env :: X.outer) (hf : X.env.frame = some X.env.locals) (hN : X.N.Nodup) (tk : Takes X Wout)
    (hb : ∀ (W : WX) (pn : List (Addr × Obj)) (xe : Value → Shared → Prop), Takes (X.tr pn xe) W → PassesOwn (model X.prog X.w) X.A X.env xe → PSs (X.tr pn xe) body (tb W))
    (hh : AsOk X (h₀ :: hds) l) : PS X (.Try body (h₀ :: hds) [] [] pos) (fun D σ H => tb (wAsM X.K Wout D l) D σ H) := by
  refine ⟨fun pins s σ H D I h => ?_⟩
  have ok := I.ok
  refine wpAny_Try_except ?_
  have PB := hb (wAsM X.K Wout D l) (X.pn ++ pins) (xeAs X pins (h₀ :: hds) D) (as_takes ok hs hf hN tk hh) PassesOwn.looking
  refine wpAny_mono (PB.run [] s σ H D (I.toTry _) h) (fun f s1 hsp => ?_) (fun e s1 he => he)
  cases f with
  | next =>
    obtain ⟨σ', H', J', q⟩ := hsp
    exact wpAny_execs_nil ⟨σ', H', J'.ofTry ok, q⟩
  | ret u =>
    obtain ⟨v, σ', H', J', r, q⟩ := hsp
    exact ⟨v, σ', H', J'.ofTry ok, r, q⟩
  | brk =>
    obtain ⟨σ', H', J', q⟩ := hsp
    exact ⟨σ', H', J'.ofTry ok, q⟩
  | cont =>
    obtain ⟨σ', H', J', q⟩ := hsp
    exact ⟨σ', H', J'.ofTry ok, q⟩
end
end Ls
namespace Ls
open PySem PySem.Spec PyProof.Rows L2 NdefX

/-! ### what the written part must say of an own error, as one test -/
/-- C is an own exception class over ValueError -/
def clsB (K : PySem.W.Frag) (C : Addr) : Bool := match K.lookup C with
  | some ⟨.type "type", _, .cls cd, sl⟩ => (match cd.mro, sl.toList with
    | .ref D :: bm, [_, _, _, _, some (.builtin n), _] => D == C && n == "ValueError.__new__" && cd.hasDict && !cd.hasDel && PySem.HandSPX.refsVE bm
    | _, _ => false)
  | _ => false
def findB (K : PySem.W.Frag) (C : Addr) (x : Str) (v : Option Value) : Bool := decide (PySem.W.findIn K (.ref C) x = some v)
def cellB (K : PySem.W.Frag) (C cc : Addr) : Bool := match K.lookup cc with
  | some ⟨_, _, .cell (some v), _⟩ => v == .ref C
  | _ => false
def codeB (P : Program) (K : PySem.W.Frag) (cda : Addr) : Bool := match K.lookup cda with
  | some ⟨_, _, .fields vs, _⟩ => (match (vs : Array Value)[2]? with
    | some (Value.str file _) => (P.main.file : Str) == file
    | _ => false)
  | _ => false
def errB (P : Program) (K : PySem.W.Frag) (C fI cc cda : Addr) (fs : List Str) : Bool :=
  clsB K C && (findB K C "__setattr__" (some (.builtin "object.__setattr__")) && (decide (PySem.W.subIn K (.ref C) (.type "BaseException") = some true) && (decide (PySem.W.typeIn K (.ref C) = some (.type "type")) &&
  (PySem.W.keepIn K (.ref C) && (xfB K C && (codeB P K cda && (cellB K C cc && (decide (PySem.W.mroIn K C (.ref C) = some true) && (decide (PySem.W.nsIn K mainGlobals "super" = some none) &&
  (decide (PySem.W.nsIn K cStatics "thirdparty.any" = some none) && (decide (PySem.W.ks_superIn K C C "__init__" = some (some (.builtin "ValueError.__init__"))) && (decide (PySem.W.subIn K (.ref C) (.type "ValueError") = some true) &&
  (PySem.W.excInitIn K C bmVE "ValueError.__new__" && (!(P.main.scope.names.lookup ("super" : Str)).isSome && (findB K C "__init__" (some (.ref fI)) && (decide (PySem.W.typeIn K (.ref fI) = some (.type "function")) &&
  fs.all fun f => findB K C f none))))))))))))))))

section
variable {P : Program} {w : World} {K : PySem.W.Frag} {mg : Str → Option Value} {base h : Heap} {C fI cc cda : Addr} {fs : List Str}
theorem clsB_ok (q : clsB K C = true) : ∃ nm qn N bs bm sn sub ab col dd k0 k1 k2 k3 k5, K.lookup C = some (excClassObj nm qn C N bs bm true sn sub ab col dd k0 k1 k2 k3 k5 "ValueError.__new__") ∧ PySem.HandSPX.refsVE bm = true := by
  unfold clsB at q
  split at q
  · rename_i dd cd sl ho
    split at q
    · rename_i D bm k0 k1 k2 k3 n k5 hm hs
      simp only [Bool.and_eq_true, beq_iff_eq, Bool.not_eq_true'] at q
      obtain ⟨⟨⟨⟨rfl, rfl⟩, hd⟩, hdel⟩, hr⟩ := q
      obtain ⟨nm, bs, mro, ns, qn, hd', sn, sub, ab, col, del⟩ := cd
      dsimp only at hm hdel hd
      subst hm hdel hd
      obtain ⟨l⟩ := sl
      simp only at hs
      subst hs
      exact ⟨nm, qn, ns, bs, bm, sn, sub, ab, col, dd, k0, k1, k2, k3, k5, ho, hr⟩
    · cases q
  · cases q
/-- what the test tells -/
structure ErrK (P : Program) (K : PySem.W.Frag) (C fI cc cda : Addr) (fs : List Str) : Prop where
  sup : SupC P K C cc cda
  xf : XfC K C
  ini : PySem.W.findIn K (.ref C) "__init__" = some (some (.ref fI))
  tI : PySem.W.typeIn K (.ref fI) = some (.type "function")
  nof : ∀ f ∈ fs, PySem.W.findIn K (.ref C) f = some none
theorem errB_ok (q : errB P K C fI cc cda fs = true) : ErrK P K C fI cc cda fs := by
  unfold errB at q
  obtain ⟨q1, q⟩ := Bool.and_eq_true_iff.mp q
  obtain ⟨q2, q⟩ := Bool.and_eq_true_iff.mp q
  obtain ⟨q3, q⟩ := Bool.and_eq_true_iff.mp q
  obtain ⟨q4, q⟩ := Bool.and_eq_true_iff.mp q
  obtain ⟨q5, q⟩ := Bool.and_eq_true_iff.mp q
  obtain ⟨q6, q⟩ := Bool.and_eq_true_iff.mp q
  obtain ⟨q7, q⟩ := Bool.and_eq_true_iff.mp q
  obtain ⟨q8, q⟩ := Bool.and_eq_true_iff.mp q
  obtain ⟨q9, q⟩ := Bool.and_eq_true_iff.mp q
  obtain ⟨q10, q⟩ := Bool.and_eq_true_iff.mp q
  obtain ⟨q11, q⟩ := Bool.and_eq_true_iff.mp q
  obtain ⟨q12, q⟩ := Bool.and_eq_true_iff.mp q
  obtain ⟨q13, q⟩ := Bool.and_eq_true_iff.mp q
  obtain ⟨q14, q⟩ := Bool.and_eq_true_iff.mp q
  obtain ⟨q15, q⟩ := Bool.and_eq_true_iff.mp q
  obtain ⟨q16, q⟩ := Bool.and_eq_true_iff.mp q
  obtain ⟨q17, q18⟩ := Bool.and_eq_true_iff.mp q
  have O : OexC K C := ⟨clsB_ok q1, of_decide_eq_true q2, of_decide_eq_true q3, of_decide_eq_true q4, q5⟩
  refine ⟨⟨O, ?_, ?_, of_decide_eq_true q9, of_decide_eq_true q10, of_decide_eq_true q11, of_decide_eq_true q12, of_decide_eq_true q13, q14, by simpa using q15⟩, xfB_ok q6, of_decide_eq_true q16, of_decide_eq_true q17, fun f hf => ?_⟩
  · unfold codeB at q7
    split at q7
    · rename_i c d vs sl ho
      split at q7
      · rename_i file tk hv
        exact ⟨c, d, vs, sl, file, tk, ho, hv, q7⟩
      · cases q7
    · cases q7
  · unfold cellB at q8
    split at q8
    · rename_i c d v sl ho
      have e := beq_iff_eq.mp q8
      subst e
      exact ⟨c, d, sl, ho⟩
    · cases q8
  · exact of_decide_eq_true (List.all_eq_true.mp q18 f hf)

variable {x qual f g : Str} {st : Stmt} {oc doc pm ct : Value} {od : Option Addr} {osl : Array (Option Value)}
theorem own_x0 (X : K.In h) (G : h.Ns mainGlobals mg) (Tx : ErrTx st qual []) (a : PySem.W.nsIn K mainGlobals x = some (some (.ref C)))
    (l : K.lookup fI = some ⟨oc, od, .func (PySem.W.fnX "__init__" qual (defArgs st) (defBody st) (defScope st) [("__class__", cc)] .none .none doc pm none (.ref cda) ct), osl⟩) (c : PySem.W.codeIn K (.ref cda) qual = true)
    (b : errB P K C fI cc cda [] = true) : OwnX P w K mg base x [] (spI0 C) C :=
  have E := errB_ok b
  ⟨E.sup.ox, E.xf, PySem.W.mg_of X G a, E.nof, _, _, E.ini, E.tI, err_fn0 E.sup Tx l c, .all fun us hl => Tx.bind _ _ _ _ _ us hl⟩
theorem own_x1 (X : K.In h) (G : h.Ns mainGlobals mg) (Tx : ErrTx st qual [f]) (a : PySem.W.nsIn K mainGlobals x = some (some (.ref C)))
    (l : K.lookup fI = some ⟨oc, od, .func (PySem.W.fnX "__init__" qual (defArgs st) (defBody st) (defScope st) [("__class__", cc)] .none .none doc pm none (.ref cda) ct), osl⟩) (c : PySem.W.codeIn K (.ref cda) qual = true)
    (b : errB P K C fI cc cda [f] = true) : OwnX P w K mg base x [f] (spI1 C f) C :=
  have E := errB_ok b
  ⟨E.sup.ox, E.xf, PySem.W.mg_of X G a, E.nof, _, _, E.ini, E.tI, err_fn1 E.sup Tx (E.nof _ (.head _)) l c, .all fun us hl => Tx.bind _ _ _ _ _ us hl⟩
theorem own_x2 (X : K.In h) (G : h.Ns mainGlobals mg) (Tx : ErrTx st qual [f, g]) (a : PySem.W.nsIn K mainGlobals x = some (some (.ref C)))
    (l : K.lookup fI = some ⟨oc, od, .func (PySem.W.fnX "__init__" qual (defArgs st) (defBody st) (defScope st) [("__class__", cc)] .none .none doc pm none (.ref cda) ct), osl⟩) (c : PySem.W.codeIn K (.ref cda) qual = true)
    (b : errB P K C fI cc cda [f, g] = true) : OwnX P w K mg base x [f, g] (spI2 C f g) C :=
  have E := errB_ok b
  ⟨E.sup.ox, E.xf, PySem.W.mg_of X G a, E.nof, _, _, E.ini, E.tI, err_fn2 E.sup Tx (E.nof _ (.head _)) (E.nof _ (.tail _ (.head _))) l c, .all fun us hl => Tx.bind _ _ _ _ _ us hl⟩
end
end Ls
namespace Ls
open PySem PySem.Spec PyProof.Rows L2

/-! ### defs that may raise -/
/-- a def of the module that keeps a promise, errors and all -/
structure OwnR (P : Program) (w : World) (K : PySem.W.Frag) (mg : Str → Option Value) (base : Heap) (k : Nat) (x : Str) (ps : List Str) (sp : Sp) : Prop where
  ex : ∃ (f : Addr) (fd : FuncData), FnOk P w K mg base (L2.CX P w) k f fd ps sp ∧ mg x = some (.ref f) ∧ PySem.W.keepIn K (.ref f) = true ∧ Binds K fd ps []
/-- a method -/
structure OwnMR (P : Program) (w : World) (K : PySem.W.Frag) (mg : Str → Option Value) (base : Heap) (k : Nat) (C : Addr) (m : Str) (ps : List Str) (sp : Sp) : Prop where
  cl : Cls K C
  ex : ∃ (f : Addr) (fd : FuncData), FnOk P w K mg base (L2.CX P w) k f fd ps sp ∧ Meth K C m f ∧ Binds K fd ps []
/-- a class that is called -/
structure OwnCR (P : Program) (w : World) (K : PySem.W.Frag) (mg : Str → Option Value) (base : Heap) (k : Nat) (C : Addr) (x : Str) (ps : List Str) (sp : Sp) : Prop where
  ex : ∃ (f : Addr) (fd : FuncData), FnOk P w K mg base (L2.CX P w) k f fd ps sp ∧ mg x = some (.ref C) ∧ Mk K C f ∧ Binds K fd ps []
def tMakeS (C : Addr) (sp : Sp) (W : WX) (t : TA) : TE := fun σ H Q => t σ H fun vs H1 => ∀ x dx, H1 x = none → H1 dx = none → dx ≠ x → sp (.ref x :: vs) (upd (upd H1 dx (.own x)) x (.ins C dx [])) (fun v H2 => v = .non ∧ Q (.ref x) H2) (WE W σ)
def tMethR (C : Addr) (m : Str) (sp : Sp) (W : WX) (ta : TE) (t : TA) : TE := fun σ H Q => ta σ H fun x H1 => ∃ a dx fs, x = .ref a ∧ H1 a = some (.ins C dx fs) ∧ fs.lookup m = none ∧ t σ H1 fun vs H2 => sp (x :: vs) H2 Q (WE W σ)
section
variable {X : Cx} {W : WX} {k j : Nat} {x m : Str} {ps : List Str} {sp : Sp} {p pos apos : Pos} {e o : Expr} {es : List Expr} {t : TA} {ta : TE} {C : Addr} {pl : Sem Bool}
theorem own_callR (O : OwnR X.prog X.w X.K X.mg X.base k x ps sp) (hr : Room j X.A) (hkj : k ≤ j) (tk : Takes X W) (ha : PA X (e :: es) t)
    (hg : Gl X x := by rfl) (hdb : (x == ("__debug__" : Str)) = false := by decide) (he : starEach (e :: es) X.env = (false, eval e X.env) :: starEach es X.env := by rfl) (hpl : (backTo pos (starEach es X.env)).any (·.1) = false := by rfl) :
    PE X (.Call (.Name x p) (e :: es) [] pos) (tCallS sp (WE W) t) := by
  obtain ⟨f, fd, F, g, kp, b⟩ := O.ex
  exact pe_callS F (hr.mono hkj) hg g kp b (fun σ => passAt tk σ) ha hdb he hpl
theorem own_callR0 (O : OwnR X.prog X.w X.K X.mg X.base k x ps sp) (hr : Room j X.A) (hkj : k ≤ j) (tk : Takes X W) (hg : Gl X x := by rfl) (hdb : (x == ("__debug__" : Str)) = false := by decide) :
    PE X (.Call (.Name x p) [] [] pos) (tCallS sp (WE W) tNil) := by
  obtain ⟨f, fd, F, g, kp, b⟩ := O.ex
  refine ⟨fun pins s σ H Q I h => ?_⟩
  refine wpAny_Call_Name_kw (ld_glob I hg g ?_ hdb)
  exact PySem.W.callWith_K0 I.kIn kp (run_fnS (us := []) F (hr.mono hkj) b (passAt tk σ) I .nil h)
theorem own_methR (O : OwnMR X.prog X.w X.K X.mg X.base k C m ps sp) (hr : Room j X.A) (hkj : k ≤ j) (tk : Takes X W) (ho : PE X o ta) (ha : PA X (e :: es) t)
    (hst : starEach (e :: es) X.env = (false, eval e X.env) :: starEach es X.env := by rfl) (hpl : (backTo pos (starEach es X.env)).any (·.1) = false := by rfl)
    (ht : eval (.Call (.Attribute o m apos) (e :: es) [] pos) X.env = (do
      let ov ← eval o X.env
      standAt apos.atName
      let (f, first) ← holding [ov] (getMethod ov m pl)
      callWith pos f first (backTo pos (starEach (e :: es) X.env)) (backToKw pos (keywordEach [] X.env))) := by rfl) :
    PE X (.Call (.Attribute o m apos) (e :: es) [] pos) (tMethR C m sp W ta t) := by
  obtain ⟨f, fd, F, me, b⟩ := O.ex
  refine ⟨fun pins s σ H Q I h => ?_⟩
  refine PySem.W.methodCall_KW (pl := pl) (thn (ho.run pins s σ H _ I h) fun u s1 hh => ?_) ht
  obtain ⟨y, H1, I1, ry, a, dx, fs, ey, ea, l, q⟩ := hh
  subst ey
  obtain rfl : u = Value.ref a := ry
  refine getmeth_ok I1 ea O.cl me l ?_
  refine PySem.W.callWith_K (first := [.ref a]) (h₀ := X.base) I.ok.mod.kin me.kp (thn (ha.run pos pins s1 σ H1 _ I1 q) fun us s2 hv => ?_) hst hpl
  obtain ⟨vs, H2, I2, r, q2⟩ := hv
  exact ⟨I2.kIn, run_fnS (us := .ref a :: us) (vs := .ref a :: vs) F (hr.mono hkj) b (passAt tk σ) I2 (.cons rfl r) q2⟩
theorem own_methR0 (O : OwnMR X.prog X.w X.K X.mg X.base k C m ps sp) (hr : Room j X.A) (hkj : k ≤ j) (tk : Takes X W) (ho : PE X o ta)
    (ht : eval (.Call (.Attribute o m apos) [] [] pos) X.env = (do
      let ov ← eval o X.env
      standAt apos.atName
      let (f, first) ← holding [ov] (getMethod ov m pl)
      callWith pos f first (backTo pos (starEach [] X.env)) (backToKw pos (keywordEach [] X.env))) := by rfl) :
    PE X (.Call (.Attribute o m apos) [] [] pos) (tMethR C m sp W ta tNil) := by
  obtain ⟨f, fd, F, me, b⟩ := O.ex
  refine ⟨fun pins s σ H Q I h => ?_⟩
  refine PySem.W.methodCall_KW (pl := pl) (thn (ho.run pins s σ H _ I h) fun u s1 hh => ?_) ht
  obtain ⟨y, H1, I1, ry, a, dx, fs, ey, ea, l, q⟩ := hh
  subst ey
  obtain rfl : u = Value.ref a := ry
  refine getmeth_ok I1 ea O.cl me l ?_
  exact PySem.W.callWith_K0 (first := [.ref a]) I1.kIn me.kp (run_fnS (us := [.ref a]) (vs := [.ref a]) F (hr.mono hkj) b (passAt tk σ) I1 (.cons rfl .nil) q)
theorem own_makeR (O : OwnCR X.prog X.w X.K X.mg X.base k C x ps sp) (hr : Room j X.A) (hkj : k + 1 ≤ j) (tk : Takes X W) (ha : PA X (e :: es) t)
    (hg : Gl X x := by rfl) (hdb : (x == ("__debug__" : Str)) = false := by decide) (he : starEach (e :: es) X.env = (false, eval e X.env) :: starEach es X.env := by rfl) (hpl : (backTo pos (starEach es X.env)).any (·.1) = false := by rfl) :
    PE X (.Call (.Name x p) (e :: es) [] pos) (tMakeS C sp W t) := by
  obtain ⟨f, fd, F, g, M, b⟩ := O.ex
  have hr2 : Room (k + 1) X.A := hr.mono hkj
  refine ⟨fun pins s σ H Q I h => ?_⟩
  refine wpAny_Call_Name_kw (ld_glob I hg g ?_ hdb)
  refine PySem.W.callWith_K (h₀ := X.base) I.ok.mod.kin M.kp (thn (ha.run pos pins s σ H _ I h) fun us s1 hh => ?_) he hpl
  obtain ⟨vs, H1, I1, r, q⟩ := hh
  refine ⟨I1.kIn, ?_⟩
  show wpAny _ _ (call (.ref C) us) _ _ _
  have hq := q (s1.heap.objs.size + 1) s1.heap.objs.size (I1.hok.fresh (Nat.le_succ _)) (I1.hok.fresh (Nat.le_refl _)) (Nat.ne_of_lt (Nat.lt_succ_self _))
  have I2 := Inv.made (C := C) I1
  have r2 : Vals (V.ref (s1.heap.objs.size + 1) :: vs) (Value.ref (s1.heap.objs.size + 1) :: us) := .cons rfl r
  have hl : (Value.ref (s1.heap.objs.size + 1) :: us ++ []).length = ps.length := by
    rw [List.append_nil, ← r2.length]
    exact F.len _ _ _ _ hq
  have hb := b _ (Value.ref (s1.heap.objs.size + 1) :: us) I2.kIn hl
  rw [List.append_nil] at hb
  refine wpAny_call (make_map (f := f) I1.kIn M.makes M.init (beq_iff_eq.mp M.fn) (codeAny_mono (F.run _ X.stack _ _ ⟨Value.ref (s1.heap.objs.size + 1) :: us, []⟩ (Value.ref (s1.heap.objs.size + 1) :: us) _ _ (WE W σ) (hr2.make C us [])
    (I2.env0.make C us []) hb r2 hq) fun r s' hq' => ?_))
  cases r with
  | error er => exact passAt tk σ pins _ _ er s' I2 hq'
  | ok fl =>
    cases fl with
    | ret u =>
      obtain ⟨v, H', I3, rv, ev, q3⟩ := I2.after hq'
      subst ev
      exact ⟨rv, ⟨V.ref (s1.heap.objs.size + 1), H', I3, rfl, q3⟩⟩
    | next => exact False.elim hq'
    | brk => exact False.elim hq'
    | cont => exact False.elim hq'
/-- raise x(..) -/
def tRaise (W : WX) (t : L2.St → Hp → XK → Prop) : TS := fun _ σ H => t σ H fun cls d H' => W cls d σ H'
theorem ps_err {t : L2.St → Hp → XK → Prop} (hc : X.calm = true) (tk : Takes X W) (he : PMk X e t) : PS X (.Raise (some e) none pos) (tRaise W t) := ps_raise hc tk he
end
/-- what a def's body takes -/
theorem takes_def {P : Program} {w : World} {K : PySem.W.Frag} {mg : Str → Option Value} {base : Heap} {N : List Str} {qual : Str} {scope : Scope} {f : Addr} {cd : Value} {A : Around} {outer : List Env} {s : Shared} {H : Hp} {E : XK} :
    Takes (cxOf (L2.CX P w) P w K mg base N qual scope f cd A outer s H E) (fun cls d _ H => E cls d H) := takes_of rfl rfl rfl rfl
theorem own_def {P : Program} {w : World} {K : PySem.W.Frag} {mg : Str → Option Value} {base : Heap} {N : List Str} {qual : Str} {scope : Scope} {f : Addr} {cd : Value} {A : Around} {outer : List Env} {s : Shared} {H : Hp} {E : XK} :
    PassesOwn (model P w) (A.deeper (envOfC qual scope s.heap.objs.size f cd)) (envOfC qual scope s.heap.objs.size f cd) (cxOf (L2.CX P w) P w K mg base N qual scope f cd A outer s H E).xe := passes_of (X := cxOf (L2.CX P w) P w K mg base N qual scope f cd A outer s H E) rfl
end Ls
namespace Ls
open PySem PySem.Spec PyProof.Rows L2

/-! ### a list or a tuple: iterated over, unpacked -/
/-- the items of a list or of a tuple -/
def SqU (K : PySem.W.Frag) (H : Hp) (a : Addr) (xs : List V) : Prop := SqL K H a xs ∨ SqT K H a xs
/-- what is known of H1 is known of H2 -/
def Stays (H1 H2 : Hp) : Prop := ∀ b u, H1 b = some u → H2 b = some u
section
variable {K : PySem.W.Frag} {H1 H2 : Hp} {a : Addr} {xs : List V} {o : HO}
theorem Stays.rd (s : Stays H1 H2) (h : Rd H1 a o) : Rd H2 a o := by
  rcases h with h | ⟨ob, h⟩
  · exact .inl (s _ _ h)
  · exact .inr ⟨ob, s _ _ h⟩
theorem Stays.sqL (s : Stays H1 H2) (h : SqL K H1 a xs) : SqL K H2 a xs := h.elim (fun z => .inl (s.rd z)) .inr
theorem Stays.sqT (s : Stays H1 H2) (h : SqT K H1 a xs) : SqT K H2 a xs := h.elim (fun z => .inl (s.rd z)) .inr
theorem Stays.sqU (s : Stays H1 H2) (h : SqU K H1 a xs) : SqU K H2 a xs := h.elim (fun z => .inl (s.sqL z)) fun z => .inr (s.sqT z)
end
/-- for .. in e, e a list or a tuple (so it stood in H0): the walk J over its items is known while G stands, and what keeps H0 keeps G -/
def iSeq (K : PySem.W.Frag) (te : TE) : TI := fun σ H R => te σ H fun x H1 => ∃ a xs H0, x = .ref a ∧ SqU K H0 a xs ∧ Stays H0 H1 ∧ ∀ (J : It) (G : Hp → Prop), Walk J xs.length G (YAt xs) → G H1 → (∀ H2, Stays H0 H2 → G H2) → R J H1
/-- (a, b, ..) = a list or a tuple of that length -/
def gSeq (K : PySem.W.Frag) (n : Nat) (t : TGs) : TG := fun v σ H Q => ∃ a xs, v = .ref a ∧ SqU K H a xs ∧ xs.length = n ∧ t xs σ H Q
section
variable {X : Cx} {tg e : Expr} {te : TE} {pos : Pos}
theorem pi_seq (he : PE X e te) : PI X tg e (iSeq X.K te) := by
  refine ⟨fun pins s σ H R I h => ?_⟩
  refine thn (he.run pins s σ H _ I h) fun v s1 hh => ?_
  obtain ⟨x, H1, I1, r1, a, xs, H0, rfl, h0, st, q⟩ := hh
  cases r1
  have fine : ∀ {H2 : Hp} {J : Inv X pins σ H2 s1}, ∀ b ∈ [s1.heap.objs.size], FpOk X pins H2 b := fun {H2 J} b hb => by
    have eb : b = s1.heap.objs.size := by simpa using hb
    subst eb
    exact J.fpOk (Nat.le_refl _) (J.hok.fresh (Nat.le_refl _))
  rcases h0 with h0 | h0
  · have hq := st.sqL h0
    obtain ⟨its, rv, p, hz⟩ := I1.list hq
    refine wpAny_pyIter_list p.isList ?_
    refine ⟨s1.heap.objs.size, [s1.heap.objs.size], _, _, H1, rfl, I1.kept (t' := s1.toks) fun b o z => Heap.get?_push_of_some _ z, turn_list a _, ⟨_, Heap.get?_push_size _ rfl, rfl, rfl⟩, fine (J := I1), ?_⟩
    exact q _ _ walk_list hq fun H2 st2 => st2.sqL h0
  · have hq := st.sqT h0
    obtain ⟨its, rv, p, hz⟩ := I1.tuple hq
    refine wpAny_pyIter_tuple (show s1.heap.IsTuple a its.toArray from p) ?_
    refine ⟨s1.heap.objs.size, [s1.heap.objs.size], _, _, H1, rfl, I1.kept (t' := s1.toks) fun b o z => Heap.get?_push_of_some _ z, turn_tuple a _, ⟨_, Heap.get?_push_size _ rfl, rfl, rfl⟩, fine (J := I1), ?_⟩
    exact q _ _ walk_tup hq fun H2 st2 => st2.sqT h0
theorem pg_seq {es : List Expr} {k : Nat} {t : TGs} {n : Nat} (hc : X.calm = true) (h : PGs X es t)
    (hn : (assignEach es X.env).length = n := by rfl) (hst : (assignEach es X.env).findIdx? (·.1) = none := by rfl) : PG X (.Tuple es k pos) (gSeq X.K n t) := by
  refine ⟨fun pins s σ H v u Q I r hw => ?_⟩
  obtain ⟨a, xs, e1, hq, hl, hw⟩ := hw
  rcases hq with hq | hq
  · exact (pg_unl hc h hn hst).run pins s σ H v u Q I r ⟨a, xs, e1, hq, hl, hw⟩
  · exact (pg_tup hc h hn hst).run pins s σ H v u Q I r ⟨a, xs, e1, hq, hl, hw⟩
end
/-- s[i], s a list or a tuple -/
def rIxU (K : PySem.W.Frag) : R2 := fun x y H Q => ∃ p xs i v, x = .ref p ∧ y = .int i ∧ SqU K H p xs ∧ atI xs i = some v ∧ Q v H
theorem ixU {X : Cx} (K : PySem.W.Frag) (h : X.K = K := by rfl) : IxR X (rIxU K) := by
  subst h
  intro value slice pins s σ H x y v u Q I rx ry hh hs
  obtain ⟨p, xs, i, z, ex, ey, hq, he, q⟩ := hh
  rcases hq with hq | hq
  · exact ix_list value slice pins s σ H x y v u Q I rx ry ⟨p, xs, i, z, ex, ey, hq, he, q⟩ hs
  · exact ix_tup value slice pins s σ H x y v u Q I rx ry ⟨p, xs, i, z, ex, ey, hq, he, q⟩ hs
/-- isinstance, the written part named -/
theorem isi_of {X : Cx} (K : PySem.W.Frag) (h : X.K = K := by rfl) : CallR X (.builtin "isinstance") (rIsi K) := by subst h; exact call_isi
end Ls
namespace Ls
open PySem PySem.Spec PyProof.Rows L2
/-! ### short steps -/
local macro_rules | `(tactic| walk_at "ls_ne") => `(tactic| first | assumption | exact Ne.symm (by assumption) | exact ne_of_none (by assumption) (by assumption) | exact Ne.symm (ne_of_none (by assumption) (by assumption)))
local macro_rules | `(tactic| walk_at "ls_hp") => `(tactic| first
  | with_reducible assumption
  | exact upd_same
  | exact Eq.trans (upd_ne (by walk_at "ls_ne")) (by walk_at "ls_hp"))
local macro_rules | `(tactic| walk_at "ls_st") => `(tactic| first
  | with_reducible assumption
  | exact Stm.upd (by walk_at "ls_st") (by first | walk_at "ls_ne" | exact (Stm.noneS (by assumption) (by assumption)).1) (by first | walk_at "ls_ne" | exact (Stm.noneS (by assumption) (by assumption)).2))
local macro_rules | `(tactic| walk_at "ls1") => `(tactic| first
  | refine ⟨_, rfl, ?_⟩
  | refine ⟨_, _, rfl, rfl, ?_⟩
  | refine ⟨_, _, _, _, rfl, rfl, .inl (.inl (by walk_at "ls_hp")), rfl, ?_⟩
  | refine ⟨_, _, _, _, rfl, rfl, (by walk_at "ls_hp"), rfl, ?_⟩
  | refine ⟨rfl, _, rfl, ?_⟩
  | refine ⟨.inl ⟨rfl, _, .inl (.inl (by walk_at "ls_hp"))⟩, ?_⟩)
local macro_rules | `(tactic| walk_at "ls") => `(tactic| repeat (walk_at "ls1"))

/-! ### any object in a name's place -/
/-- no string -/
def NotS (K : PySem.W.Frag) (H : Hp) (v : V) : Prop := (∃ t, TyX K H v t ∧ PySem.W.kitOne K t (.type "str") = some false) ∧ ∀ z, v ≠ .str z
/-- a string that is not too long, or no string -/
def Thg (K : PySem.W.Frag) (H : Hp) (v : V) : Prop := (∃ z, v = .str z ∧ z.length ≤ 1000) ∨ NotS K H v
def letters : List Nat := ("abcdefghijklmnopqrstuvwxyz" : Str).cps.toList
def isNameB (z : Str) : Bool := !decide (z = "strike") && (decide (1 ≤ z.length) && decide (z.length ≤ 8)) && z.cps.toList.all fun c => decide (c ∈ letters)
def isNameV : V → Bool
  | .str z => isNameB z
  | _ => false
def isWordV (ts : List Str) : V → Bool
  | .str z => decide (z ∈ ts)
  | _ => false
theorem notS_name {K : PySem.W.Frag} {H : Hp} {v : V} (h : NotS K H v) : isNameV v = false := by
  cases v with
  | str z => exact absurd rfl (h.2 z)
  | _ => rfl
theorem notS_word {K : PySem.W.Frag} {H : Hp} {v : V} {ts : List Str} (h : NotS K H v) : isWordV ts v = false := by
  cases v with
  | str z => exact absurd rfl (h.2 z)
  | _ => rfl
/-- the module's constants -/
structure Gn (K : PySem.W.Frag) (mg : Str → Option Value) (aR aC aK aB : Addr) (tS tL tN : Tok) : Prop where
  STRIKE : mg "STRIKE" = some (.str "strike" tS)
  LETTERS : mg "LETTERS" = some (.str "abcdefghijklmnopqrstuvwxyz" tL)
  LONGEST_NAME : mg "LONGEST_NAME" = some (.int 8 tN)
  RULES : mg "RULES" = some (.ref aR)
  COLUMN_CHECKS : mg "COLUMN_CHECKS" = some (.ref aC)
  KIND_CHECKS : mg "KIND_CHECKS" = some (.ref aK)
  BOOK_CHECKS : mg "BOOK_CHECKS" = some (.ref aB)
  kRULES : KTup K aR [.str "fall", .str "clear"]
  kCOL : KTup K aC (colW.map V.str)
  kKIND : KTup K aK (kindW.map V.str)
  kBOOK : KTup K aB (bookW.map V.str)
def inL : V → Option V
  | .str z => some (.bl (z.cps.toList.all fun c => decide (c ∈ letters)))
  | _ => none
theorem inL_all (z : Str) : (signs z).filterMap inL = (z.cps.toList.map fun c => decide (c ∈ letters)).map V.bl := by
  unfold signs
  generalize z.cps.toList = l
  induction l with
  | nil => rfl
  | cons c r ih =>
    rw [List.map_cons, List.filterMap_cons, List.map_cons, List.map_cons]
    show V.bl ([c].all fun c => decide (c ∈ letters)) :: _ = _
    rw [ih]
    simp
section
variable {P : Program} {w : World} {K : PySem.W.Frag} {mg : Str → Option Value} {base : Heap}
/-! ### is_name -/
abbrev s_is_name : Stmt := topS 13
theorem sc_is_name : FnScope ["thing", "letter"] ["thing"] (defScope s_is_name) := ⟨rfl, rfl, rfl, by decide +kernel, rfl, by decide +kernel, by decide +kernel⟩
abbrev N_is_name : List Str := ["thing", "letter"]
def spIsName (K : PySem.W.Frag) : Sp := fun vs H Q _ => ∃ v, vs = [v] ∧ Thg K H v ∧ ∀ H', Same H H' → Q (.bl (isNameV v)) H'
theorem ok_is_name {f : Addr} {fd : FuncData} {aR aC aK aB : Addr} {tS tL tN : Tok} (F : Fun K "is_name" "is_name" s_is_name f fd) (T : Bt mg) (G : Gn K mg aR aC aK aB tS tL tN) : FnOk P w K mg base CX0 1 f fd ["thing"] (spIsName K) := by
  refine F.ok sc_is_name (fun vs H Q E h => ?_) (fun cdv A outer s H vs Q E hr h => ?_)
  · obtain ⟨z, rfl, _⟩ := h
    rfl
  · obtain ⟨v, rfl, hv, q⟩ := h
    have hu := hu_of hr
    refine ⟨_, (pss_cons (ps_if (PW.pt (pw_or (pt_not (pt_val (pe_callB call_isi (by rfl) T.m_isinstance (by decide +kernel) (pa_cons (pv 0) (pa_cons (pe_bltn (v := V.ty "str") (by rfl) T.m_str boot_str rfl) pa_nil))))) (pw_or1 (pt_cmpR op_eq (pv 0) (glob_str G.STRIKE) (nomark _))))) (pss_one (ps_ret pe_bl)) pss_nil)
      (pss_one (ps_ret (pe_and (pe_chain op_le op_le pe_int (pe_callB call_len_str (by rfl) T.m_len (by decide +kernel) (pa_cons (pv 0) pa_nil)) (glob_int G.LONGEST_NAME)) (pe_one (pe_callB (cr_all rfl) (by rfl) T.m_all (by decide +kernel) (pa_cons (pe_lc (own := [("letter", 1)]) (g := gName 1) (by rfl) sc_is_name.nd (pi_str (pv 0)) (blkOk_by (own := [("letter", 1)]) (N := N_is_name) (sc := defScope s_is_name) (by decide +kernel)) (fun _ _ _ _ _ => (pg_name (i := 1) sc_is_name.nd rfl (Or.inl rfl) (Or.inr rfl))) (fun _ _ _ _ _ => pts_nil) (fun _ _ _ _ _ => (pe_cmpR op_in_sign (pv 1) (glob_str G.LETTERS) (by rfl)))) pa_nil))))))), ?_⟩
    rcases hv with ⟨z, rfl, hz⟩ | hv
    · refine or2 false (decide (V.str z = V.str "strike")) (fun Q' q' => ?_) (fun _ Q' q' => ?_) ?_
      · refine ⟨_, rfl, ?_⟩
        exact ⟨_, _, _, _, true, rfl, .ty "str", .base (.str z), kit_ty (by decide +kernel), _, rfl, q'⟩
      · walk_at "ls"
        exact q'
      have q : ∀ H', Same H H' → Q (.bl (isNameB z)) H' := q
      refine ite2 (fun e => ?_) (fun e => ?_)
      · have e1 : z = "strike" := V.str.inj (of_decide_eq_true (by simpa using e))
        have : isNameB z = false := by rw [e1]; decide +kernel
        have h := q H (Same.refl H)
        rw [this] at h
        exact h
      · have e1 : ¬ z = "strike" := fun h => e (by rw [h]; simp)
        refine ⟨_, rfl, ?_⟩
        refine ⟨z, rfl, Nat.le_trans hz (show 1000 ≤ sizeLine by decide), ?_⟩
        refine ⟨_, _, rfl, rfl, _, rfl, ?_⟩
        refine ite2 (fun e2 => ?_) (fun e2 => ?_)
        · refine ⟨_, _, rfl, rfl, _, rfl, ?_⟩
          refine ite2 (fun e3 => ?_) (fun e3 => ?_)
          · walk_at "ls"
            intro D hD
            refine lc_pure walk_str (signs z) inL (signs_len _) yld_str (Nat.lt_of_le_of_lt hz (show 1000 < sizeLine by decide)) (fun _ => trivial) (fun i x hi hx => ?_) ?_
            · obtain ⟨c, rfl⟩ := signs_at hx
              refine ⟨rfl, ?_⟩
              walk_at "ls"
              exact lc_yes hx hi (Nat.lt_of_le_of_lt hz (show 1000 < sizeLine by decide)) (by show some (V.bl ([c].all fun c => decide (c ∈ letters))) = _; simp [letters])
            · rw [inL_all]
              refine ⟨D, _, rfl, .inl (.inl upd_same), ?_⟩
              have h := q _ (same_new (o := .lst ((z.cps.toList.map fun c => decide (c ∈ letters)).map V.bl)) hD)
              have e4 : isNameB z = (z.cps.toList.map fun c => decide (c ∈ letters)).all id := by
                have h2 : 1 ≤ z.length := by have := of_decide_eq_true e2; omega
                have h3 : z.length ≤ 8 := by have := of_decide_eq_true e3; omega
                unfold isNameB
                rw [List.all_map]
                simp [e1, h2, h3]
              rw [e4] at h
              exact h
          · have : isNameB z = false := by
              have h3 : ¬ z.length ≤ 8 := fun h => e3 (decide_eq_true (by omega))
              unfold isNameB
              simp [h3]
            have h := q H (Same.refl H)
            rw [this] at h
            exact h
        · refine ⟨_, rfl, ?_⟩
          have : isNameB z = false := by
            have h3 : ¬ 1 ≤ z.length := fun h => e2 (decide_eq_true (by omega))
            unfold isNameB
            simp [h3]
          have h := q H (Same.refl H)
          rw [this] at h
          exact h
    · obtain ⟨t, ht, kt⟩ := hv.1
      refine or2 true false (fun Q' q' => ?_) (fun z => nomatch z) ?_
      · refine ⟨_, rfl, ?_⟩
        exact ⟨_, _, _, _, false, rfl, .ty "str", ht, kt, _, rfl, q'⟩
      have h := q H (Same.refl H)
      rw [notS_name hv] at h
      exact iteT h
/-! ### is_word_of -/
abbrev s_is_word_of : Stmt := topS 14
theorem sc_is_word_of : FnScope ["thing", "words"] ["thing", "words"] (defScope s_is_word_of) := ⟨rfl, rfl, rfl, by decide +kernel, rfl, by decide +kernel, by decide +kernel⟩
abbrev N_is_word_of : List Str := ["thing", "words"]
def spWord (K : PySem.W.Frag) : Sp := fun vs H Q _ => ∃ (v : V) (a : Addr) (ts : List Str), vs = [v, .ref a] ∧ Thg K H v ∧ (SqL K H a (ts.map V.str) ∨ SqT K H a (ts.map V.str)) ∧ Q (.bl (isWordV ts v)) H
theorem ok_word {f : Addr} {fd : FuncData} (F : Fun K "is_word_of" "is_word_of" s_is_word_of f fd) (T : Bt mg) : FnOk P w K mg base CX0 1 f fd ["thing", "words"] (spWord K) := by
  refine F.ok sc_is_word_of (fun vs H Q E h => ?_) (fun cdv A outer s H vs Q E hr h => ?_)
  · obtain ⟨z, a, ts, rfl, _⟩ := h
    rfl
  · obtain ⟨v, a, ts, rfl, hv, hs, q⟩ := h
    have hu := hu_of hr
    refine ⟨_, (pss_one (ps_ret (pe_and (pe_callB call_isi (by rfl) T.m_isinstance (by decide +kernel) (pa_cons (pv 0) (pa_cons (pe_bltn (v := V.ty "str") (by rfl) T.m_str boot_str rfl) pa_nil))) (pe_one (pe_cmpR (in_seq K) (pv 0) (pv 1) (by rfl)))))), ?_⟩
    refine ⟨_, rfl, ?_⟩
    rcases hv with ⟨z, rfl, hz⟩ | hv
    · refine ⟨_, _, _, _, true, rfl, .ty "str", .base (.str z), kit_ty (by decide +kernel), _, rfl, iteT ?_⟩
      walk_at "ls"
      refine ⟨a, _, rfl, hs, rfl, all_flat ts, ?_⟩
      show Q (.bl (inV (.str z) (ts.map V.str))) H
      rw [in_strs]
      exact q
    · obtain ⟨t, ht, kt⟩ := hv.1
      rw [notS_word hv] at q
      exact ⟨_, _, _, _, false, rfl, .ty "str", ht, kt, _, rfl, iteF q⟩
/-! ### _want_free_name -/
abbrev s__want_free_name : Stmt := topS 24
theorem sc__want_free_name : FnScope ["name", "taken"] ["name", "taken"] (defScope s__want_free_name) := ⟨rfl, rfl, rfl, by decide +kernel, rfl, by decide +kernel, by decide +kernel⟩
abbrev N__want_free_name : List Str := ["name", "taken"]
def spFree (K : PySem.W.Frag) (cN cU : Addr) : Sp := fun vs H Q E => ∃ (v : V) (a : Addr) (ts : List Str), vs = [v, .ref a] ∧ Thg K H v ∧ H a = some (.lst (ts.map V.str)) ∧
  (isNameV v = false → ∀ H' d, Same H H' → H' d = none → E (.ref cN) (some d) (upd H' d (.xd [("name", v)]))) ∧
  (isNameV v = true → isWordV ts v = true → ∀ H' d, Same H H' → H' d = none → E (.ref cU) (some d) (upd H' d (.xd [("name", v)]))) ∧
  (isNameV v = true → isWordV ts v = false → ∀ H', Same H H' → Q .non H')
theorem ok_free {f : Addr} {fd : FuncData} {cN cU : Addr} (F : Fun K "_want_free_name" "_want_free_name" s__want_free_name f fd) (O_is_name : Own P w K mg base CX0 1 "is_name" ["thing"] (spIsName K))
    (O_BadName : OwnX P w K mg base "BadName" ["name"] (spI1 cN "name") cN) (O_NameInUse : OwnX P w K mg base "NameInUse" ["name"] (spI1 cU "name") cU) : FnOk P w K mg base (L2.CX P w) 3 f fd ["name", "taken"] (spFree K cN cU) := by
  refine F.okX sc__want_free_name (fun vs H Q E h => ?_) (fun cdv A outer s H vs Q E hr h => ?_)
  · obtain ⟨z, a, ts, rfl, _⟩ := h
    rfl
  · obtain ⟨v, a, ts, rfl, hv, ha, q1, q2, q3⟩ := h
    have hu := hu_of hr
    refine ⟨_, (pss_cons (ps_if (pt_not (pt_val (own_call O_is_name hr (by first | decide | omega) (pa_cons (pv 0) pa_nil)))) (pss_one (ps_err rfl takes_def (pmk_err1 O_BadName (hr.mono (by decide)) (pa_cons (pv 0) pa_nil)))) pss_nil)
      (pss_one (ps_if (pt_cmpR (in_seq K) (pv 0) (pv 1) (by rfl)) (pss_one (ps_err rfl takes_def (pmk_err1 O_NameInUse (hr.mono (by decide)) (pa_cons (pv 0) pa_nil)))) pss_nil))), ?_⟩
    refine ⟨_, rfl, ?_⟩
    refine ⟨v, rfl, hv, fun H1 s1 => ?_⟩
    refine ⟨_, rfl, ?_⟩
    cases hn : isNameV v with
    | false =>
      refine iteT ?_
      walk_at "ls"
      exact fun d hd => q1 hn _ d s1 hd
    | true =>
      refine iteF ?_
      obtain ⟨z, rfl⟩ : ∃ z, v = .str z := by
        cases v with
        | str z => exact ⟨z, rfl⟩
        | _ => cases hn
      walk_at "ls"
      refine ⟨a, _, rfl, .inl (.inl (.inl (s1 _ _ ha))), rfl, all_flat ts, _, rfl, ?_⟩
      show if inV (.str z) (ts.map V.str) = true then _ else _
      rw [in_strs]
      cases hw : decide (z ∈ ts) with
      | true =>
        refine iteT ?_
        walk_at "ls"
        exact fun d hd => q2 hn hw _ d s1 hd
      | false => exact iteF (q3 hn hw H1 s1)
end
end Ls
namespace Ls
open PySem PySem.Spec PyProof.Rows L2
/-! ### short steps -/
local macro_rules | `(tactic| walk_at "ls_ne") => `(tactic| first | assumption | exact Ne.symm (by assumption) | exact ne_of_none (by assumption) (by assumption) | exact Ne.symm (ne_of_none (by assumption) (by assumption)))
local macro_rules | `(tactic| walk_at "ls_hp") => `(tactic| first
  | with_reducible assumption
  | exact upd_same
  | exact Eq.trans (upd_ne (by walk_at "ls_ne")) (by walk_at "ls_hp"))
local macro_rules | `(tactic| walk_at "ls_st") => `(tactic| first
  | with_reducible assumption
  | exact Stm.upd (by walk_at "ls_st") (by first | walk_at "ls_ne" | exact (Stm.noneS (by assumption) (by assumption)).1) (by first | walk_at "ls_ne" | exact (Stm.noneS (by assumption) (by assumption)).2))
local macro_rules | `(tactic| walk_at "ls1") => `(tactic| first
  | refine ⟨_, rfl, ?_⟩
  | refine ⟨_, _, rfl, rfl, ?_⟩
  | refine ⟨_, _, _, _, rfl, rfl, .inl (.inl (by walk_at "ls_hp")), rfl, ?_⟩
  | refine ⟨_, _, _, _, rfl, rfl, (by walk_at "ls_hp"), rfl, ?_⟩
  | refine ⟨rfl, _, rfl, ?_⟩
  | refine ⟨.inl ⟨rfl, _, .inl (.inl (by walk_at "ls_hp"))⟩, ?_⟩)
local macro_rules | `(tactic| walk_at "ls") => `(tactic| repeat (walk_at "ls1"))

/-! ### rows of any objects -/
def RowOf (K : PySem.W.Frag) (H : Hp) (v : V) (ys : List V) : Prop := ∃ t, v = .ref t ∧ SqU K H t ys
/-- xs are lists or tuples with the items yss -/
def RowsAt (K : PySem.W.Frag) (H : Hp) (xs : List V) (yss : List (List V)) : Prop := Paired (RowOf K H) xs yss
theorem RowsAt.get {K : PySem.W.Frag} {H : Hp} : ∀ {xs : List V} {yss : List (List V)} {i : Nat} {x : V}, RowsAt K H xs yss → xs[i]? = some x → ∃ ys, yss[i]? = some ys ∧ RowOf K H x ys
  | _ :: _, _ :: _, 0, x, .cons h r, e => ⟨_, rfl, by cases e; exact h⟩
  | _ :: xs, _ :: yss, i + 1, x, .cons h r, e => RowsAt.get (xs := xs) (yss := yss) (i := i) r e
theorem RowOf.same {K : PySem.W.Frag} {H H' : Hp} {v : V} {ys : List V} (h : RowOf K H v ys) (s : Same H H') : RowOf K H' v ys := by
  obtain ⟨t, e, q⟩ := h
  exact ⟨t, e, Stays.sqU s q⟩
theorem RowsAt.same {K : PySem.W.Frag} {H H' : Hp} : ∀ {xs : List V} {yss : List (List V)}, RowsAt K H xs yss → Same H H' → RowsAt K H' xs yss
  | _, _, .nil, _ => .nil
  | _, _, .cons h r, s => .cons (h.same s) (RowsAt.same r s)
theorem RowsAt.len {K : PySem.W.Frag} {H : Hp} {xs : List V} {yss : List (List V)} (h : RowsAt K H xs yss) : xs.length = yss.length := Paired.length h
theorem ty_same {K : PySem.W.Frag} {H H' : Hp} {v : V} {t : Value} (h : TyX K H v t) (s : Same H H') : TyX K H' v t := by
  cases h with
  | base h =>
    refine .base ?_
    cases h with
    | non => exact .non
    | bl x => exact .bl x
    | int i => exact .int i
    | str x => exact .str x
    | flt x => exact .flt x
    | lst e => exact .lst (s _ _ e)
    | frz e => exact .frz (s _ _ e)
    | tup e => exact .tup (s _ _ e)
    | dK e => exact .dK (s _ _ e)
    | dT e => exact .dT (s _ _ e)
    | ins e cl ha hn htk hm => exact .ins (s _ _ e) cl ha hn htk hm
  | byt b => exact .byt b
  | set e => exact .set (s _ _ e)
  | kList e c => exact .kList e c
  | kTuple e c => exact .kTuple e c
  | kDict e c => exact .kDict e c
  | fTuple e => exact .fTuple (s _ _ e)
  | fDict e => exact .fDict (s _ _ e)
theorem NotS.same {K : PySem.W.Frag} {H H' : Hp} {v : V} (h : NotS K H v) (s : Same H H') : NotS K H' v := by
  obtain ⟨⟨t, a, b⟩, c⟩ := h
  exact ⟨⟨t, ty_same a s, b⟩, c⟩
theorem Thg.same {K : PySem.W.Frag} {H H' : Hp} {v : V} (h : Thg K H v) (s : Same H H') : Thg K H' v := h.elim .inl fun z => .inr (z.same s)
/-- the first item of a tuple -/
def fstOf (H : Hp) : V → Option V
  | .ref t => match H t with
    | some (.tup (y :: _)) => some y
    | _ => none
  | _ => none
theorem fst_tup {H : Hp} {v y : V} {ys : List V} (h : TupOf H v (y :: ys)) : fstOf H v = some y := by
  obtain ⟨t, rfl, h⟩ := h
  show (match H t with | some (.tup (y :: _)) => some y | _ => none) = some y
  rw [h]
theorem fst_all {α : Type} {H : Hp} (g : α → V) (r : α → List V) : ∀ {xs : List V} {l : List α}, TupsAt H xs (l.map fun a => g a :: r a) → xs.filterMap (fstOf H) = l.map g
  | [], [], _ => rfl
  | x :: xs, a :: l, h => by
    cases h with
    | cons h1 h2 =>
      rw [List.filterMap_cons, fst_tup h1, fst_all g r h2]
      rfl
  | [], a :: l, h => by cases h
  | x :: xs, [], h => by cases h
theorem Same.set {H H1 : Hp} {p : Addr} {o : HO} (s : Same H H1) (hp : H p = none) : Same H (upd H1 p o) := fun b u e => by
  rw [upd_ne (ne_of_none e hp)]
  exact s _ _ e
/-! ### what is wrong of names -/
def strOf : V → Str
  | .str z => z
  | _ => ⟨#[]⟩
/-- false: no name; true: a name in use -/
def nameErr (taken : List Str) (v : V) : Option Bool := if isNameV v = true then (if isWordV taken v = true then some true else none) else some false
theorem name_str {v : V} (h : isNameV v = true) : v = .str (strOf v) := by
  cases v with
  | str z => rfl
  | _ => cases h
def kindsErr : List Str → List (V × V) → Option (Bool × V)
  | _, [] => none
  | taken, k :: r => match nameErr taken k.1 with
    | some b => some (b, k.1)
    | none => kindsErr (taken ++ [strOf k.1]) r
theorem nameErr_none {taken : List Str} {v : V} (h : nameErr taken v = none) : isNameV v = true ∧ isWordV taken v = false := by
  unfold nameErr at h
  split at h
  · rename_i h1
    split at h
    · cases h
    · rename_i h2
      exact ⟨h1, by simpa using h2⟩
  · cases h
/-- all good ahead: the names of the first i -/
theorem kindsErr_step {taken : List Str} {ks : List (V × V)} {i : Nat} {k : V × V} (e : ks[i]? = some k) : kindsErr taken (ks.drop i) = match nameErr taken k.1 with
    | some b => some (b, k.1)
    | none => kindsErr (taken ++ [strOf k.1]) (ks.drop (i + 1)) := by
  obtain ⟨hi, rfl⟩ := List.getElem?_eq_some_iff.mp e
  rw [List.drop_eq_getElem_cons hi]
  rfl
/-- the error that is due, as an error that leaves -/
def nameE (cN cU : Addr) (H : Hp) (E : XK) (b : Bool) (v : V) : Prop := ∀ H' d, Same H H' → H' d = none → E (.ref (if b = true then cU else cN)) (some d) (upd H' d (.xd [("name", v)]))
theorem nameE.go {cN cU : Addr} {H H1 : Hp} {E : XK} {b : Bool} {v : V} (h : nameE cN cU H E b v) (s : Same H H1) : nameE cN cU H1 E b v := fun H' d s' n => h H' d (s.trans s') n
/-- the promise of _want_free_name by nameErr -/
theorem free_of {K : PySem.W.Frag} {cN cU a : Addr} {H : Hp} {Q : VK} {E : XK} {v : V} {ts : List Str} (hv : Thg K H v) (ha : H a = some (.lst (ts.map V.str)))
    (h : match nameErr ts v with
      | some b => nameE cN cU H E b v
      | none => ∀ H', Same H H' → Q .non H') : spFree K cN cU [v, .ref a] H Q E := by
  unfold nameErr at h
  refine ⟨v, a, ts, rfl, hv, ha, fun h1 => ?_, fun h1 h2 => ?_, fun h1 h2 => ?_⟩
  · rw [h1, if_neg (by decide)] at h
    exact h
  · rw [h1, h2, if_pos rfl, if_pos rfl] at h
    exact h
  · rw [h1, h2, if_pos rfl, if_neg (by decide)] at h
    exact h
section
variable {P : Program} {w : World} {K : PySem.W.Frag} {mg : Str → Option Value} {base : Heap}
/-! ### _read_kinds -/
abbrev s__read_kinds : Stmt := topS 22
theorem sc__read_kinds : FnScope ["kinds", "found", "name", "is_open", "kind"] ["kinds"] (defScope s__read_kinds) := ⟨rfl, rfl, rfl, by decide +kernel, rfl, by decide +kernel, by decide +kernel⟩
abbrev N__read_kinds : List Str := ["kinds", "found", "name", "is_open", "kind"]
def spReadK (K : PySem.W.Frag) (cN cU : Addr) : Sp := fun vs H Q E => ∃ (a : Addr) (xs : List V) (ks : List (V × V)), vs = [.ref a] ∧ SqU K H a xs ∧ RowsAt K H xs (ks.map fun k => [k.1, k.2]) ∧ (∀ k ∈ ks, Thg K H k.1) ∧ ks.length ≤ 1000 ∧
  match kindsErr [] ks with
  | some (b, v) => nameE cN cU H E b v
  | none => ∀ (H' : Hp) (p : Addr) (ys : List V), H' p = some (.tup ys) → TupsAt H' ys (ks.map fun k => [k.1, k.2]) → Same H H' → Q (.ref p) H'
theorem ok_readK {f : Addr} {fd : FuncData} {cN cU : Addr} (F : Fun K "_read_kinds" "_read_kinds" s__read_kinds f fd) (T : Bt mg) (O__want_free_name : OwnR P w K mg base 3 "_want_free_name" ["name", "taken"] (spFree K cN cU)) : FnOk P w K mg base (L2.CX P w) 4 f fd ["kinds"] (spReadK K cN cU) := by
  refine F.okX sc__read_kinds (fun vs H Q E h => ?_) (fun cdv A outer s H vs Q E hr h => ?_)
  · obtain ⟨a, xs, B, rfl, _⟩ := h
    rfl
  · obtain ⟨a, xs, ks, rfl, ha, hx, ht, hk, q⟩ := h
    have hu := hu_of hr
    refine ⟨_, (pss_cons (ps_set (i := 1) sc__read_kinds.nd rfl (Or.inl rfl) (pe_lst pa_nil))
      (pss_cons (ps_for own_def rfl (pi_seq (pv 0)) (pg_seq rfl (pgs_cons (pg_name (i := 2) sc__read_kinds.nd rfl (Or.inl rfl)) (pgs_cons (pg_name (i := 3) sc__read_kinds.nd rfl (Or.inl rfl)) pgs_nil))) (pss_cons (ps_expr (own_callR O__want_free_name hr (by first | decide | omega) takes_def (pa_cons (pv 2) (pa_cons (pe_lc (own := [("kind", 4)]) (g := gName 4) (by rfl) sc__read_kinds.nd (pi_list (pv 1)) (blkOk_by (own := [("kind", 4)]) (N := N__read_kinds) (sc := defScope s__read_kinds) (by decide +kernel)) (fun _ _ _ _ _ => (pg_name (i := 4) sc__read_kinds.nd rfl (Or.inl rfl) (Or.inr rfl))) (fun _ _ _ _ _ => pts_nil) (fun _ _ _ _ _ => (pe_ix (ixT K) (pv 4) pe_int (fun _ _ => rfl)))) pa_nil))))
      (pss_one (ps_expr (pe_bm PySem.F.plainAttrs_list PySem.F.slot_list_append PySem.F.type_list_append mt_append (pv 1) (pa_cons (pe_tup (pa_cons (pv 2) (pa_cons (pv 3) pa_nil))) pa_nil))))))
      (pss_one (ps_ret (pe_callTy (tuple_of K) (by rfl) T.m_tuple (by decide +kernel) (pa_cons (pv 1) pa_nil)))))), ?_⟩
    refine ⟨Nat.zero_le _, fun p hp => ?_⟩
    have s0 : Same H (upd H p (.lst [])) := same_new hp
    walk_at "ls"
    refine ⟨a, xs, H, rfl, ha, s0, fun J G wk g0 gs => ?_⟩
    have lx : xs.length = ks.length := by rw [hx.len, List.length_map]
    refine for_it wk (fun i σ H1 => ∃ (fx : List V) (v2 v3 : Option V) (zs : List Str), σ = [some (.ref a), some (.ref p), v2, v3, none] ∧ H1 p = some (.lst fx) ∧ TupsAt H1 fx ((ks.take i).map fun k => [k.1, k.2]) ∧ Same H H1 ∧
        (ks.take i).map (·.1) = zs.map V.str ∧ kindsErr [] ks = kindsErr zs (ks.drop i))
      ⟨[], none, none, [], rfl, upd_same, .nil, s0, rfl, rfl⟩ (fun i σ H1 _ ⟨_, _, _, _, _, _, _, s1, _⟩ => gs _ s1) ?_ ?_
    · rintro i x σ Hz H1 hi ⟨fx, v2, v3, zs, rfl, h1, h1t, s1, ez, ek⟩ ⟨rfl, hxi⟩
      obtain ⟨ys, hys, t, rfl, hto⟩ := RowsAt.get (hx.same s1) hxi
      obtain ⟨k, hki, rfl⟩ := map_get hys
      refine ⟨t, _, rfl, hto, rfl, _, _, rfl, _, _, rfl, rfl, ?_⟩
      walk_at "ls"
      have lf : fx.length ≤ 1000 := by
        rw [h1t.len, List.length_map, List.length_take]
        omega
      have lz : fx.length < sizeLine := Nat.lt_of_le_of_lt lf (show 1000 < sizeLine by decide)
      refine ⟨⟨_, .inl (.inl h1)⟩, fun D hD => ?_⟩
      have npD : p ≠ D := ne_of_none h1 hD
      refine lc_pure (walk_list (xs := fx)) fx (fstOf H1) rfl (fun i H x H' hi hy => hy) lz (fun acc => .inl (.inl (by rw [upd_ne npD]; exact h1))) (fun j y hj hy => ?_) ?_
      · obtain ⟨zs, hzs, hto⟩ := TupsAt.get h1t hy
        obtain ⟨k2, hk2, rfl⟩ := map_get hzs
        obtain ⟨t2, rfl, ht2⟩ := id hto
        have n2 : t2 ≠ D := ne_of_none ht2 hD
        refine ⟨rfl, ?_⟩
        walk_at "ls"
        exact lc_yes hy hj lz (fst_tup hto)
      rw [fst_all (fun a : V × V => a.1) (fun a => [a.2]) (l := ks.take i) h1t, ez]
      have e1 := kindsErr_step (taken := zs) hki
      rw [ek, e1] at q
      simp only [tNil, List.set]
      refine free_of ((ht _ (List.mem_of_getElem? hki)).same (s1.trans (same_new hD))) upd_same ?_
      cases hn : nameErr zs k.1 with
      | some b =>
        rw [hn] at q
        exact nameE.go q (s1.trans (same_new hD))
      | none =>
        intro H2 sH2
        have s12 : Same H1 H2 := (same_new hD).trans sH2
        have h2 := s12 _ _ h1
        obtain ⟨n1, n2⟩ := nameErr_none hn
        walk_at "ls"
        refine ⟨(by show 2 ≤ sizeLine; decide), fun t2 ht2 => ?_⟩
        have npt : p ≠ t2 := ne_of_none h2 ht2
        have h2' : (upd H2 t2 (.tup [k.1, k.2])) p = some (.lst fx) := by rw [upd_ne npt]; exact h2
        refine ⟨_, _, _, rfl, rfl, h2', lz, fx ++ [.ref t2], _, _, zs ++ [strOf k.1], rfl, upd_same, ?_, ?_, ?_, ?_⟩
        · rw [List.take_add_one, hki, Option.toList_some, List.map_append]
          exact (h1t.keep (((TK.same s12).trans (.new ht2)).trans (.lst h2'))).snoc ⟨t2, rfl, by rw [upd_ne npt.symm]; exact upd_same⟩
        · exact Same.set ((s1.trans s12).trans (same_new ht2)) hp
        · rw [List.take_add_one, hki, Option.toList_some, List.map_append, ez, List.map_append, List.map_cons, List.map_cons, ← name_str n1]
          rfl
        · rw [ek, e1, hn]
    · rintro σ H1 ⟨fx, v2, v3, zs, rfl, h1, h1t, s1, ez, ek⟩
      rw [lx, List.take_length] at h1t
      rw [lx, List.drop_length] at ek
      rw [ek] at q
      walk_at "ls"
      refine ⟨p, fx, rfl, .inl ⟨.inl (.inl h1), fun l hl => ?_⟩⟩
      exact q _ l fx upd_same (h1t.keep (.new hl)) (s1.trans (same_new hl))
end
end Ls
namespace Ls
open PySem PySem.Spec PyProof.Rows L2
/-! ### short steps -/
local macro_rules | `(tactic| walk_at "ls_ne") => `(tactic| first | assumption | exact Ne.symm (by assumption) | exact ne_of_none (by assumption) (by assumption) | exact Ne.symm (ne_of_none (by assumption) (by assumption)))
local macro_rules | `(tactic| walk_at "ls_hp") => `(tactic| first
  | with_reducible assumption
  | exact upd_same
  | exact Eq.trans (upd_ne (by walk_at "ls_ne")) (by walk_at "ls_hp"))
local macro_rules | `(tactic| walk_at "ls_st") => `(tactic| first
  | with_reducible assumption
  | exact Stm.upd (by walk_at "ls_st") (by first | walk_at "ls_ne" | exact (Stm.noneS (by assumption) (by assumption)).1) (by first | walk_at "ls_ne" | exact (Stm.noneS (by assumption) (by assumption)).2))
local macro_rules | `(tactic| walk_at "ls1") => `(tactic| first
  | refine ⟨_, rfl, ?_⟩
  | refine ⟨_, _, rfl, rfl, ?_⟩
  | refine ⟨_, _, _, _, rfl, rfl, .inl (.inl (by walk_at "ls_hp")), rfl, ?_⟩
  | refine ⟨_, _, _, _, rfl, rfl, (by walk_at "ls_hp"), rfl, ?_⟩
  | refine ⟨rfl, _, rfl, ?_⟩
  | refine ⟨.inl ⟨rfl, _, .inl (.inl (by walk_at "ls_hp"))⟩, ?_⟩)
local macro_rules | `(tactic| walk_at "ls") => `(tactic| repeat (walk_at "ls1"))

/-! ### what is wrong of columns -/
abbrev Col := V × V × V × V
def colU (c : Col) : List V := [c.1, c.2.1, c.2.2.1, c.2.2.2]
def ruleW : List Str := ["fall", "clear"]
inductive ColE
  | name (b : Bool) (v : V)
  | kind (v : V)
  | rule (v : V)
def colErr (kn taken : List Str) (c : Col) : Option ColE := match nameErr (kn ++ taken) c.1 with
  | some b => some (.name b c.1)
  | none => if isWordV kn c.2.1 = true then (if isWordV kn c.2.2.1 = true then (if isWordV ruleW c.2.2.2 = true then none else some (.rule c.2.2.2)) else some (.kind c.2.2.1)) else some (.kind c.2.1)
def colsErr (kn : List Str) : List Str → List Col → Option ColE
  | _, [] => none
  | taken, c :: r => match colErr kn taken c with
    | some e => some e
    | none => colsErr kn (taken ++ [strOf c.1]) r
theorem colsErr_step {kn taken : List Str} {cs : List Col} {i : Nat} {c : Col} (e : cs[i]? = some c) : colsErr kn taken (cs.drop i) = match colErr kn taken c with
    | some e => some e
    | none => colsErr kn (taken ++ [strOf c.1]) (cs.drop (i + 1)) := by
  obtain ⟨hi, rfl⟩ := List.getElem?_eq_some_iff.mp e
  rw [List.drop_eq_getElem_cons hi]
  rfl
/-- one field's error that leaves -/
def oneE (C : Addr) (f : Str) (H : Hp) (E : XK) (v : V) : Prop := ∀ H' d, Same H H' → H' d = none → E (.ref C) (some d) (upd H' d (.xd [(f, v)]))
theorem oneE.go {C : Addr} {f : Str} {H H1 : Hp} {E : XK} {v : V} (h : oneE C f H E v) (s : Same H H1) : oneE C f H1 E v := fun H' d s' n => h H' d (s.trans s') n
def colE (cN cU cK cR : Addr) (H : Hp) (E : XK) : ColE → Prop
  | .name b v => nameE cN cU H E b v
  | .kind v => oneE cK "kind" H E v
  | .rule v => oneE cR "rule" H E v
theorem word_str {v : V} {ts : List Str} (h : isWordV ts v = true) : v = .str (strOf v) := by
  cases v with
  | str z => rfl
  | _ => cases h
section
variable {P : Program} {w : World} {K : PySem.W.Frag} {mg : Str → Option Value} {base : Heap}
/-! ### _read_columns -/
abbrev s__read_columns : Stmt := topS 23
theorem sc__read_columns : FnScope ["columns", "kinds", "kind", "names", "found", "name", "home", "goal", "rule", "column"] ["columns", "kinds"] (defScope s__read_columns) := ⟨rfl, rfl, rfl, by decide +kernel, rfl, by decide +kernel, by decide +kernel⟩
abbrev N__read_columns : List Str := ["columns", "kinds", "kind", "names", "found", "name", "home", "goal", "rule", "column"]
def spReadC (K : PySem.W.Frag) (cN cU cK cR : Addr) : Sp := fun vs H Q E => ∃ (a b : Addr) (xs ys : List V) (cs : List Col) (ks : List (V × V)) (kn : List Str), vs = [.ref a, .ref b] ∧ SqU K H a xs ∧ RowsAt K H xs (cs.map colU) ∧ H b = some (.tup ys) ∧ TupsAt H ys (ks.map fun k => [k.1, k.2]) ∧
  ks.map (·.1) = kn.map V.str ∧ (∀ c ∈ cs, Thg K H c.1 ∧ Thg K H c.2.1 ∧ Thg K H c.2.2.1 ∧ Thg K H c.2.2.2) ∧ cs.length ≤ 1000 ∧ ks.length ≤ 1000 ∧
  match colsErr kn [] cs with
  | some e => colE cN cU cK cR H E e
  | none => ∀ (H' : Hp) (p : Addr) (zs : List V), H' p = some (.tup zs) → TupsAt H' zs (cs.map colU) → Same H H' → Q (.ref p) H'
theorem ok_readC {f : Addr} {fd : FuncData} {aR aC aK aB : Addr} {tS tL tN : Tok} {cN cU cK cR : Addr} (F : Fun K "_read_columns" "_read_columns" s__read_columns f fd) (T : Bt mg) (G : Gn K mg aR aC aK aB tS tL tN) (O__want_free_name : OwnR P w K mg base 3 "_want_free_name" ["name", "taken"] (spFree K cN cU))
    (O_is_word_of : Own P w K mg base CX0 1 "is_word_of" ["thing", "words"] (spWord K)) (O_UnknownKind : OwnX P w K mg base "UnknownKind" ["kind"] (spI1 cK "kind") cK) (O_BadRule : OwnX P w K mg base "BadRule" ["rule"] (spI1 cR "rule") cR) :
    FnOk P w K mg base (L2.CX P w) 4 f fd ["columns", "kinds"] (spReadC K cN cU cK cR) := by
  refine F.okX sc__read_columns (fun vs H Q E h => ?_) (fun cdv A outer s H vs Q E hr h => ?_)
  · obtain ⟨a, b, xs, ys, cs, ks, kn, rfl, _⟩ := h
    rfl
  · obtain ⟨a, b, xs, ys, cs, ks, kn, rfl, ha, hx, hb, hy, ekn, ht, lc, lk, q⟩ := h
    have hu := hu_of hr
    refine ⟨_, (pss_cons (ps_setLc (i := 3) (own := [("kind", 2)]) (g := gName 2) (by rfl) sc__read_columns.nd rfl rfl (sw_true rfl rfl rfl (by decide +kernel)) (pi_tup (pv 1)) (blkOk_by (own := [("kind", 2)]) (N := N__read_columns) (sc := defScope s__read_columns) (by decide +kernel)) (fun _ _ _ _ _ => (pg_name (i := 2) sc__read_columns.nd rfl (Or.inl rfl) (Or.inr rfl))) (fun _ _ _ _ _ => pts_nil) (fun _ _ _ _ _ => (pe_ix (ixT K) (pv 2) pe_int (fun _ _ => rfl))))
      (pss_cons (ps_set (i := 4) sc__read_columns.nd rfl (Or.inl rfl) (pe_lst pa_nil))
      (pss_cons (ps_for own_def rfl (pi_seq (pv 0)) (pg_seq rfl (pgs_cons (pg_name (i := 5) sc__read_columns.nd rfl (Or.inl rfl)) (pgs_cons (pg_name (i := 6) sc__read_columns.nd rfl (Or.inl rfl)) (pgs_cons (pg_name (i := 7) sc__read_columns.nd rfl (Or.inl rfl)) (pgs_cons (pg_name (i := 8) sc__read_columns.nd rfl (Or.inl rfl)) pgs_nil))))) (pss_cons (ps_expr (own_callR O__want_free_name hr (by first | decide | omega) takes_def (pa_cons (pv 5) (pa_cons (pe_op op_cat (pv 3) (pe_lc (own := [("column", 9)]) (g := gName 9) (by rfl) sc__read_columns.nd (pi_list (pv 4)) (blkOk_by (own := [("column", 9)]) (N := N__read_columns) (sc := defScope s__read_columns) (by decide +kernel)) (fun _ _ _ _ _ => (pg_name (i := 9) sc__read_columns.nd rfl (Or.inl rfl) (Or.inr rfl))) (fun _ _ _ _ _ => pts_nil) (fun _ _ _ _ _ => (pe_ix (ixT K) (pv 9) pe_int (fun _ _ => rfl))))) pa_nil))))
      (pss_cons (ps_for own_def rfl (pi_tup (pe_tup (pa_cons (pv 6) (pa_cons (pv 7) pa_nil)))) (pg_name (i := 2) sc__read_columns.nd rfl (Or.inl rfl)) (pss_one (ps_if (pt_not (pt_val (own_call O_is_word_of hr (by first | decide | omega) (pa_cons (pv 2) (pa_cons (pv 3) pa_nil))))) (pss_one (ps_err rfl takes_def (pmk_err1 O_UnknownKind (hr.mono (by decide)) (pa_cons (pv 2) pa_nil)))) pss_nil)))
      (pss_cons (ps_if (pt_not (pt_val (own_call O_is_word_of hr (by first | decide | omega) (pa_cons (pv 8) (pa_cons (glob_ref G.RULES) pa_nil))))) (pss_one (ps_err rfl takes_def (pmk_err1 O_BadRule (hr.mono (by decide)) (pa_cons (pv 8) pa_nil)))) pss_nil)
      (pss_one (ps_expr (pe_bm PySem.F.plainAttrs_list PySem.F.slot_list_append PySem.F.type_list_append mt_append (pv 4) (pa_cons (pe_tup (pa_cons (pv 5) (pa_cons (pv 6) (pa_cons (pv 7) (pa_cons (pv 8) pa_nil))))) pa_nil))))))))
      (pss_one (ps_ret (pe_callTy (tuple_of K) (by rfl) T.m_tuple (by decide +kernel) (pa_cons (pv 4) pa_nil))))))), ?_⟩
    walk_at "ls"
    have lkn : kn.length = ks.length := by
      have z := congrArg List.length ekn
      rw [List.length_map, List.length_map] at z
      exact z.symm
    have ly : ys.length < sizeLine := Nat.lt_of_le_of_lt (by rw [hy.len, List.length_map]; exact lk) (show 1000 < sizeLine by decide)
    refine ⟨⟨_, .inl (.inl hb)⟩, fun D1 hD1 => ?_⟩
    have nbD : b ≠ D1 := ne_of_none hb hD1
    refine lc_pure (walk_tup (xs := ys)) ys (fstOf H) rfl (fun i H x H' hi hy => hy) ly (fun acc => .inl (.inl (by rw [upd_ne nbD]; exact hb))) (fun j y hj hyj => ?_) ?_
    · obtain ⟨zs, hzs, hto⟩ := TupsAt.get hy hyj
      obtain ⟨k2, hk2, rfl⟩ := map_get hzs
      obtain ⟨t2, rfl, ht2⟩ := id hto
      have n2 : t2 ≠ D1 := ne_of_none ht2 hD1
      refine ⟨rfl, ?_⟩
      walk_at "ls"
      exact lc_yes hyj hj ly (fst_tup hto)
    rw [fst_all (fun a : V × V => a.1) (fun a => [a.2]) (l := ks) hy, ekn]
    refine at_heap (φ := fun H1 => Same H H1 ∧ H1 D1 = some (.lst (kn.map V.str))) ⟨same_new hD1, upd_same⟩ ?_
    rintro H1 ⟨s1, h1D⟩
    refine ⟨Nat.zero_le _, fun p hp => ?_⟩
    have s1p : Same H1 (upd H1 p (.lst [])) := same_new hp
    walk_at "ls"
    have hpn : H p = none := s1.free hp
    refine ⟨a, xs, H, rfl, ha, s1.trans s1p, fun J G' wk g0 gs => ?_⟩
    have lx : xs.length = cs.length := by rw [hx.len, List.length_map]
    refine for_it wk (fun i σ H2 => ∃ (fx : List V) (v2 v5 v6 v7 v8 : Option V) (zs : List Str), σ = [some (.ref a), some (.ref b), v2, some (.ref D1), some (.ref p), v5, v6, v7, v8, none] ∧ H2 p = some (.lst fx) ∧ TupsAt H2 fx ((cs.take i).map colU) ∧ Same H1 H2 ∧
        (cs.take i).map (·.1) = zs.map V.str ∧ colsErr kn [] cs = colsErr kn zs (cs.drop i))
      ⟨[], none, none, none, none, none, [], rfl, upd_same, .nil, s1p, rfl, rfl⟩ (fun i σ H2 _ ⟨_, _, _, _, _, _, _, _, _, _, s2, _⟩ => gs _ (s1.trans s2)) ?_ ?_
    · rintro i x σ Hz H2 hi ⟨fx, v2, v5, v6, v7, v8, zs, rfl, h2, h2t, s2, ez, ek⟩ ⟨rfl, hxi⟩
      have sH2 : Same H H2 := s1.trans s2
      obtain ⟨rs, hrs, t, rfl, hto⟩ := RowsAt.get (hx.same sH2) hxi
      obtain ⟨c, hc, rfl⟩ := map_get hrs
      have hcm : c ∈ cs := List.mem_of_getElem? hc
      obtain ⟨tg1, tg2, tg3, tg4⟩ := ht c hcm
      refine ⟨t, _, rfl, hto, rfl, _, _, rfl, _, _, rfl, _, _, rfl, _, _, rfl, rfl, ?_⟩
      have h2D := s2 _ _ h1D
      walk_at "ls"
      have lf : fx.length ≤ 1000 := by
        rw [h2t.len, List.length_map, List.length_take]
        omega
      have lz : fx.length < sizeLine := Nat.lt_of_le_of_lt lf (show 1000 < sizeLine by decide)
      -- names + [column[0] for column in found]
      refine ⟨⟨_, .inl (.inl h2)⟩, fun D hD => ?_⟩
      have npD : p ≠ D := ne_of_none h2 hD
      refine lc_pure (walk_list (xs := fx)) fx (fstOf H2) rfl (fun i H x H' hi hy => hy) lz (fun acc => .inl (.inl (by rw [upd_ne npD]; exact h2))) (fun j y hj hyj => ?_) ?_
      · obtain ⟨zs, hzs, hto⟩ := TupsAt.get h2t hyj
        obtain ⟨k2, hk2, rfl⟩ := map_get hzs
        obtain ⟨t2, rfl, ht2⟩ := id hto
        have n2 : t2 ≠ D := ne_of_none ht2 hD
        refine ⟨rfl, ?_⟩
        walk_at "ls"
        exact lc_yes hyj hj lz (fst_tup hto)
      rw [fst_all (fun a : Col => a.1) (fun a => [a.2.1, a.2.2.1, a.2.2.2]) (l := cs.take i) h2t, ez]
      have n1D : D1 ≠ D := ne_of_none h2D hD
      refine ⟨_, _, _, _, rfl, rfl, (by rw [upd_ne n1D]; exact h2D), upd_same, ?_, fun E1 hE1 => ?_⟩
      · have lzs : zs.length ≤ 1000 := by
          have z := congrArg List.length ez
          rw [List.length_map, List.length_map, List.length_take] at z
          omega
        rw [List.length_map, List.length_map]
        exact Nat.le_trans (show _ ≤ 2000 by omega) (show 2000 ≤ sizeLine by decide)
      have e1 := colsErr_step (kn := kn) (taken := zs) hc
      rw [ek, e1] at q
      unfold colErr at q
      have sE : Same H2 (upd (upd H2 D (.lst (zs.map V.str))) E1 (.lst (kn.map V.str ++ zs.map V.str))) := (same_new hD).trans (same_new hE1)
      simp only [tNil, List.set]
      refine free_of (ts := kn ++ zs) (tg1.same (sH2.trans sE)) (by rw [upd_same, List.map_append]) ?_
      cases hn : nameErr (kn ++ zs) c.1 with
      | some b =>
        rw [hn] at q
        exact nameE.go q (sH2.trans sE)
      | none =>
        rw [hn] at q
        simp only at q
        intro H3 s3
        obtain ⟨n1, n2⟩ := nameErr_none hn
        have s23 : Same H2 H3 := sE.trans s3
        have h3D := s23 _ _ h2D
        have h3 := s23 _ _ h2
        have sH3 : Same H H3 := sH2.trans s23
        -- for kind in (home, goal)
        walk_at "ls"
        refine ⟨(by show 2 ≤ sizeLine; decide), fun g hg => ?_⟩
        refine ⟨g, rfl, ⟨_, .inl (.inl upd_same)⟩, ?_⟩
        have n3g : D1 ≠ g := ne_of_none h3D hg
        have npg : p ≠ g := ne_of_none h3 hg
        have s3g : Same H3 (upd H3 g (.tup [c.2.1, c.2.2.1])) := same_new hg
        refine for_it (walk_tup (xs := [c.2.1, c.2.2.1])) (fun j σ H4 => ∃ v2 : Option V, σ = [some (.ref a), some (.ref b), v2, some (.ref D1), some (.ref p), some c.1, some c.2.1, some c.2.2.1, some c.2.2.2, none] ∧ H4 = upd H3 g (.tup [c.2.1, c.2.2.1]) ∧ (1 ≤ j → isWordV kn c.2.1 = true) ∧ (2 ≤ j → isWordV kn c.2.2.1 = true))
          ⟨v2, rfl, rfl, fun z => absurd z (by decide), fun z => absurd z (by decide)⟩ (fun j σ H4 _ ⟨_, _, e, _⟩ => .inl (.inl (by rw [e]; exact upd_same))) ?_ ?_
        · rintro j y σ Hy H4 hj ⟨v2, rfl, e4, w1, w2⟩ ⟨rfl, hyj⟩
          have sH4 : Same H H4 := by rw [e4]; exact sH3.trans s3g
          have hyt : Thg K H y := by
            match j, hj, hyj with
            | 0, _, h => rw [← Option.some.inj h]; exact tg2
            | 1, _, h => rw [← Option.some.inj h]; exact tg3
          walk_at "ls"
          refine ⟨y, D1, kn, rfl, hyt.same sH4, .inl (.inl (.inl (by rw [e4, upd_ne n3g]; exact h3D))), ?_⟩
          refine ⟨_, rfl, ?_⟩
          cases hw : isWordV kn y with
          | true =>
            refine iteF ⟨_, rfl, e4, fun _ => ?_, fun z => ?_⟩
            · match j, hj, hyj with
              | 0, _, h => rw [← Option.some.inj h] at hw; exact hw
              | 1, _, h => exact w1 (Nat.le_refl _)
            · match j, hj, hyj with
              | 0, _, h => exact absurd z (by decide)
              | 1, _, h => rw [← Option.some.inj h] at hw; exact hw
          | false =>
            refine iteT ?_
            walk_at "ls"
            have hE : oneE cK "kind" H E y := by
              match j, hj, hyj with
              | 0, _, h =>
                have e := Option.some.inj h
                change c.2.1 = y at e
                rw [e, hw, if_neg (by decide)] at q
                exact q
              | 1, _, h =>
                have e := Option.some.inj h
                change c.2.2.1 = y at e
                rw [w1 (Nat.le_refl _), if_pos rfl, e, hw, if_neg (by decide)] at q
                exact q
            exact fun d hd => hE _ d sH4 hd
        · rintro σ H4 ⟨v2, rfl, e4, w1, w2⟩
          rw [w1 (by show 1 ≤ 2; decide), w2 (Nat.le_refl _), if_pos rfl, if_pos rfl] at q
          have sH4 : Same H H4 := by rw [e4]; exact sH3.trans s3g
          walk_at "ls"
          refine ⟨_, aR, ruleW, rfl, tg4.same sH4, .inr (G.kRULES.sq _), ?_⟩
          refine ⟨_, rfl, ?_⟩
          cases hw : isWordV ruleW c.2.2.2 with
          | false =>
            rw [hw, if_neg (by decide)] at q
            refine iteT ?_
            walk_at "ls"
            exact fun d hd => q _ d sH4 hd
          | true =>
            rw [hw, if_pos rfl] at q
            simp only at q
            refine iteF ?_
            walk_at "ls"
            refine ⟨.inl ⟨rfl, _, .inl (.inl (show H4 p = some (.lst fx) by rw [e4, upd_ne npg]; exact h3))⟩, ?_⟩
            walk_at "ls"
            refine ⟨(by show 4 ≤ sizeLine; decide), fun t2 ht2 => ?_⟩
            have h4 : H4 p = some (.lst fx) := by rw [e4, upd_ne npg]; exact h3
            have npt : p ≠ t2 := ne_of_none h4 ht2
            have s24 : Same H2 H4 := s23.trans (by rw [e4]; exact same_new hg)
            have h4' : (upd H4 t2 (.tup [c.1, c.2.1, c.2.2.1, c.2.2.2])) p = some (.lst fx) := by rw [upd_ne npt]; exact h4
            refine ⟨_, _, _, rfl, rfl, h4', lz, fx ++ [.ref t2], _, _, _, _, _, zs ++ [strOf c.1], rfl, upd_same, ?_, ?_, ?_, ?_⟩
            · rw [List.take_add_one, hc, Option.toList_some, List.map_append]
              exact (h2t.keep (((TK.same s24).trans (.new ht2)).trans (.lst h4'))).snoc ⟨t2, rfl, by rw [upd_ne npt.symm]; exact upd_same⟩
            · exact Same.set ((s2.trans s24).trans (same_new ht2)) hp
            · rw [List.take_add_one, hc, Option.toList_some, List.map_append, ez, List.map_append, List.map_cons, List.map_cons, ← name_str n1]
              rfl
            · rw [ek, e1]
              unfold colErr
              rw [hn]
              simp only [w1 (show 1 ≤ 2 by decide), w2 (Nat.le_refl 2), hw, if_true]
    · rintro σ H2 ⟨fx, v2, v5, v6, v7, v8, zs, rfl, h2, h2t, s2, ez, ek⟩
      rw [lx, List.take_length] at h2t
      rw [lx, List.drop_length] at ek
      rw [ek] at q
      walk_at "ls"
      refine ⟨p, fx, rfl, .inl ⟨.inl (.inl h2), fun l hl => ?_⟩⟩
      exact q _ l fx upd_same (h2t.keep (.new hl)) ((s1.trans s2).trans (same_new hl))
end
end Ls
namespace Ls
open PySem PySem.Spec PyProof.Rows L2
/-! ### short steps -/
local macro_rules | `(tactic| walk_at "ls_ne") => `(tactic| first | assumption | exact Ne.symm (by assumption) | exact ne_of_none (by assumption) (by assumption) | exact Ne.symm (ne_of_none (by assumption) (by assumption)))
local macro_rules | `(tactic| walk_at "ls_hp") => `(tactic| first
  | with_reducible assumption
  | exact upd_same
  | exact Eq.trans (upd_ne (by walk_at "ls_ne")) (by walk_at "ls_hp"))
local macro_rules | `(tactic| walk_at "ls_st") => `(tactic| first
  | with_reducible assumption
  | exact Stm.upd (by walk_at "ls_st") (by first | walk_at "ls_ne" | exact (Stm.noneS (by assumption) (by assumption)).1) (by first | walk_at "ls_ne" | exact (Stm.noneS (by assumption) (by assumption)).2))
local macro_rules | `(tactic| walk_at "ls1") => `(tactic| first
  | refine ⟨_, rfl, ?_⟩
  | refine ⟨_, _, rfl, rfl, ?_⟩
  | refine ⟨_, _, _, _, rfl, rfl, .inl (.inl (by walk_at "ls_hp")), rfl, ?_⟩
  | refine ⟨_, _, _, _, rfl, rfl, (by walk_at "ls_hp"), rfl, ?_⟩
  | refine ⟨rfl, _, rfl, ?_⟩
  | refine ⟨.inl ⟨rfl, _, .inl (.inl (by walk_at "ls_hp"))⟩, ?_⟩)
local macro_rules | `(tactic| walk_at "ls") => `(tactic| repeat (walk_at "ls1"))

/-- the menu by the names -/
def menuU (kn cn : List Str) : List Str := (cn.flatMap (withN colW) ++ kn.flatMap (withN kindW)) ++ bookW
theorem menuU_len (kn cn : List Str) : (menuU kn cn).length = 5 * cn.length + 3 * kn.length + 2 := by
  unfold menuU
  rw [List.length_append, List.length_append, flat_len _ 5 (fun c => by rw [withN, List.length_map]; rfl), flat_len _ 3 (fun c => by rw [withN, List.length_map]; rfl)]
  rfl
theorem names_at {α : Type} {l : List (V × α)} {zs : List Str} (e : l.map (·.1) = zs.map V.str) {i : Nat} {c : V × α} (h : l[i]? = some c) : ∃ z, zs[i]? = some z ∧ c.1 = .str z := by
  have h2 : (l.map (·.1))[i]? = some c.1 := by rw [List.getElem?_map, h]; rfl
  rw [e] at h2
  obtain ⟨z, hz, ez⟩ := map_get h2
  exact ⟨z, hz, ez⟩
theorem flat_snocU {f : Str → List Str} {l : List Str} {i : Nat} {z : Str} (h : l[i]? = some z) : (l.take (i + 1)).flatMap f = (l.take i).flatMap f ++ f z := by
  rw [List.take_add_one, h, List.flatMap_append]
  simp
def onlyIn (ts : List Str) (v : V) : Option V := if inV v (ts.map V.str) = true then some v else none
theorem onlyIn_all (ts : List Str) : ∀ ys : List Str, (ys.map V.str).filterMap (onlyIn ts) = (ys.filter fun z => decide (z ∈ ts)).map V.str
  | [] => rfl
  | y :: r => by
    rw [List.map_cons, List.filterMap_cons, List.filter_cons, onlyIn_all ts r]
    unfold onlyIn
    rw [in_strs]
    by_cases h : y ∈ ts
    · simp [h]
    · simp [h]
section
variable {P : Program} {w : World} {K : PySem.W.Frag} {mg : Str → Option Value} {base : Heap}
/-! ### _menu_of -/
abbrev s__menu_of : Stmt := topS 25
theorem sc__menu_of : FnScope ["kinds", "columns", "found", "column", "kind", "word"] ["kinds", "columns"] (defScope s__menu_of) := ⟨rfl, rfl, rfl, by decide +kernel, rfl, by decide +kernel, by decide +kernel⟩
abbrev N__menu_of : List Str := ["kinds", "columns", "found", "column", "kind", "word"]
def spMenu : Sp := fun vs H Q _ => ∃ (a b : Addr) (xs ys : List V) (ks : List (V × V)) (cs : List Col) (kn cn : List Str), vs = [.ref a, .ref b] ∧ H a = some (.tup xs) ∧ TupsAt H xs (ks.map fun k => [k.1, k.2]) ∧ H b = some (.tup ys) ∧ TupsAt H ys (cs.map colU) ∧
  ks.map (·.1) = kn.map V.str ∧ cs.map (·.1) = cn.map V.str ∧ kn.length ≤ 1000 ∧ cn.length ≤ 1000 ∧ (∀ z ∈ kn, z.length ≤ 8) ∧ (∀ z ∈ cn, z.length ≤ 8) ∧
  ∀ (H' : Hp) (p : Addr), H' p = some (.tup ((menuU kn cn).map V.str)) → Same H H' → Q (.ref p) H'
theorem ok_menu {f : Addr} {fd : FuncData} {aR aC aK aB : Addr} {tS tL tN : Tok} (F : Fun K "_menu_of" "_menu_of" s__menu_of f fd) (T : Bt mg) (G : Gn K mg aR aC aK aB tS tL tN) : FnOk P w K mg base CX0 1 f fd ["kinds", "columns"] spMenu := by
  refine F.ok sc__menu_of (fun vs H Q E h => ?_) (fun cdv A outer s H vs Q E hr h => ?_)
  · obtain ⟨a, b, xs, ys, ks, cs, kn, cn, rfl, _⟩ := h
    rfl
  · obtain ⟨ka, ca, kx, cx, ks, cs, kn, cn, rfl, hka, hkt, hca, hct, ekn, ecn, lkn, lcn, nk, nc, q⟩ := h
    have lks : ks.length = kn.length := by
      have z := congrArg List.length ekn
      rw [List.length_map, List.length_map] at z
      exact z
    have lcs : cs.length = cn.length := by
      have z := congrArg List.length ecn
      rw [List.length_map, List.length_map] at z
      exact z
    have hu := hu_of hr
    refine ⟨_, (pss_cons (ps_set (i := 2) sc__menu_of.nd rfl (Or.inl rfl) (pe_lst pa_nil))
      (pss_cons (ps_for PassesOwn.never rfl (pi_tup (pv 1)) (pg_name (i := 3) sc__menu_of.nd rfl (Or.inr rfl)) (pss_one (ps_expr (pe_bm PySem.F.plainAttrs_list PySem.F.slot_list_extend PySem.F.type_list_extend mt_extend (pv 2) (pa_cons (pe_lc (own := [("word", 5)]) (g := gName 5) (by rfl) sc__menu_of.nd (pi_tup (glob_ref G.COLUMN_CHECKS)) (blkOk_by (own := [("word", 5)]) (N := N__menu_of) (sc := defScope s__menu_of) (by decide +kernel)) (fun _ _ _ _ _ => (pg_name (i := 5) sc__menu_of.nd rfl (Or.inl rfl) (Or.inr rfl))) (fun _ _ _ _ _ => pts_nil) (fun _ _ _ _ _ => (pe_op op_add_str (pe_op op_add_str (pv 5) pe_str) (pe_ix (ixT K) (pv 3) pe_int (fun _ _ => rfl))))) pa_nil)))))
      (pss_cons (ps_for PassesOwn.never rfl (pi_tup (pv 0)) (pg_name (i := 4) sc__menu_of.nd rfl (Or.inr rfl)) (pss_one (ps_expr (pe_bm PySem.F.plainAttrs_list PySem.F.slot_list_extend PySem.F.type_list_extend mt_extend (pv 2) (pa_cons (pe_lc (own := [("word", 5)]) (g := gName 5) (by rfl) sc__menu_of.nd (pi_tup (glob_ref G.KIND_CHECKS)) (blkOk_by (own := [("word", 5)]) (N := N__menu_of) (sc := defScope s__menu_of) (by decide +kernel)) (fun _ _ _ _ _ => (pg_name (i := 5) sc__menu_of.nd rfl (Or.inl rfl) (Or.inr rfl))) (fun _ _ _ _ _ => pts_nil) (fun _ _ _ _ _ => (pe_op op_add_str (pe_op op_add_str (pv 5) pe_str) (pe_ix (ixT K) (pv 4) pe_int (fun _ _ => rfl))))) pa_nil)))))
      (pss_cons (ps_expr (pe_bm PySem.F.plainAttrs_list PySem.F.slot_list_extend PySem.F.type_list_extend (mt_extK K) (pv 2) (pa_cons (glob_ref G.BOOK_CHECKS) pa_nil)))
      (pss_one (ps_ret (pe_callTy (tuple_of K) (by rfl) T.m_tuple (by decide +kernel) (pa_cons (pv 2) pa_nil)))))))), ?_⟩
    refine ⟨Nat.zero_le _, fun p hp => ?_⟩
    have s0 : Same H (upd H p (.lst [])) := same_new hp
    walk_at "ls"
    refine ⟨⟨_, .inl (.inl (s0 _ _ hca))⟩, ?_⟩
    refine for_it (walk_tup (xs := cx)) (fun i σ H1 => ∃ v : Option V, σ = [some (.ref ka), some (.ref ca), some (.ref p), v, none, none] ∧ H1 p = some (.lst (((cn.take i).flatMap (withN colW)).map V.str)) ∧ Same H H1)
      ⟨none, rfl, upd_same, s0⟩ (fun i σ H1 _ ⟨_, _, _, s1⟩ => .inl (.inl (s1 _ _ hca))) ?_ ?_
    · rintro i x σ Hz H1 hi ⟨v, rfl, h1, s1⟩ ⟨rfl, hx⟩
      obtain ⟨ys, hys, t, rfl, ht⟩ := TupsAt.get (hct.keep (.same s1)) hx
      obtain ⟨c, hc, rfl⟩ := map_get hys
      obtain ⟨z, hz, ecz⟩ := names_at ecn hc
      have hnm : z.length ≤ 8 := nc _ (List.mem_of_getElem? hz)
      unfold colU at ht
      rw [ecz] at ht
      walk_at "ls"
      refine ⟨⟨_, G.kCOL.sq _⟩, fun D hD => ?_⟩
      have npD : p ≠ D := ne_of_none h1 hD
      have ntD : t ≠ D := ne_of_none ht hD
      refine lc_pure (walk_tup (xs := colW.map V.str)) (colW.map V.str) (addN z) rfl (fun i H x H' hi hy => hy) (by decide +kernel) (fun acc => G.kCOL.sq _) (fun k y hk hy => ?_) ?_
      · obtain ⟨a, ha, rfl⟩ := map_get hy
        have hal : a.length ≤ 5 := colW_len a (List.mem_of_getElem? ha)
        refine ⟨rfl, ?_⟩
        walk_at "ls"
        refine ⟨room_str (m := 1) hal (by decide +kernel) (by decide), ?_⟩
        walk_at "ls"
        refine ⟨room_str (n := 6) (m := 8) (word_len hal) hnm (by decide), ?_⟩
        exact lc_yes hy hk (by decide +kernel) rfl
      rw [addN_all]
      refine ⟨_, _, _, _, rfl, rfl, (by rw [upd_ne npD]; exact h1), upd_same, ?_, ?_⟩
      · rw [List.length_map, List.length_map, flat_len _ 5 (fun c => by rw [withN, List.length_map]; rfl), withN, List.length_map, List.length_take]
        show 5 * _ + 5 ≤ sizeLine
        exact Nat.le_trans (by omega) (show 10000 ≤ sizeLine by decide)
      · refine ⟨_, rfl, ?_, ?_⟩
        · rw [upd_same, flat_snocU hz, List.map_append]
        · exact Same.set (s1.trans (same_new hD)) hp
    · rintro σ H1 ⟨v, rfl, h1, s1⟩
      have e1 : cn.take cx.length = cn := by
        have := hct.len
        rw [List.length_map] at this
        rw [this, lcs, List.take_length]
      rw [e1] at h1
      walk_at "ls"
      refine ⟨⟨_, .inl (.inl (s1 _ _ hka))⟩, ?_⟩
      refine for_it (walk_tup (xs := kx)) (fun i σ H1 => ∃ v v3 : Option V, σ = [some (.ref ka), some (.ref ca), some (.ref p), v, v3, none] ∧ H1 p = some (.lst ((cn.flatMap (withN colW) ++ (kn.take i).flatMap (withN kindW)).map V.str)) ∧ Same H H1)
        ⟨v, none, rfl, (by rw [List.take_zero, List.flatMap_nil, List.append_nil]; exact h1), s1⟩ (fun i σ H1 _ ⟨_, _, _, _, s1⟩ => .inl (.inl (s1 _ _ hka))) ?_ ?_
      · clear h1 s1 v
        rintro i x σ Hz H1 hi ⟨v, v3, rfl, h1, s1⟩ ⟨rfl, hx⟩
        obtain ⟨ys, hys, t, rfl, ht⟩ := TupsAt.get (hkt.keep (.same s1)) hx
        obtain ⟨c, hc, rfl⟩ := map_get hys
        obtain ⟨z, hz, ecz⟩ := names_at ekn hc
        have hnm : z.length ≤ 8 := nk _ (List.mem_of_getElem? hz)
        rw [ecz] at ht
        walk_at "ls"
        refine ⟨⟨_, G.kKIND.sq _⟩, fun D hD => ?_⟩
        have npD : p ≠ D := ne_of_none h1 hD
        have ntD : t ≠ D := ne_of_none ht hD
        refine lc_pure (walk_tup (xs := kindW.map V.str)) (kindW.map V.str) (addN z) rfl (fun i H x H' hi hy => hy) (by decide +kernel) (fun acc => G.kKIND.sq _) (fun k y hk hy => ?_) ?_
        · obtain ⟨a, ha, rfl⟩ := map_get hy
          have hal : a.length ≤ 5 := kindW_len a (List.mem_of_getElem? ha)
          refine ⟨rfl, ?_⟩
          walk_at "ls"
          refine ⟨room_str (m := 1) hal (by decide +kernel) (by decide), ?_⟩
          walk_at "ls"
          refine ⟨room_str (n := 6) (m := 8) (word_len hal) hnm (by decide), ?_⟩
          exact lc_yes hy hk (by decide +kernel) rfl
        rw [addN_all]
        refine ⟨_, _, _, _, rfl, rfl, (by rw [upd_ne npD]; exact h1), upd_same, ?_, ?_⟩
        · rw [List.length_map, List.length_append, List.length_map, flat_len _ 5 (fun c => by rw [withN, List.length_map]; rfl), flat_len _ 3 (fun c => by rw [withN, List.length_map]; rfl), withN, List.length_map, List.length_take]
          show 5 * _ + 3 * _ + 3 ≤ sizeLine
          exact Nat.le_trans (by omega) (show 10000 ≤ sizeLine by decide)
        · refine ⟨_, _, rfl, ?_, ?_⟩
          · rw [upd_same, flat_snocU hz, List.map_append, List.map_append, List.map_append, List.append_assoc]
          · exact Same.set (s1.trans (same_new hD)) hp
      · clear h1 s1 v
        rintro σ H1 ⟨v, v3, rfl, h1, s1⟩
        have e2 : kn.take kx.length = kn := by
          have := hkt.len
          rw [List.length_map] at this
          rw [this, lks, List.take_length]
        rw [e2] at h1
        walk_at "ls"
        have em : (cn.flatMap (withN colW) ++ kn.flatMap (withN kindW)).map V.str ++ bookW.map V.str = (menuU kn cn).map V.str := by
          unfold menuU
          rw [List.map_append (l₂ := bookW)]
        have lm : ((menuU kn cn).map V.str).length ≤ 10000 := by
          rw [List.length_map, menuU_len]
          omega
        refine ⟨_, _, _, _, rfl, rfl, h1, G.kBOOK, ?_, ?_⟩
        · rw [← List.length_append, em]
          exact Nat.le_trans lm (show 10000 ≤ sizeLine by decide)
        rw [em]
        have s2 : Same H (upd H1 p (.lst ((menuU kn cn).map V.str))) := Same.set s1 hp
        walk_at "ls"
        refine ⟨p, _, rfl, .inl ⟨.inl (.inl upd_same), fun l hl => ?_⟩⟩
        exact q _ l upd_same (s2.trans (same_new hl))
/-! ### _read_checks -/
abbrev s__read_checks : Stmt := topS 26
theorem sc__read_checks : FnScope ["checks", "menu", "given", "check"] ["checks", "menu"] (defScope s__read_checks) := ⟨rfl, rfl, rfl, by decide +kernel, rfl, by decide +kernel, by decide +kernel⟩
abbrev N__read_checks : List Str := ["checks", "menu", "given", "check"]
/-- the first check that is none -/
def checksErr (mn : List Str) (ck : List V) : Option V := ck.find? fun v => !isWordV mn v
theorem checks_strs {mn : List Str} : ∀ {ck : List V}, (∀ v ∈ ck, isWordV mn v = true) → ck = (ck.map strOf).map V.str
  | [], _ => rfl
  | v :: r, h => by
    rw [List.map_cons, List.map_cons, ← word_str (h v (.head _)), ← checks_strs fun u hu => h u (.tail _ hu)]
def spReadX (K : PySem.W.Frag) (cX : Addr) : Sp := fun vs H Q E => ∃ (a b : Addr) (ck : List V) (mn : List Str), vs = [.ref a, .ref b] ∧ SqU K H a ck ∧ (∀ v ∈ ck, Thg K H v) ∧ H b = some (.tup (mn.map V.str)) ∧ ck.length ≤ 1000 ∧ mn.length ≤ 10000 ∧
  match checksErr mn ck with
  | some v => oneE cX "check" H E v
  | none => ∀ (H' : Hp) (p : Addr), H' p = some (.tup ((mn.filter fun z => decide (z ∈ ck.map strOf)).map V.str)) → Same H H' → Q (.ref p) H'
theorem ok_readX {f : Addr} {fd : FuncData} {cX : Addr} (F : Fun K "_read_checks" "_read_checks" s__read_checks f fd) (T : Bt mg) (O_is_word_of : Own P w K mg base CX0 1 "is_word_of" ["thing", "words"] (spWord K))
    (O_UnknownCheck : OwnX P w K mg base "UnknownCheck" ["check"] (spI1 cX "check") cX) : FnOk P w K mg base (L2.CX P w) 4 f fd ["checks", "menu"] (spReadX K cX) := by
  refine F.okX sc__read_checks (fun vs H Q E h => ?_) (fun cdv A outer s H vs Q E hr h => ?_)
  · obtain ⟨a, b, ck, mn, rfl, _⟩ := h
    rfl
  · obtain ⟨a, b, ck, mn, rfl, ha, ht, hb, lc, lm, q⟩ := h
    have hu := hu_of hr
    refine ⟨_, (pss_cons (ps_set (i := 2) sc__read_checks.nd rfl (Or.inr rfl) (pe_callTy (list_of K) (by rfl) T.m_list (by decide +kernel) (pa_cons (pv 0) pa_nil)))
      (pss_cons (ps_for own_def rfl (pi_list (pv 2)) (pg_name (i := 3) sc__read_checks.nd rfl (Or.inl rfl)) (pss_one (ps_if (pt_not (pt_val (own_call O_is_word_of hr (by first | decide | omega) (pa_cons (pv 3) (pa_cons (pv 1) pa_nil))))) (pss_one (ps_err rfl takes_def (pmk_err1 O_UnknownCheck (hr.mono (by decide)) (pa_cons (pv 3) pa_nil)))) pss_nil)))
      (pss_one (ps_ret (pe_callTy (tuple_of K) (by rfl) T.m_tuple (by decide +kernel) (pa_cons (pe_lc (own := [("check", 3)]) (g := gName 3) (by rfl) sc__read_checks.nd (pi_tup (pv 1)) (blkOk_by (own := [("check", 3)]) (N := N__read_checks) (sc := defScope s__read_checks) (by decide +kernel)) (fun _ _ _ _ _ => (pg_name (i := 3) sc__read_checks.nd rfl (Or.inl rfl) (Or.inr rfl))) (fun _ _ _ _ _ => (pts_one (pt_cmpR (in_seq K) (pv 3) (pv 2) (by rfl)))) (fun _ _ _ _ _ => (pv 3))) pa_nil)))))), ?_⟩
    walk_at "ls"
    refine ⟨a, ck, rfl, ha, fun g hg => ?_⟩
    have s0 : Same H (upd H g (.lst ck)) := same_new hg
    walk_at "ls"
    refine ⟨⟨_, .inl (.inl upd_same)⟩, ?_⟩
    refine for_it (walk_list (xs := ck)) (fun i σ H1 => ∃ v : Option V, σ = [some (.ref a), some (.ref b), some (.ref g), v] ∧ H1 = upd H g (.lst ck) ∧ ∀ u ∈ ck.take i, isWordV mn u = true)
      ⟨none, rfl, rfl, fun u hu => by rw [List.take_zero] at hu; cases hu⟩ (fun i σ H1 _ ⟨_, _, e, _⟩ => .inl (.inl (by rw [e]; exact upd_same))) ?_ ?_
    · rintro i x σ Hz H1 hi ⟨v, rfl, e1, hw⟩ ⟨rfl, hx⟩
      have sH : Same H H1 := by rw [e1]; exact s0
      walk_at "ls"
      refine ⟨x, b, mn, rfl, (ht x (List.mem_of_getElem? hx)).same sH, .inr (.inl (.inl (sH _ _ hb))), ?_⟩
      refine ⟨_, rfl, ?_⟩
      cases hx1 : isWordV mn x with
      | true =>
        refine iteF ⟨_, rfl, e1, fun u hu => ?_⟩
        rw [List.take_add_one, hx] at hu
        rcases List.mem_append.mp hu with hu | hu
        · exact hw u hu
        · have e := List.mem_singleton.mp hu
          rw [e]
          exact hx1
      | false =>
        refine iteT ?_
        walk_at "ls"
        have e : checksErr mn ck = some x := by
          unfold checksErr
          rw [← List.take_append_drop i ck, List.find?_append, List.find?_eq_none.mpr (fun u hu => by rw [hw u hu]; decide)]
          obtain ⟨hi2, e2⟩ := List.getElem?_eq_some_iff.mp hx
          rw [List.drop_eq_getElem_cons hi2, e2, List.find?_cons, hx1]
          rfl
        rw [e] at q
        exact fun d hd => q _ d sH hd
    · rintro σ H1 ⟨v, rfl, e1, hw⟩
      subst e1
      rw [List.take_length] at hw
      have e : checksErr mn ck = none := List.find?_eq_none.mpr fun u hu => by rw [hw u hu]; decide
      rw [e] at q
      have es := checks_strs hw
      generalize ck.map strOf = cz at es q
      subst es
      walk_at "ls"
      have hb1 := s0 _ _ hb
      refine ⟨⟨_, .inl (.inl hb1)⟩, fun D hD => ?_⟩
      have nbD : b ≠ D := ne_of_none hb1 hD
      have ngD : g ≠ D := ne_of_none upd_same hD
      have lz : (mn.map V.str).length < sizeLine := Nat.lt_of_le_of_lt (by rw [List.length_map]; exact lm) (show 10000 < sizeLine by decide)
      refine lc_pure (walk_tup (xs := mn.map V.str)) (mn.map V.str) (onlyIn cz) rfl (fun i H x H' hi hy => hy) lz (fun acc => .inl (.inl (by rw [upd_ne nbD]; exact hb1))) (fun k y hk hy => ?_) ?_
      · obtain ⟨z, hz, rfl⟩ := map_get hy
        refine ⟨rfl, ?_⟩
        walk_at "ls"
        refine ⟨g, _, rfl, .inl (.inl (.inl (by rw [upd_ne ngD]; exact upd_same))), rfl, all_flat cz, _, rfl, ?_⟩
        show if inV (V.str z) (cz.map V.str) = true then _ else _
        rw [in_strs]
        refine ite2 (fun e => ?_) (fun e => ?_)
        · walk_at "ls"
          exact lc_yes hy hk lz (by unfold onlyIn; rw [in_strs]; simpa using e)
        · exact lc_no hy (by unfold onlyIn; rw [in_strs]; simpa using e)
      rw [onlyIn_all]
      refine ⟨D, _, rfl, .inl ⟨.inl (.inl upd_same), fun l hl => ?_⟩⟩
      exact q _ l upd_same ((s0.trans (same_new hD)).trans (same_new hl))
end
end Ls
namespace Ls
open PySem PySem.Spec PyProof.Rows L2
/-! ### short steps -/
local macro_rules | `(tactic| walk_at "ls_ne") => `(tactic| first | assumption | exact Ne.symm (by assumption) | exact ne_of_none (by assumption) (by assumption) | exact Ne.symm (ne_of_none (by assumption) (by assumption)))
local macro_rules | `(tactic| walk_at "ls_hp") => `(tactic| first
  | with_reducible assumption
  | exact upd_same
  | exact Eq.trans (upd_ne (by walk_at "ls_ne")) (by walk_at "ls_hp"))
local macro_rules | `(tactic| walk_at "ls_st") => `(tactic| first
  | with_reducible assumption
  | exact Stm.upd (by walk_at "ls_st") (by first | walk_at "ls_ne" | exact (Stm.noneS (by assumption) (by assumption)).1) (by first | walk_at "ls_ne" | exact (Stm.noneS (by assumption) (by assumption)).2))
local macro_rules | `(tactic| walk_at "ls1") => `(tactic| first
  | refine ⟨_, rfl, ?_⟩
  | refine ⟨_, _, rfl, rfl, ?_⟩
  | refine ⟨_, _, _, _, rfl, rfl, .inl (.inl (by walk_at "ls_hp")), rfl, ?_⟩
  | refine ⟨_, _, _, _, rfl, rfl, (by walk_at "ls_hp"), rfl, ?_⟩
  | refine ⟨rfl, _, rfl, ?_⟩
  | refine ⟨.inl ⟨rfl, _, .inl (.inl (by walk_at "ls_hp"))⟩, ?_⟩)
local macro_rules | `(tactic| walk_at "ls") => `(tactic| repeat (walk_at "ls1"))

/-- as FunE.ok, for a def that may raise -/
theorem FunE.okX {P : Program} {w : World} {K : PySem.W.Frag} {mg : Str → Option Value} {base : Heap} {x qual : Str} {st : Stmt} {f : Addr} {fd : FuncData} {N ps : List Str} {k : Nat} {sp : Sp} (F : FunE K x qual st f fd) (S : FnScope N ps (defScope st))
    (len : ∀ vs H Q E, sp vs H Q E → vs.length = ps.length)
    (body : ∀ (cdv : Value) (A : Around) (outer : List Env) (s : Shared) (H : Hp) (vs : List V) (Q : VK) (E : XK), Room k (A.deeper (envOfC qual (defScope st) s.heap.objs.size f cdv)) → sp vs H Q E →
      ∃ t, PSs (cxOf (L2.CX P w) P w K mg base N qual (defScope st) f cdv A outer s H E) (defBody st) t ∧ t { nx := fun _ H' => Q .non H', rt := Q } (start N vs) H) : FnOk P w K mg base (L2.CX P w) (k + 1) f fd ps sp := by
  obtain ⟨oc, od, dV, kV, doc, pm, an, cdv, ct, osl, rfl, lk, hcd⟩ := F.ex
  exact fn_of lk hcd S len fun A outer s H vs Q E hr hsp => body cdv A outer s H vs Q E hr hsp
/-! ### a book -/
def bookF (k c m x : Addr) : List (Str × V) := putF "_checks" (.ref x) (putF "_menu" (.ref m) (putF "_columns" (.ref c) (putF "_kinds" (.ref k) [])))
theorem b12 : ¬ (("_kinds" : Str) = "_columns") := by decide +kernel
theorem b13 : ¬ (("_kinds" : Str) = "_menu") := by decide +kernel
theorem b14 : ¬ (("_kinds" : Str) = "_checks") := by decide +kernel
theorem b23 : ¬ (("_columns" : Str) = "_menu") := by decide +kernel
theorem b24 : ¬ (("_columns" : Str) = "_checks") := by decide +kernel
theorem b34 : ¬ (("_menu" : Str) = "_checks") := by decide +kernel
theorem bookF_k {k c m x : Addr} : (bookF k c m x).lookup ("_kinds" : Str) = some (.ref k) := by
  unfold bookF
  rw [lookup_putF, if_neg b14, lookup_putF, if_neg b13, lookup_putF, if_neg b12, lookup_putF, if_pos rfl]
theorem bookF_c {k c m x : Addr} : (bookF k c m x).lookup ("_columns" : Str) = some (.ref c) := by
  unfold bookF
  rw [lookup_putF, if_neg b24, lookup_putF, if_neg b23, lookup_putF, if_pos rfl]
theorem bookF_m {k c m x : Addr} : (bookF k c m x).lookup ("_menu" : Str) = some (.ref m) := by
  unfold bookF
  rw [lookup_putF, if_neg b34, lookup_putF, if_pos rfl]
theorem bookF_x {k c m x : Addr} : (bookF k c m x).lookup ("_checks" : Str) = some (.ref x) := by
  unfold bookF
  rw [lookup_putF, if_pos rfl]
theorem bookF_no {k c m x : Addr} {f : Str} (h1 : ¬ f = "_checks") (h2 : ¬ f = "_menu") (h3 : ¬ f = "_columns") (h4 : ¬ f = "_kinds") : (bookF k c m x).lookup f = none := by
  unfold bookF
  rw [lookup_putF, if_neg h1, lookup_putF, if_neg h2, lookup_putF, if_neg h3, lookup_putF, if_neg h4]
  rfl
def knOf (ks : List (V × V)) : List Str := ks.map fun k => strOf k.1
def cnOf (cs : List Col) : List Str := cs.map fun c => strOf c.1
/-- at o: a book with the kinds ks, the columns cs, the checks ck -/
structure BookU (C : Addr) (H : Hp) (o : Addr) (ks : List (V × V)) (cs : List Col) (ck : List Str) : Prop where
  ex : ∃ (dx k c m x : Addr) (kx cx : List V), H o = some (.ins C dx (bookF k c m x)) ∧ H k = some (.tup kx) ∧ TupsAt H kx (ks.map fun k => [k.1, k.2]) ∧ H c = some (.tup cx) ∧ TupsAt H cx (cs.map colU) ∧
    H m = some (.tup ((menuU (knOf ks) (cnOf cs)).map V.str)) ∧ H x = some (.tup (ck.map V.str))
theorem BookU.same {C : Addr} {H H' : Hp} {o : Addr} {ks : List (V × V)} {cs : List Col} {ck : List Str} (h : BookU C H o ks cs ck) (s : Same H H') : BookU C H' o ks cs ck := by
  obtain ⟨dx, k, c, m, x, kx, cx, h1, h2, h3, h4, h5, h6, h7⟩ := h
  exact ⟨dx, k, c, m, x, kx, cx, s _ _ h1, s _ _ h2, h3.keep (.same s), s _ _ h4, h5.keep (.same s), s _ _ h6, s _ _ h7⟩
/-- what is asked of the class -/
structure BkT (K : PySem.W.Frag) (C : Addr) : Prop where
  cl : Cls K C
  nk : NoAttr K C "_kinds"
  nc : NoAttr K C "_columns"
  nm : NoAttr K C "_menu"
  nx : NoAttr K C "_checks"
/-! ### what is wrong of a book's parts -/
inductive BkE
  | col (e : ColE)
  | check (v : V)
structure ErrA where
  name : Addr
  used : Addr
  kind : Addr
  rule : Addr
  check : Addr
/-- its class, its field, its value -/
def BkE.what (A : ErrA) : BkE → Addr × Str × V
  | .col (.name b v) => (if b = true then A.used else A.name, "name", v)
  | .col (.kind v) => (A.kind, "kind", v)
  | .col (.rule v) => (A.rule, "rule", v)
  | .check v => (A.check, "check", v)
def bookErr (ks : List (V × V)) (cs : List Col) (ck : List V) : Option BkE := match kindsErr [] ks with
  | some e => some (.col (.name e.1 e.2))
  | none => match colsErr (knOf ks) [] cs with
    | some e => some (.col e)
    | none => match checksErr (menuU (knOf ks) (cnOf cs)) ck with
      | some v => some (.check v)
      | none => none
theorem kinds_good : ∀ {ks : List (V × V)} {taken : List Str}, kindsErr taken ks = none → ks.map (·.1) = (knOf ks).map V.str ∧ ∀ z ∈ knOf ks, isNameB z = true
  | [], _, _ => ⟨rfl, fun z hz => by cases hz⟩
  | k :: r, taken, h => by
    unfold kindsErr at h
    cases hn : nameErr taken k.1 with
    | some b => rw [hn] at h; cases h
    | none =>
      rw [hn] at h
      obtain ⟨e, g⟩ := kinds_good h
      obtain ⟨n1, _⟩ := nameErr_none hn
      have ek := name_str n1
      refine ⟨?_, fun z hz => ?_⟩
      · show k.1 :: r.map (·.1) = V.str (strOf k.1) :: (knOf r).map V.str
        rw [← ek, e]
      · rcases List.mem_cons.mp hz with rfl | hz
        · rw [ek] at n1
          exact n1
        · exact g z hz
theorem cols_good {kn : List Str} : ∀ {cs : List Col} {taken : List Str}, colsErr kn taken cs = none → cs.map (·.1) = (cnOf cs).map V.str ∧ ∀ z ∈ cnOf cs, isNameB z = true
  | [], _, _ => ⟨rfl, fun z hz => by cases hz⟩
  | c :: r, taken, h => by
    unfold colsErr at h
    cases hc : colErr kn taken c with
    | some b => rw [hc] at h; cases h
    | none =>
      rw [hc] at h
      obtain ⟨e, g⟩ := cols_good h
      unfold colErr at hc
      cases hn : nameErr (kn ++ taken) c.1 with
      | some b => rw [hn] at hc; cases hc
      | none =>
        obtain ⟨n1, _⟩ := nameErr_none hn
        have ek := name_str n1
        refine ⟨?_, fun z hz => ?_⟩
        · show c.1 :: r.map (·.1) = V.str (strOf c.1) :: (cnOf r).map V.str
          rw [← ek, e]
        · rcases List.mem_cons.mp hz with rfl | hz
          · rw [ek] at n1
            exact n1
          · exact g z hz
theorem name_len {z : Str} (h : isNameB z = true) : z.length ≤ 8 := by
  unfold isNameB at h
  simp only [Bool.and_eq_true, decide_eq_true_eq] at h
  exact h.1.2.2
/-! ### all but o stays -/
def But (o : Addr) (H H' : Hp) : Prop := ∀ b u, b ≠ o → H b = some u → H' b = some u
theorem But.same {o : Addr} {H H' : Hp} (s : Same H H') : But o H H' := fun b u _ e => s b u e
theorem But.trans {o : Addr} {H H1 H2 : Hp} (a : But o H H1) (b : But o H1 H2) : But o H H2 := fun c u h e => b c u h (a c u h e)
theorem But.set {o : Addr} {H : Hp} {u : HO} : But o H (upd H o u) := fun b u h e => by rw [upd_ne h]; exact e
theorem But.tk {o C dx : Addr} {H H' : Hp} {fs : List (Str × V)} (b : But o H H') (h : H o = some (.ins C dx fs)) : TK H H' := fun t ys e => b t _ (ne_of e h fun z => nomatch z) e
/-- .. and o stays an instance -/
structure ButI (o C dx : Addr) (H H' : Hp) : Prop where
  but : But o H H'
  was : ∃ fs, H o = some (.ins C dx fs)
  is : ∃ fs, H' o = some (.ins C dx fs)
section
variable {K : PySem.W.Frag} {o C dx a : Addr} {H H' : Hp} {xs : List V} {v : V} {t : Value}
theorem ButI.rd (b : ButI o C dx H H') {u : HO} (hu : ∀ C dx fs, u ≠ .ins C dx fs) (h : Rd H a u) : Rd H' a u := by
  obtain ⟨fs, hw⟩ := b.was
  rcases h with h | ⟨ob, h⟩
  · exact .inl (b.but _ _ (ne_of h hw (hu _ _ _)) h)
  · exact .inr ⟨ob, b.but _ _ (ne_of h hw fun z => nomatch z) h⟩
theorem ButI.sqU (b : ButI o C dx H H') (h : SqU K H a xs) : SqU K H' a xs :=
  h.elim (fun z => .inl (z.elim (fun y => .inl (b.rd (fun _ _ _ z => nomatch z) y)) .inr)) fun z => .inr (z.elim (fun y => .inl (b.rd (fun _ _ _ z => nomatch z) y)) .inr)
theorem ButI.rows (b : ButI o C dx H H') : ∀ {xs : List V} {yss : List (List V)}, RowsAt K H xs yss → RowsAt K H' xs yss
  | _, _, .nil => .nil
  | _, _, .cons ⟨t, e, q⟩ r => .cons ⟨t, e, b.sqU q⟩ (ButI.rows b r)
theorem ButI.ty (b : ButI o C dx H H') (h : TyX K H v t) : TyX K H' v t := by
  obtain ⟨fs, hw⟩ := id b.was
  have k : ∀ {a : Addr} {u : HO}, (∀ C dx fs, u ≠ .ins C dx fs) → H a = some u → H' a = some u := fun {a u} n e => b.but _ _ (ne_of e hw (n _ _ _)) e
  cases h with
  | base h =>
    refine .base ?_
    cases h with
    | non => exact .non
    | bl x => exact .bl x
    | int i => exact .int i
    | str x => exact .str x
    | flt x => exact .flt x
    | lst e => exact .lst (k (fun _ _ _ z => nomatch z) e)
    | frz e => exact .frz (k (fun _ _ _ z => nomatch z) e)
    | tup e => exact .tup (k (fun _ _ _ z => nomatch z) e)
    | dK e => exact .dK (k (fun _ _ _ z => nomatch z) e)
    | dT e => exact .dT (k (fun _ _ _ z => nomatch z) e)
    | @ins a2 C2 dx2 fs2 e cl ha hn htk hm =>
      by_cases hb : a2 = o
      · subst hb
        rw [hw] at e
        cases e
        obtain ⟨fs3, hi⟩ := b.is
        exact .ins hi cl ha hn htk hm
      · exact .ins (b.but _ _ hb e) cl ha hn htk hm
  | byt x => exact .byt x
  | set e => exact .set (k (fun _ _ _ z => nomatch z) e)
  | kList e c => exact .kList e c
  | kTuple e c => exact .kTuple e c
  | kDict e c => exact .kDict e c
  | fTuple e => exact .fTuple (k (fun _ _ _ z => nomatch z) e)
  | fDict e => exact .fDict (k (fun _ _ _ z => nomatch z) e)
theorem ButI.thg (b : ButI o C dx H H') (h : Thg K H v) : Thg K H' v := h.elim .inl fun ⟨⟨t, x, y⟩, z⟩ => .inr ⟨⟨t, b.ty x, y⟩, z⟩
end
section
variable {P : Program} {w : World} {K : PySem.W.Frag} {mg : Str → Option Value} {base : Heap}
/-! ### Book.__init__ -/
abbrev s_Book_init : Stmt := inClass (topS 20) 0
theorem sc_Book_init : FnScope ["self", "kinds", "columns", "checks"] ["self", "kinds", "columns", "checks"] (defScope s_Book_init) := ⟨rfl, rfl, rfl, by decide +kernel, rfl, by decide +kernel, by decide +kernel⟩
abbrev N_Book_init : List Str := ["self", "kinds", "columns", "checks"]
def spInit (K : PySem.W.Frag) (C : Addr) (A : ErrA) : Sp := fun vs H Q E => ∃ (o dx ka ca xa : Addr) (kx cx ck : List V) (ks : List (V × V)) (cs : List Col), vs = [.ref o, .ref ka, .ref ca, .ref xa] ∧ H o = some (.ins C dx []) ∧
  SqU K H ka kx ∧ RowsAt K H kx (ks.map fun k => [k.1, k.2]) ∧ SqU K H ca cx ∧ RowsAt K H cx (cs.map colU) ∧ SqU K H xa ck ∧ (∀ k ∈ ks, Thg K H k.1) ∧ (∀ c ∈ cs, Thg K H c.1 ∧ Thg K H c.2.1 ∧ Thg K H c.2.2.1 ∧ Thg K H c.2.2.2) ∧ (∀ v ∈ ck, Thg K H v) ∧
  ks.length ≤ 1000 ∧ cs.length ≤ 1000 ∧ ck.length ≤ 1000 ∧
  match bookErr ks cs ck with
  | some e => ∀ H' d, But o H H' → H' d = none → E (.ref (e.what A).1) (some d) (upd H' d (.xd [((e.what A).2.1, (e.what A).2.2)]))
  | none => ∀ H' : Hp, BookU C H' o ks cs ((menuU (knOf ks) (cnOf cs)).filter fun z => decide (z ∈ ck.map strOf)) → But o H H' → Q .non H'
theorem ok_init {C : Addr} {A : ErrA} {f : Addr} {fd : FuncData} (F : FunE K "__init__" "Book.__init__" s_Book_init f fd) (T : BkT K C) (O__read_kinds : OwnR P w K mg base 4 "_read_kinds" ["kinds"] (spReadK K A.name A.used)) (O__read_columns : OwnR P w K mg base 4 "_read_columns" ["columns", "kinds"] (spReadC K A.name A.used A.kind A.rule))
    (O__menu_of : Own P w K mg base CX0 1 "_menu_of" ["kinds", "columns"] spMenu) (O__read_checks : OwnR P w K mg base 4 "_read_checks" ["checks", "menu"] (spReadX K A.check)) : FnOk P w K mg base (L2.CX P w) 5 f fd ["self", "kinds", "columns", "checks"] (spInit K C A) := by
  refine F.okX sc_Book_init (fun vs H Q E h => ?_) (fun cdv A' outer s H vs Q E hr h => ?_)
  · obtain ⟨o, dx, ka, ca, xa, kx, cx, ck, ks, cs, rfl, _⟩ := h
    rfl
  · obtain ⟨o, dx, ka, ca, xa, kx, cx, ck, ks, cs, rfl, ho, hka, hkt, hca, hct, hxa, tk, tc, tx, lk, lc, lx, q⟩ := h
    have hu := hu_of hr
    refine ⟨_, (pss_cons (ps_fld (pv 0) (own_callR O__read_kinds hr (by first | decide | omega) takes_def (pa_cons (pv 1) pa_nil)) rfl)
      (pss_cons (ps_fld (pv 0) (own_callR O__read_columns hr (by first | decide | omega) takes_def (pa_cons (pv 2) (pa_cons (pe_fld (pv 0) rfl) pa_nil))) rfl)
      (pss_cons (ps_fld (pv 0) (own_call O__menu_of hr (by first | decide | omega) (pa_cons (pe_fld (pv 0) rfl) (pa_cons (pe_fld (pv 0) rfl) pa_nil))) rfl)
      (pss_one (ps_fld (pv 0) (own_callR O__read_checks hr (by first | decide | omega) takes_def (pa_cons (pv 3) (pa_cons (pe_fld (pv 0) rfl) pa_nil))) rfl))))), ?_⟩
    unfold bookErr at q
    walk_at "ls"
    refine ⟨ka, kx, ks, rfl, hka, hkt, tk, lk, ?_⟩
    cases hk : kindsErr [] ks with
    | some e =>
      rw [hk] at q
      exact fun H' d s' n => q H' d (.same s') n
    | none =>
    rw [hk] at q
    simp only at q
    obtain ⟨ekn, gkn⟩ := kinds_good hk
    intro H1 k ys h1k h1t s1
    have h1o := s1 _ _ ho
    refine ⟨_, rfl, o, C, dx, [], rfl, h1o, T.cl, T.nk, (by show 0 < 1000; decide), ?_⟩
    refine at_heap (φ := fun H2 => H2 o = some (.ins C dx (putF "_kinds" (.ref k) [])) ∧ But o H H2 ∧ H2 k = some (.tup ys) ∧ TupsAt H2 ys (ks.map fun k => [k.1, k.2]))
      ⟨upd_same, (But.same s1).trans .set, But.set (o := o) _ _ (ne_of h1k h1o fun z => nomatch z) h1k, h1t.keep ((But.set (o := o)).tk h1o)⟩ ?_
    rintro H2 ⟨h2o, bt2, h2k, h2t⟩
    have bi2 : ButI o C dx H H2 := ⟨bt2, ⟨_, ho⟩, ⟨_, h2o⟩⟩
    walk_at "ls"
    have l1 : (putF "_kinds" (.ref k) []).lookup ("_kinds" : Str) = some (V.ref k) := by rw [lookup_putF, if_pos rfl]
    refine ⟨o, C, dx, _, _, rfl, h2o, T.cl, T.nk, l1, ?_⟩
    refine ⟨ca, k, cx, ys, cs, ks, knOf ks, rfl, bi2.sqU hca, bi2.rows hct, h2k, h2t, ekn, fun c hc => ?_, lc, lk, ?_⟩
    · obtain ⟨a, b, c', d⟩ := tc c hc
      exact ⟨bi2.thg a, bi2.thg b, bi2.thg c', bi2.thg d⟩
    cases hc : colsErr (knOf ks) [] cs with
    | some e =>
      rw [hc] at q
      cases e with
      | name b v => exact fun H' d s' n => q H' d (bt2.trans (.same s')) n
      | kind v => exact fun H' d s' n => q H' d (bt2.trans (.same s')) n
      | rule v => exact fun H' d s' n => q H' d (bt2.trans (.same s')) n
    | none =>
    rw [hc] at q
    simp only at q
    obtain ⟨ecn, gcn⟩ := cols_good hc
    intro H3 c zs h3c h3t s3
    have h3o := s3 _ _ h2o
    refine ⟨_, rfl, o, C, dx, _, rfl, h3o, T.cl, T.nc, (by show 1 < 1000; decide), ?_⟩
    have set3 : But o H3 (upd H3 o (.ins C dx (putF "_columns" (.ref c) (putF "_kinds" (.ref k) [])))) := .set
    refine at_heap (φ := fun H4 => H4 o = some (.ins C dx (putF "_columns" (.ref c) (putF "_kinds" (.ref k) []))) ∧ But o H H4 ∧ H4 k = some (.tup ys) ∧ TupsAt H4 ys (ks.map fun k => [k.1, k.2]) ∧ H4 c = some (.tup zs) ∧ TupsAt H4 zs (cs.map colU))
      ⟨upd_same, (bt2.trans (.same s3)).trans set3, set3 _ _ (ne_of (s3 _ _ h2k) h3o fun z => nomatch z) (s3 _ _ h2k), (h2t.keep (.same s3)).keep (set3.tk h3o), set3 _ _ (ne_of h3c h3o fun z => nomatch z) h3c, h3t.keep (set3.tk h3o)⟩ ?_
    clear h1k h1t s1 h1o h2k h2t h3c h3t s3 h3o set3 h2o bt2 bi2 l1
    rintro H4 ⟨h4o, bt4, h4k, h4kt, h4c, h4ct⟩
    have l1 : (putF "_columns" (.ref c) (putF "_kinds" (.ref k) [])).lookup ("_kinds" : Str) = some (V.ref k) := by rw [lookup_putF, if_neg b12, lookup_putF, if_pos rfl]
    have l2 : (putF "_columns" (.ref c) (putF "_kinds" (.ref k) [])).lookup ("_columns" : Str) = some (V.ref c) := by rw [lookup_putF, if_pos rfl]
    walk_at "ls"
    refine ⟨o, C, dx, _, _, rfl, h4o, T.cl, T.nk, l1, ?_⟩
    walk_at "ls"
    refine ⟨o, C, dx, _, _, rfl, h4o, T.cl, T.nc, l2, ?_⟩
    refine ⟨k, c, ys, zs, ks, cs, knOf ks, cnOf cs, rfl, h4k, h4kt, h4c, h4ct, ekn, ecn, (by unfold knOf; rw [List.length_map]; exact lk), (by unfold cnOf; rw [List.length_map]; exact lc), fun z hz => name_len (gkn z hz), fun z hz => name_len (gcn z hz), fun H5 m h5m s5 => ?_⟩
    have h5o := s5 _ _ h4o
    refine ⟨_, rfl, o, C, dx, _, rfl, h5o, T.cl, T.nm, (by show 2 < 1000; decide), ?_⟩
    have set5 : But o H5 (upd H5 o (.ins C dx (putF "_menu" (.ref m) (putF "_columns" (.ref c) (putF "_kinds" (.ref k) []))))) := .set
    refine at_heap (φ := fun H6 => H6 o = some (.ins C dx (putF "_menu" (.ref m) (putF "_columns" (.ref c) (putF "_kinds" (.ref k) [])))) ∧ But o H H6 ∧ H6 k = some (.tup ys) ∧ TupsAt H6 ys (ks.map fun k => [k.1, k.2]) ∧ H6 c = some (.tup zs) ∧ TupsAt H6 zs (cs.map colU) ∧ H6 m = some (.tup ((menuU (knOf ks) (cnOf cs)).map V.str)))
      ⟨upd_same, (bt4.trans (.same s5)).trans set5, set5 _ _ (ne_of (s5 _ _ h4k) h5o fun z => nomatch z) (s5 _ _ h4k), (h4kt.keep (.same s5)).keep (set5.tk h5o), set5 _ _ (ne_of (s5 _ _ h4c) h5o fun z => nomatch z) (s5 _ _ h4c), (h4ct.keep (.same s5)).keep (set5.tk h5o), set5 _ _ (ne_of h5m h5o fun z => nomatch z) h5m⟩ ?_
    clear h4o bt4 h4k h4kt h4c h4ct l1 l2 h5m s5 h5o set5
    rintro H6 ⟨h6o, bt6, h6k, h6kt, h6c, h6ct, h6m⟩
    have bi6 : ButI o C dx H H6 := ⟨bt6, ⟨_, ho⟩, ⟨_, h6o⟩⟩
    have l3 : (putF "_menu" (.ref m) (putF "_columns" (.ref c) (putF "_kinds" (.ref k) []))).lookup ("_menu" : Str) = some (V.ref m) := by rw [lookup_putF, if_pos rfl]
    walk_at "ls"
    refine ⟨o, C, dx, _, _, rfl, h6o, T.cl, T.nm, l3, ?_⟩
    have lm : (menuU (knOf ks) (cnOf cs)).length ≤ 10000 := by
      rw [menuU_len]
      unfold knOf cnOf
      rw [List.length_map, List.length_map]
      omega
    refine ⟨xa, m, ck, menuU (knOf ks) (cnOf cs), rfl, bi6.sqU hxa, fun v hv => bi6.thg (tx v hv), h6m, lx, lm, ?_⟩
    cases hx : checksErr (menuU (knOf ks) (cnOf cs)) ck with
    | some v =>
      rw [hx] at q
      exact fun H' d s' n => q H' d (bt6.trans (.same s')) n
    | none =>
    rw [hx] at q
    simp only at q
    intro H7 x h7x s7
    have h7o := s7 _ _ h6o
    refine ⟨_, rfl, o, C, dx, _, rfl, h7o, T.cl, T.nx, (by show 3 < 1000; decide), ?_⟩
    have set7 : But o H7 (upd H7 o (.ins C dx (bookF k c m x))) := .set
    exact q _ ⟨dx, k, c, m, x, ys, zs, upd_same, set7 _ _ (ne_of (s7 _ _ h6k) h7o fun z => nomatch z) (s7 _ _ h6k), (h6kt.keep (.same s7)).keep (set7.tk h7o), set7 _ _ (ne_of (s7 _ _ h6c) h7o fun z => nomatch z) (s7 _ _ h6c), (h6ct.keep (.same s7)).keep (set7.tk h7o),
      set7 _ _ (ne_of (s7 _ _ h6m) h7o fun z => nomatch z) (s7 _ _ h6m), set7 _ _ (ne_of h7x h7o fun z => nomatch z) h7x⟩ ((bt6.trans (.same s7)).trans set7)
end
end Ls
namespace Ls
open PySem PySem.Spec PyProof.Rows L2
/-! ### short steps -/
local macro_rules | `(tactic| walk_at "ls_ne") => `(tactic| first | assumption | exact Ne.symm (by assumption) | exact ne_of_none (by assumption) (by assumption) | exact Ne.symm (ne_of_none (by assumption) (by assumption)))
local macro_rules | `(tactic| walk_at "ls_hp") => `(tactic| first
  | with_reducible assumption
  | exact upd_same
  | exact Eq.trans (upd_ne (by walk_at "ls_ne")) (by walk_at "ls_hp"))
local macro_rules | `(tactic| walk_at "ls_st") => `(tactic| first
  | with_reducible assumption
  | exact Stm.upd (by walk_at "ls_st") (by first | walk_at "ls_ne" | exact (Stm.noneS (by assumption) (by assumption)).1) (by first | walk_at "ls_ne" | exact (Stm.noneS (by assumption) (by assumption)).2))
local macro_rules | `(tactic| walk_at "ls1") => `(tactic| first
  | refine ⟨_, rfl, ?_⟩
  | refine ⟨_, _, rfl, rfl, ?_⟩
  | refine ⟨_, _, _, _, rfl, rfl, .inl (.inl (by walk_at "ls_hp")), rfl, ?_⟩
  | refine ⟨_, _, _, _, rfl, rfl, (by walk_at "ls_hp"), rfl, ?_⟩
  | refine ⟨rfl, _, rfl, ?_⟩
  | refine ⟨.inl ⟨rfl, _, .inl (.inl (by walk_at "ls_hp"))⟩, ?_⟩)
local macro_rules | `(tactic| walk_at "ls") => `(tactic| repeat (walk_at "ls1"))

section
variable {P : Program} {w : World} {K : PySem.W.Frag} {mg : Str → Option Value} {base : Heap}
/-! ### the lists of a book -/
abbrev s_Book_kinds : Stmt := inClass (topS 20) 1
theorem sc_Book_kinds : FnScope ["self"] ["self"] (defScope s_Book_kinds) := ⟨rfl, rfl, rfl, by decide +kernel, rfl, by decide +kernel, by decide +kernel⟩
abbrev N_Book_kinds : List Str := ["self"]
def spKinds (C : Addr) : Sp := fun vs H Q _ => ∃ (o : Addr) (ks : List (V × V)) (cs : List Col) (ck : List Str), vs = [.ref o] ∧ BookU C H o ks cs ck ∧ ∀ l kx, H l = none → TupsAt H kx (ks.map fun k => [k.1, k.2]) → Q (.ref l) (upd H l (.lst kx))
theorem ok_kinds {C : Addr} {f : Addr} {fd : FuncData} (F : Fun K "kinds" "Book.kinds" s_Book_kinds f fd) (T : Bt mg) (TB : BkT K C) : FnOk P w K mg base CX0 1 f fd ["self"] (spKinds C) := by
  refine F.ok sc_Book_kinds (fun vs H Q E h => ?_) (fun cdv A outer s H vs Q E hr h => ?_)
  · obtain ⟨o, ks, cs, ck, rfl, _⟩ := h
    rfl
  · obtain ⟨o, ks, cs, ck, rfl, ⟨dx, k, c, m, x, kx, cx, h1, h2, h3, h4, h5, h6, h7⟩, q⟩ := h
    have hu := hu_of hr
    refine ⟨_, (pss_one (ps_ret (pe_callTy (list_of K) (by rfl) T.m_list (by decide +kernel) (pa_cons (pe_fld (pv 0) rfl) pa_nil)))), ?_⟩
    walk_at "ls"
    refine ⟨o, C, dx, _, _, rfl, h1, TB.cl, TB.nk, bookF_k, ?_⟩
    exact ⟨k, kx, rfl, .inr (.inl (.inl h2)), fun l hl => q l kx hl h3⟩
abbrev s_Book_columns : Stmt := inClass (topS 20) 2
theorem sc_Book_columns : FnScope ["self"] ["self"] (defScope s_Book_columns) := ⟨rfl, rfl, rfl, by decide +kernel, rfl, by decide +kernel, by decide +kernel⟩
abbrev N_Book_columns : List Str := ["self"]
def spColumns (C : Addr) : Sp := fun vs H Q _ => ∃ (o : Addr) (ks : List (V × V)) (cs : List Col) (ck : List Str), vs = [.ref o] ∧ BookU C H o ks cs ck ∧ ∀ l cx, H l = none → TupsAt H cx (cs.map colU) → Q (.ref l) (upd H l (.lst cx))
theorem ok_columns {C : Addr} {f : Addr} {fd : FuncData} (F : Fun K "columns" "Book.columns" s_Book_columns f fd) (T : Bt mg) (TB : BkT K C) : FnOk P w K mg base CX0 1 f fd ["self"] (spColumns C) := by
  refine F.ok sc_Book_columns (fun vs H Q E h => ?_) (fun cdv A outer s H vs Q E hr h => ?_)
  · obtain ⟨o, ks, cs, ck, rfl, _⟩ := h
    rfl
  · obtain ⟨o, ks, cs, ck, rfl, ⟨dx, k, c, m, x, kx, cx, h1, h2, h3, h4, h5, h6, h7⟩, q⟩ := h
    have hu := hu_of hr
    refine ⟨_, (pss_one (ps_ret (pe_callTy (list_of K) (by rfl) T.m_list (by decide +kernel) (pa_cons (pe_fld (pv 0) rfl) pa_nil)))), ?_⟩
    walk_at "ls"
    refine ⟨o, C, dx, _, _, rfl, h1, TB.cl, TB.nc, bookF_c, ?_⟩
    exact ⟨c, cx, rfl, .inr (.inl (.inl h4)), fun l hl => q l cx hl h5⟩
end
end Ls
namespace Ls
open PySem PySem.Spec PyProof.Rows L2
/-! ### short steps -/
local macro_rules | `(tactic| walk_at "ls_ne") => `(tactic| first | assumption | exact Ne.symm (by assumption) | exact ne_of_none (by assumption) (by assumption) | exact Ne.symm (ne_of_none (by assumption) (by assumption)))
local macro_rules | `(tactic| walk_at "ls_hp") => `(tactic| first
  | with_reducible assumption
  | exact upd_same
  | exact Eq.trans (upd_ne (by walk_at "ls_ne")) (by walk_at "ls_hp"))
local macro_rules | `(tactic| walk_at "ls_st") => `(tactic| first
  | with_reducible assumption
  | exact Stm.upd (by walk_at "ls_st") (by first | walk_at "ls_ne" | exact (Stm.noneS (by assumption) (by assumption)).1) (by first | walk_at "ls_ne" | exact (Stm.noneS (by assumption) (by assumption)).2))
local macro_rules | `(tactic| walk_at "ls1") => `(tactic| first
  | refine ⟨_, rfl, ?_⟩
  | refine ⟨_, _, rfl, rfl, ?_⟩
  | refine ⟨_, _, _, _, rfl, rfl, .inl (.inl (by walk_at "ls_hp")), rfl, ?_⟩
  | refine ⟨_, _, _, _, rfl, rfl, (by walk_at "ls_hp"), rfl, ?_⟩
  | refine ⟨rfl, _, rfl, ?_⟩
  | refine ⟨.inl ⟨rfl, _, .inl (.inl (by walk_at "ls_hp"))⟩, ?_⟩)
local macro_rules | `(tactic| walk_at "ls") => `(tactic| repeat (walk_at "ls1"))

section
variable {P : Program} {w : World} {K : PySem.W.Frag} {mg : Str → Option Value} {base : Heap}
/-! ### _law_same -/
abbrev s__law_same : Stmt := topS 30
theorem sc__law_same : FnScope ["_law_found", "_law_due"] ["_law_found", "_law_due"] (defScope s__law_same) := ⟨rfl, rfl, rfl, by decide +kernel, rfl, by decide +kernel, by decide +kernel⟩
abbrev N__law_same : List Str := ["_law_found", "_law_due"]
def spSame (K : PySem.W.Frag) : Sp := fun vs H Q _ => ∃ (a b : Addr) (d : PyData), vs = [.ref a, .ref b] ∧ DpX K H (.ref a) d ∧ DpX K H (.ref b) d ∧ (d.showable = true ∧ d.depth ≤ 60 ∧ d.shown.length ≤ sizeLine) ∧ Q (.bl true) H
theorem ok_same {f : Addr} {fd : FuncData} (F : Fun K "_law_same" "_law_same" s__law_same f fd) (T : Bt mg) : FnG P w K mg base CX0 1 f fd ["_law_found", "_law_due"] (spSame K) := by
  refine fun_okG F sc__law_same (fun vs H Q E h => ?_) (fun cdv A outer s H vs Q E hgd hr h => ?_)
  · obtain ⟨a, b, d, rfl, _⟩ := h
    rfl
  · obtain ⟨a, b, d, rfl, ha, hb, ⟨h1, h3, h4⟩, q⟩ := h
    have hu := hu_of hr
    refine ⟨_, (pss_one (ps_ret (pe_cmpR op_eq (pe_callB (call_repr_dataX hgd hr) (by rfl) T.m_repr (by decide +kernel) (pa_cons (pv 0) pa_nil)) (pe_callB (call_repr_dataX hgd hr) (by rfl) T.m_repr (by decide +kernel) (pa_cons (pv 1) pa_nil)) (nomark _)))), ?_⟩
    walk_at "ls"
    refine ⟨a, d, rfl, ha, h1, h3, h4, ?_⟩
    walk_at "ls"
    refine ⟨b, d, rfl, hb, h1, h3, h4, ?_⟩
    refine ⟨rfl, ?_⟩
    rw [decide_eq_true rfl]
    exact q
end
end Ls
namespace Ls
open PySem PySem.Spec PyProof.Rows L2
/-! ### len, in, == and operators by methods of the module's own -/
section
variable {X : Cx} {k j : Nat} {C : Addr} {ps : List Str} {sp : Sp} {m : Str}
/-- a method runs at X.A or one call deeper -/
theorem run_ownM (O : OwnM X.prog X.w X.K X.mg X.base CX0 k C m ps sp) {A : Around} (hr : Room k A) {pins : List (Addr × Obj)} {σ : L2.St} {H : Hp} {s : Shared} {Q : VK} {us : List Value} {vs : List V} (I : Inv X pins σ H s)
    (e0 : Env0 X.prog X.w X.K X.mg X.base A X.stack s H) (r : Vals vs us) (q : sp vs H Q E0) {R : Value → Shared → Prop} {E : Value → Shared → Prop} (hR : ∀ v s', EP X pins σ Q v s' → R v s') (f : Addr) (hf : Meth X.K C m f) :
    wpAny (model X.prog X.w) A (call (.ref f) us) R E s := by
  obtain ⟨f2, fd, F, me, b⟩ := O.ex
  have ef : f2 = f := by
    have h1 := me.at_
    have h2 := hf.at_
    rw [h1] at h2
    cases h2
    rfl
  subst ef
  have hb := b s us I.kIn (by rw [List.append_nil, ← r.length]; exact F.len _ _ _ _ q)
  rw [List.append_nil] at hb
  refine wpAny_call (codeAny_mono (F.run A X.stack s H ⟨us, []⟩ us vs Q E0 hr e0 hb r q) fun r s' hq => ?_)
  cases r with
  | error e => exact False.elim hq
  | ok fl =>
    cases fl with
    | ret w => exact hR _ _ (I.after hq)
    | next => exact False.elim hq
    | brk => exact False.elim hq
    | cont => exact False.elim hq
def rLenO (C : Addr) (sp : Sp) : List V → Hp → VK → Prop := fun xs H Q => ∃ a dx fs, xs = [.ref a] ∧ H a = some (.ins C dx fs) ∧ sp [.ref a] H (fun v H' => ∃ n : Int, v = .int n ∧ 0 ≤ n ∧ n < 2 ^ 63 ∧ Q v H') E0
theorem call_lenO (O : OwnM X.prog X.w X.K X.mg X.base CX0 k C "__len__" ps sp) (hr : Room j X.A) (hkj : k + 1 ≤ j) : CallR X (.builtin "len") (rLenO C sp) := by
  intro pins s σ H xs us Q I r h
  obtain ⟨a, dx, fs, rfl, ha, q⟩ := h
  obtain ⟨u, rfl, ru⟩ := r.one
  cases ru
  obtain ⟨f, fd, F, me, b⟩ := O.ex
  obtain ⟨mA, J, _⟩ := ins_get I.hok ha
  obtain ⟨od, J, _⟩ := J.look
  obtain ⟨m, hF⟩ := I.fr
  refine PySem.W.len_K hF I.ok.mod.kin J me.at_ me.fn ?_
  refine run_ownM O (hr.mono hkj).in1 I I.env0.in1 (us := [Value.ref a]) (vs := [V.ref a]) (.cons rfl .nil) q (fun v s' z => ?_) f me
  obtain ⟨z', H', I', rz, n, ez, h0, h1, qz⟩ := z
  subst ez
  obtain ⟨t, rfl⟩ := rz
  exact ⟨⟨h0, h1⟩, ⟨.int n, H', I'.tok _, ⟨_, rfl⟩, qz⟩⟩
def rInO (C : Addr) (sp : Sp) : R2 := fun x y H Q => ∃ a dx fs, y = .ref a ∧ H a = some (.ins C dx fs) ∧ sp [.ref a, x] H (fun v H' => ∃ b : Bool, v = .bl b ∧ Q v H') E0
theorem op_inO (O : OwnM X.prog X.w X.K X.mg X.base CX0 k C "__contains__" ps sp) (hr : Room j X.A) (hkj : k ≤ j) : OpR X (compareOp .In) (rInO C sp) := by
  intro pins s σ H x y v u Q I rx ry h
  obtain ⟨a, dx, fs, rfl, ha, q⟩ := h
  cases ry
  obtain ⟨f, fd, F, me, b⟩ := O.ex
  obtain ⟨mA, J, _⟩ := ins_get I.hok ha
  obtain ⟨od, J, _⟩ := J.look
  obtain ⟨m, hF⟩ := I.fr
  refine PySem.W.in_K hF I.ok.mod.kin J me.at_ me.fn ?_
  refine run_ownM O (hr.mono hkj) I I.env0 (us := [Value.ref a, v]) (vs := [V.ref a, x]) (.cons rfl (.cons rx .nil)) q (fun v s' z => ?_) f me
  obtain ⟨z', H', I', rz, n, ez, qz⟩ := z
  subst ez
  cases rz
  exact wpAny_pure ⟨.bl n, H', I', rfl, qz⟩
def rNotInO (C : Addr) (sp : Sp) : R2 := fun x y H Q => ∃ a dx fs, y = .ref a ∧ H a = some (.ins C dx fs) ∧ sp [.ref a, x] H (fun v H' => ∃ b : Bool, v = .bl b ∧ Q (.bl (!b)) H') E0
theorem op_notInO (O : OwnM X.prog X.w X.K X.mg X.base CX0 k C "__contains__" ps sp) (hr : Room j X.A) (hkj : k ≤ j) : OpR X (compareOp .NotIn) (rNotInO C sp) := by
  intro pins s σ H x y v u Q I rx ry h
  obtain ⟨a, dx, fs, rfl, ha, q⟩ := h
  cases ry
  obtain ⟨f, fd, F, me, b⟩ := O.ex
  obtain ⟨mA, J, _⟩ := ins_get I.hok ha
  obtain ⟨od, J, _⟩ := J.look
  obtain ⟨m, hF⟩ := I.fr
  refine PySem.W.notIn_K hF I.ok.mod.kin J me.at_ me.fn ?_
  refine run_ownM O (hr.mono hkj) I I.env0 (us := [Value.ref a, v]) (vs := [V.ref a, x]) (.cons rfl (.cons rx .nil)) q (fun v s' z => ?_) f me
  obtain ⟨z', H', I', rz, n, ez, qz⟩ := z
  subst ez
  cases rz
  exact wpAny_pure ⟨.bl (!n), H', I', rfl, qz⟩
/-- x op y by x's own method: y an instance of the same class -/
def rCmpO (C : Addr) (sp : Sp) : R2 := fun x y H Q => ∃ a dx fs b dy gs, x = .ref a ∧ y = .ref b ∧ H a = some (.ins C dx fs) ∧ H b = some (.ins C dy gs) ∧ sp [.ref a, .ref b] H (fun v H' => ∃ b : Bool, v = .bl b ∧ Q v H') E0
theorem op_cmpO {op : CmpOp} (O : OwnM X.prog X.w X.K X.mg X.base CX0 k C (cmpInfo op).2.1 ps sp) (hop : ∀ a b, compareOp op a b = richCompare op a b) (hr : Room j X.A) (hkj : k ≤ j) : OpR X (compareOp op) (rCmpO C sp) := by
  intro pins s σ H x y v u Q I rx ry h
  obtain ⟨a, dx, fs, b, dy, gs, rfl, rfl, ha, hb, q⟩ := h
  cases rx
  cases ry
  obtain ⟨f, fd, F, me, bb⟩ := O.ex
  obtain ⟨mA, J, _⟩ := ins_get I.hok ha
  obtain ⟨mB, J', _⟩ := ins_get I.hok hb
  obtain ⟨od, J, _⟩ := J.look
  obtain ⟨od', J', _⟩ := J'.look
  obtain ⟨m, hF⟩ := I.fr
  rw [hop]
  refine PySem.W.cmp_K (op := op) (tb := .ref C) (hr.mono hkj).units0 hF I.ok.mod.kin J J'.type (by simp [PySem.W.notFirst]) me.at_ me.fn ?_
  refine run_ownM O (hr.mono hkj) I I.env0 (us := [Value.ref a, Value.ref b]) (vs := [V.ref a, V.ref b]) (.cons rfl (.cons rfl .nil)) q (fun v s' z => ?_) f me
  obtain ⟨z', H', I', rz, n, ez, qz⟩ := z
  subst ez
  cases rz
  exact ⟨.bl n, H', I', rfl, qz⟩
end
end Ls
namespace Ls
open PySem PySem.Spec PyProof.Rows L2
/-! ### short steps -/
local macro_rules | `(tactic| walk_at "ls_ne") => `(tactic| first | assumption | exact Ne.symm (by assumption) | exact ne_of_none (by assumption) (by assumption) | exact Ne.symm (ne_of_none (by assumption) (by assumption)))
local macro_rules | `(tactic| walk_at "ls_hp") => `(tactic| first
  | with_reducible assumption
  | exact upd_same
  | exact Eq.trans (upd_ne (by walk_at "ls_ne")) (by walk_at "ls_hp"))
local macro_rules | `(tactic| walk_at "ls_st") => `(tactic| first
  | with_reducible assumption
  | exact Stm.upd (by walk_at "ls_st") (by first | walk_at "ls_ne" | exact (Stm.noneS (by assumption) (by assumption)).1) (by first | walk_at "ls_ne" | exact (Stm.noneS (by assumption) (by assumption)).2))
local macro_rules | `(tactic| walk_at "ls1") => `(tactic| first
  | refine ⟨_, rfl, ?_⟩
  | refine ⟨_, _, rfl, rfl, ?_⟩
  | refine ⟨_, _, _, _, rfl, rfl, .inl (.inl (by walk_at "ls_hp")), rfl, ?_⟩
  | refine ⟨_, _, _, _, rfl, rfl, (by walk_at "ls_hp"), rfl, ?_⟩
  | refine ⟨rfl, _, rfl, ?_⟩
  | refine ⟨.inl ⟨rfl, _, .inl (.inl (by walk_at "ls_hp"))⟩, ?_⟩)
local macro_rules | `(tactic| walk_at "ls") => `(tactic| repeat (walk_at "ls1"))

/-! ### the parts of a shape as values -/
def ksU (B : Shp) : List (V × V) := B.ks.map fun k => (.str k.1, .bl k.2)
def csU (B : Shp) : List Col := B.cs.map fun c => (.str c.1, .str c.2.1, .str c.2.2.1, .str (ruleS c.2.2.2))
def knS (B : Shp) : List Str := B.ks.map (·.1)
theorem knOf_ksU (B : Shp) : knOf (ksU B) = knS B := by unfold knOf ksU knS; rw [List.map_map]; rfl
theorem cnOf_csU (B : Shp) : cnOf (csU B) = B.cs.map (·.1) := by unfold cnOf csU; rw [List.map_map]; rfl
theorem menuU_is (B : Shp) : menuU (knOf (ksU B)) (cnOf (csU B)) = menu B := by
  rw [knOf_ksU, cnOf_csU]
  unfold menuU menu knS
  rw [List.flatMap_map, List.flatMap_map]
theorem ksU_rows (B : Shp) : (ksU B).map (fun k => [k.1, k.2]) = B.ks.map kindV := by unfold ksU; rw [List.map_map]; rfl
theorem csU_rows (B : Shp) : (csU B).map colU = B.cs.map colV := by unfold csU; rw [List.map_map]; rfl
theorem nm_isName {z : Str} (h : Nm z) : isNameB z = true := by
  obtain ⟨⟨h1, h2, h3⟩, h4⟩ := h
  unfold isNameB
  rw [decide_eq_false h4, decide_eq_true h1, decide_eq_true h2]
  refine List.all_eq_true.mpr fun c hc => decide_eq_true ?_
  have h5 := h3 c hc
  show c ∈ ("abcdefghijklmnopqrstuvwxyz" : Str).cps.toList
  rw [abc_cps, List.mem_range']
  exact ⟨c - 97, by omega, by omega⟩
theorem kinds_fine : ∀ {l : List (Str × Bool)} {taken : List Str}, (taken ++ l.map (·.1)).Nodup → (∀ z ∈ l.map (·.1), Nm z) → kindsErr taken (l.map fun k => (V.str k.1, V.bl k.2)) = none
  | [], _, _, _ => rfl
  | k :: r, taken, nd, hn => by
    have e : taken ++ (k :: r).map (·.1) = (taken ++ [k.1]) ++ r.map (·.1) := by simp
    rw [e] at nd
    have hk : k.1 ∉ taken := by
      have := (List.nodup_append.mp (List.nodup_append.mp nd).1).2.2
      exact fun h => this k.1 h k.1 (by simp) rfl
    rw [List.map_cons]
    unfold kindsErr
    have en : nameErr taken (V.str k.1) = none := by
      unfold nameErr
      have h1 : isNameV (V.str k.1) = true := nm_isName (hn k.1 (.head _))
      have h2 : isWordV taken (V.str k.1) = false := decide_eq_false hk
      rw [h1, h2, if_pos rfl, if_neg (by decide)]
    show (match nameErr taken (V.str k.1) with | some b => _ | none => _) = none
    rw [en]
    exact kinds_fine nd fun z hz => hn z (.tail _ hz)
theorem cols_fine {kn : List Str} : ∀ {l : List (Str × Str × Str × Bool)} {taken : List Str}, ((kn ++ taken) ++ l.map (·.1)).Nodup → (∀ z ∈ l.map (·.1), Nm z) → (∀ c ∈ l, c.2.1 ∈ kn ∧ c.2.2.1 ∈ kn) →
    colsErr kn taken (l.map fun c => (V.str c.1, V.str c.2.1, V.str c.2.2.1, V.str (ruleS c.2.2.2))) = none
  | [], _, _, _, _ => rfl
  | k :: r, taken, nd, hn, hm => by
    have e : (kn ++ taken) ++ (k :: r).map (·.1) = (kn ++ (taken ++ [k.1])) ++ r.map (·.1) := by simp
    rw [e] at nd
    have hk : k.1 ∉ kn ++ taken := by
      have h1 := (List.nodup_append.mp nd).1
      rw [← List.append_assoc] at h1
      have := (List.nodup_append.mp h1).2.2
      exact fun h => this k.1 h k.1 (by simp) rfl
    rw [List.map_cons]
    unfold colsErr
    have en : nameErr (kn ++ taken) (V.str k.1) = none := by
      unfold nameErr
      have h1 : isNameV (V.str k.1) = true := nm_isName (hn k.1 (.head _))
      have h2 : isWordV (kn ++ taken) (V.str k.1) = false := decide_eq_false hk
      rw [h1, h2, if_pos rfl, if_neg (by decide)]
    have ec : colErr kn taken (V.str k.1, V.str k.2.1, V.str k.2.2.1, V.str (ruleS k.2.2.2)) = none := by
      unfold colErr
      obtain ⟨h1, h2⟩ := hm k (.head _)
      have w1 : isWordV kn (V.str k.2.1) = true := decide_eq_true h1
      have w2 : isWordV kn (V.str k.2.2.1) = true := decide_eq_true h2
      have w3 : isWordV ruleW (V.str (ruleS k.2.2.2)) = true := by cases k.2.2.2 <;> decide +kernel
      rw [en]
      simp only [w1, w2, w3, if_true]
    rw [ec]
    exact cols_fine nd (fun z hz => hn z (.tail _ hz)) fun c hc => hm c (.tail _ hc)
/-- what is asked of a shape without the sizes -/
structure Shp.Fine (B : Shp) : Prop where
  nd : (B.ks.map (·.1) ++ B.cs.map (·.1)).Nodup
  nm : ∀ z ∈ B.ks.map (·.1) ++ B.cs.map (·.1), Nm z
  home : ∀ c ∈ B.cs, c.2.1 ∈ B.ks.map (·.1)
  goal : ∀ c ∈ B.cs, c.2.2.1 ∈ B.ks.map (·.1)
theorem Shp.Ok.fine {B : Shp} (h : B.Ok) : B.Fine := ⟨h.nd, h.nm, h.home, h.goal⟩
theorem book_fine {B : Shp} (hB : B.Fine) {ck : List Str} (hc : ∀ z ∈ ck, z ∈ menu B) : bookErr (ksU B) (csU B) (ck.map V.str) = none := by
  have nd := hB.nd
  have h1 : kindsErr [] (ksU B) = none := kinds_fine (by rw [List.nil_append]; exact (List.nodup_append.mp nd).1) fun z hz => hB.nm z (List.mem_append_left _ hz)
  have h2 : colsErr (knOf (ksU B)) [] (csU B) = none := by
    rw [knOf_ksU]
    exact cols_fine (by rw [List.append_nil]; exact nd) (fun z hz => hB.nm z (List.mem_append_right _ hz)) fun c hc => ⟨hB.home c hc, hB.goal c hc⟩
  unfold bookErr
  rw [h1]
  simp only
  rw [h2, menuU_is]
  simp only
  have h3 : checksErr (menu B) (ck.map V.str) = none := by
    unfold checksErr
    refine List.find?_eq_none.mpr fun v hv => ?_
    obtain ⟨z, hz, rfl⟩ := List.mem_map.mp hv
    have : isWordV (menu B) (V.str z) = true := decide_eq_true (hc z hz)
    rw [this]
    decide
  rw [h3]
/-- a book of a shape -/
def BookS (C : Addr) (H : Hp) (o : Addr) (B : Shp) (ck : List Str) : Prop := BookU C H o (ksU B) (csU B) ck
theorem BookS.same {C : Addr} {H H' : Hp} {o : Addr} {B : Shp} {ck : List Str} (h : BookS C H o B ck) (s : Same H H') : BookS C H' o B ck := BookU.same h s
theorem BookS.ins {C : Addr} {H : Hp} {o : Addr} {B : Shp} {ck : List Str} (h : BookS C H o B ck) : ∃ dx k c m x, H o = some (.ins C dx (bookF k c m x)) := by
  obtain ⟨dx, k, c, m, x, kx, cx, h1, _⟩ := h
  exact ⟨dx, k, c, m, x, h1⟩
end Ls
namespace Ls
open PySem PySem.Spec PyProof.Rows L2
/-! ### short steps -/
local macro_rules | `(tactic| walk_at "ls_ne") => `(tactic| first | assumption | exact Ne.symm (by assumption) | exact ne_of_none (by assumption) (by assumption) | exact Ne.symm (ne_of_none (by assumption) (by assumption)))
local macro_rules | `(tactic| walk_at "ls_hp") => `(tactic| first
  | with_reducible assumption
  | exact upd_same
  | exact Eq.trans (upd_ne (by walk_at "ls_ne")) (by walk_at "ls_hp"))
local macro_rules | `(tactic| walk_at "ls_st") => `(tactic| first
  | with_reducible assumption
  | exact Stm.upd (by walk_at "ls_st") (by first | walk_at "ls_ne" | exact (Stm.noneS (by assumption) (by assumption)).1) (by first | walk_at "ls_ne" | exact (Stm.noneS (by assumption) (by assumption)).2))
local macro_rules | `(tactic| walk_at "ls1") => `(tactic| first
  | refine ⟨_, rfl, ?_⟩
  | refine ⟨_, _, rfl, rfl, ?_⟩
  | refine ⟨_, _, _, _, rfl, rfl, .inl (.inl (by walk_at "ls_hp")), rfl, ?_⟩
  | refine ⟨_, _, _, _, rfl, rfl, (by walk_at "ls_hp"), rfl, ?_⟩
  | refine ⟨rfl, _, rfl, ?_⟩
  | refine ⟨.inl ⟨rfl, _, .inl (.inl (by walk_at "ls_hp"))⟩, ?_⟩)
local macro_rules | `(tactic| walk_at "ls") => `(tactic| repeat (walk_at "ls1"))

section
variable {P : Program} {w : World} {K : PySem.W.Frag} {mg : Str → Option Value} {base : Heap}
/-! ### menu, checks, len, in -/
abbrev s_Book_menu : Stmt := inClass (topS 20) 3
theorem sc_Book_menu : FnScope ["self"] ["self"] (defScope s_Book_menu) := ⟨rfl, rfl, rfl, by decide +kernel, rfl, by decide +kernel, by decide +kernel⟩
abbrev N_Book_menu : List Str := ["self"]
def spMenuB (C : Addr) : Sp := fun vs H Q _ => ∃ (o : Addr) (B : Shp) (ck : List Str), vs = [.ref o] ∧ BookS C H o B ck ∧ ∀ l, H l = none → Q (.ref l) (upd H l (.lst ((menu B).map V.str)))
theorem ok_menuB {C : Addr} {f : Addr} {fd : FuncData} (F : Fun K "menu" "Book.menu" s_Book_menu f fd) (T : Bt mg) (TB : BkT K C) : FnOk P w K mg base CX0 1 f fd ["self"] (spMenuB C) := by
  refine F.ok sc_Book_menu (fun vs H Q E h => ?_) (fun cdv A outer s H vs Q E hr h => ?_)
  · obtain ⟨o, B, ck, rfl, _⟩ := h
    rfl
  · obtain ⟨o, B, ck, rfl, ⟨dx, k, c, m, x, kx, cx, h1, h2, h3, h4, h5, h6, h7⟩, q⟩ := h
    have hu := hu_of hr
    refine ⟨_, (pss_one (ps_ret (pe_callTy (list_of K) (by rfl) T.m_list (by decide +kernel) (pa_cons (pe_fld (pv 0) rfl) pa_nil)))), ?_⟩
    walk_at "ls"
    refine ⟨o, C, dx, _, _, rfl, h1, TB.cl, TB.nm, bookF_m, ?_⟩
    rw [menuU_is] at h6
    exact ⟨m, _, rfl, .inr (.inl (.inl h6)), fun l hl => q l hl⟩
abbrev s_Book_checks : Stmt := inClass (topS 20) 4
theorem sc_Book_checks : FnScope ["self"] ["self"] (defScope s_Book_checks) := ⟨rfl, rfl, rfl, by decide +kernel, rfl, by decide +kernel, by decide +kernel⟩
abbrev N_Book_checks : List Str := ["self"]
def spChecksB (C : Addr) : Sp := fun vs H Q _ => ∃ (o : Addr) (B : Shp) (ck : List Str), vs = [.ref o] ∧ BookS C H o B ck ∧ ∀ l, H l = none → Q (.ref l) (upd H l (.lst (ck.map V.str)))
theorem ok_checksB {C : Addr} {f : Addr} {fd : FuncData} (F : Fun K "checks" "Book.checks" s_Book_checks f fd) (T : Bt mg) (TB : BkT K C) : FnOk P w K mg base CX0 1 f fd ["self"] (spChecksB C) := by
  refine F.ok sc_Book_checks (fun vs H Q E h => ?_) (fun cdv A outer s H vs Q E hr h => ?_)
  · obtain ⟨o, B, ck, rfl, _⟩ := h
    rfl
  · obtain ⟨o, B, ck, rfl, ⟨dx, k, c, m, x, kx, cx, h1, h2, h3, h4, h5, h6, h7⟩, q⟩ := h
    have hu := hu_of hr
    refine ⟨_, (pss_one (ps_ret (pe_callTy (list_of K) (by rfl) T.m_list (by decide +kernel) (pa_cons (pe_fld (pv 0) rfl) pa_nil)))), ?_⟩
    walk_at "ls"
    refine ⟨o, C, dx, _, _, rfl, h1, TB.cl, TB.nx, bookF_x, ?_⟩
    exact ⟨x, _, rfl, .inr (.inl (.inl h7)), fun l hl => q l hl⟩
abbrev s_Book_len : Stmt := inClass (topS 20) 8
theorem sc_Book_len : FnScope ["self"] ["self"] (defScope s_Book_len) := ⟨rfl, rfl, rfl, by decide +kernel, rfl, by decide +kernel, by decide +kernel⟩
abbrev N_Book_len : List Str := ["self"]
def spLenB (C : Addr) : Sp := fun vs H Q _ => ∃ (o : Addr) (B : Shp) (ck : List Str), vs = [.ref o] ∧ BookS C H o B ck ∧ Q (.int ck.length) H
theorem ok_lenB {C : Addr} {f : Addr} {fd : FuncData} (F : Fun K "__len__" "Book.__len__" s_Book_len f fd) (T : Bt mg) (TB : BkT K C) : FnOk P w K mg base CX0 1 f fd ["self"] (spLenB C) := by
  refine F.ok sc_Book_len (fun vs H Q E h => ?_) (fun cdv A outer s H vs Q E hr h => ?_)
  · obtain ⟨o, B, ck, rfl, _⟩ := h
    rfl
  · obtain ⟨o, B, ck, rfl, ⟨dx, k, c, m, x, kx, cx, h1, h2, h3, h4, h5, h6, h7⟩, q⟩ := h
    have hu := hu_of hr
    refine ⟨_, (pss_one (ps_ret (pe_callB (len_seq K) (by rfl) T.m_len (by decide +kernel) (pa_cons (pe_fld (pv 0) rfl) pa_nil)))), ?_⟩
    walk_at "ls"
    refine ⟨o, C, dx, _, _, rfl, h1, TB.cl, TB.nx, bookF_x, ?_⟩
    refine ⟨x, _, rfl, .inr (.inl (.inl h7)), ?_⟩
    rw [List.length_map]
    exact q
abbrev s_Book_contains : Stmt := inClass (topS 20) 9
theorem sc_Book_contains : FnScope ["self", "check"] ["self", "check"] (defScope s_Book_contains) := ⟨rfl, rfl, rfl, by decide +kernel, rfl, by decide +kernel, by decide +kernel⟩
abbrev N_Book_contains : List Str := ["self", "check"]
def spHasB (K : PySem.W.Frag) (C : Addr) : Sp := fun vs H Q _ => ∃ (o : Addr) (v : V) (B : Shp) (ck : List Str), vs = [.ref o, v] ∧ BookS C H o B ck ∧ Thg K H v ∧ Q (.bl (isWordV ck v)) H
theorem ok_hasB {C : Addr} {f : Addr} {fd : FuncData} (F : Fun K "__contains__" "Book.__contains__" s_Book_contains f fd) (T : Bt mg) (TB : BkT K C) (O_is_word_of : Own P w K mg base CX0 1 "is_word_of" ["thing", "words"] (spWord K)) : FnOk P w K mg base CX0 2 f fd ["self", "check"] (spHasB K C) := by
  refine F.ok sc_Book_contains (fun vs H Q E h => ?_) (fun cdv A outer s H vs Q E hr h => ?_)
  · obtain ⟨o, v, B, ck, rfl, _⟩ := h
    rfl
  · obtain ⟨o, v, B, ck, rfl, ⟨dx, k, c, m, x, kx, cx, h1, h2, h3, h4, h5, h6, h7⟩, hv, q⟩ := h
    have hu := hu_of hr
    refine ⟨_, (pss_one (ps_ret (own_call O_is_word_of hr (by first | decide | omega) (pa_cons (pv 1) (pa_cons (pe_fld (pv 0) rfl) pa_nil))))), ?_⟩
    walk_at "ls"
    refine ⟨o, C, dx, _, _, rfl, h1, TB.cl, TB.nx, bookF_x, ?_⟩
    exact ⟨v, x, ck, rfl, hv, .inr (.inl (.inl h7)), q⟩
end
end Ls
namespace Ls
open PySem PySem.Spec PyProof.Rows L2
/-! ### data that stay -/
mutual
theorem dp_same {K : PySem.W.Frag} {H H' : Hp} (s : Same H H') : ∀ (d : PyData) (v : V), Dp K H v d → Dp K H' v d
  | .none, _, h => by cases h; exact .non
  | .bool b, _, h => by cases h; exact .bl b
  | .int i, _, h => by cases h; exact .int i
  | .str x, _, h => by cases h; exact .str x
  | .list ds, _, h => by
    cases h with
    | lst q a => exact .lst (Stays.sqL s q) (dpAll_same s ds _ a)
  | .tuple ds, _, h => by
    cases h with
    | tup q a => exact .tup (Stays.sqT s q) (dpAll_same s ds _ a)
  | .dict _, _, h => by cases h
theorem dpAll_same {K : PySem.W.Frag} {H H' : Hp} (s : Same H H') : ∀ (ds : List PyData) (vs : List V), DpAll K H vs ds → DpAll K H' vs ds
  | [], _, h => by cases h; exact .nil
  | d :: ds, _, h => by
    cases h with
    | cons h1 h2 => exact .cons (dp_same s d _ h1) (dpAll_same s ds _ h2)
end
/-- data that may be compared -/
def Flat (d : PyData) : Prop := PyData.canLay0 d = true ∧ d.depth ≤ 60
def Cmp (K : PySem.W.Frag) (H : Hp) (v : V) : Prop := ∃ d, Dp K H v d ∧ Flat d
theorem flat_all : ∀ {ds : List PyData}, (∀ d ∈ ds, Flat d) → PyData.canLayAll0 ds = true ∧ PyData.depthAll ds ≤ 60
  | [], _ => ⟨by simp [PyData.canLayAll0], by simp [PyData.depthAll]⟩
  | d :: r, h => by
    obtain ⟨a, b⟩ := h d (.head _)
    obtain ⟨c, e⟩ := flat_all fun x hx => h x (.tail _ hx)
    refine ⟨by simp [PyData.canLayAll0, a, c], ?_⟩
    simp only [PyData.depthAll]
    omega
theorem shaped_list {ds : List PyData} (h : ∀ d ∈ ds, Flat d) : SeqAt.shaped (.list ds) = true := by
  obtain ⟨a, b⟩ := flat_all h
  unfold SeqAt.shaped
  have e : PyData.depth (.list ds) ≤ 64 := by
    rw [PyData.depth]
    omega
  rw [decide_eq_true e, PyData.canLay0, a]
  rfl
theorem Cmp.same {K : PySem.W.Frag} {H H' : Hp} {v : V} (h : Cmp K H v) (s : Same H H') : Cmp K H' v := by
  obtain ⟨d, a, b⟩ := h
  exact ⟨d, dp_same s d v a, b⟩
theorem cmp_all {K : PySem.W.Frag} {H : Hp} : ∀ {xs : List V}, (∀ v ∈ xs, Cmp K H v) → ∃ ds, DpAll K H xs ds ∧ (∀ d ∈ ds, Flat d) ∧ ds.length = xs.length
  | [], _ => ⟨[], .nil, (fun d hd => by cases hd), rfl⟩
  | v :: r, h => by
    obtain ⟨d, a, b⟩ := h v (.head _)
    obtain ⟨ds, c, e, l⟩ := cmp_all fun u hu => h u (.tail _ hu)
    refine ⟨d :: ds, .cons a c, fun x hx => ?_, by rw [List.length_cons, List.length_cons, l]⟩
    rcases List.mem_cons.mp hx with rfl | hx
    · exact b
    · exact e x hx
end Ls
namespace Ls
open PySem PySem.Spec PyProof.Rows L2
/-! ### short steps -/
local macro_rules | `(tactic| walk_at "ls_ne") => `(tactic| first | assumption | exact Ne.symm (by assumption) | exact ne_of_none (by assumption) (by assumption) | exact Ne.symm (ne_of_none (by assumption) (by assumption)))
local macro_rules | `(tactic| walk_at "ls_hp") => `(tactic| first
  | with_reducible assumption
  | exact upd_same
  | exact Eq.trans (upd_ne (by walk_at "ls_ne")) (by walk_at "ls_hp"))
local macro_rules | `(tactic| walk_at "ls_st") => `(tactic| first
  | with_reducible assumption
  | exact Stm.upd (by walk_at "ls_st") (by first | walk_at "ls_ne" | exact (Stm.noneS (by assumption) (by assumption)).1) (by first | walk_at "ls_ne" | exact (Stm.noneS (by assumption) (by assumption)).2))
local macro_rules | `(tactic| walk_at "ls1") => `(tactic| first
  | refine ⟨_, rfl, ?_⟩
  | refine ⟨_, _, rfl, rfl, ?_⟩
  | refine ⟨_, _, _, _, rfl, rfl, .inl (.inl (by walk_at "ls_hp")), rfl, ?_⟩
  | refine ⟨_, _, _, _, rfl, rfl, (by walk_at "ls_hp"), rfl, ?_⟩
  | refine ⟨rfl, _, rfl, ?_⟩
  | refine ⟨.inl ⟨rfl, _, .inl (.inl (by walk_at "ls_hp"))⟩, ?_⟩)
local macro_rules | `(tactic| walk_at "ls") => `(tactic| repeat (walk_at "ls1"))

/-! ### books compared -/
instance : DecidableEq Shp := fun a b => if h : a.ks = b.ks ∧ a.cs = b.cs then isTrue (by
    obtain ⟨k1, c1⟩ := a
    obtain ⟨k2, c2⟩ := b
    obtain ⟨h1, h2⟩ := h
    cases h1
    cases h2
    rfl) else isFalse fun e => h ⟨by rw [e], by rw [e]⟩
def encK (k : Str × Bool) : PyData := .tuple [.str k.1, .bool k.2]
def encC (c : Str × Str × Str × Bool) : PyData := .tuple [.str c.1, .str c.2.1, .str c.2.2.1, .str (ruleS c.2.2.2)]
theorem eqvAll_map {α : Type} [DecidableEq α] (enc : α → PyData) (h : ∀ a b, PyData.eqv (enc a) (enc b) = decide (a = b)) : ∀ l1 l2 : List α, PyData.eqvAll (l1.map enc) (l2.map enc) = decide (l1 = l2)
  | [], [] => by simp [PyData.eqvAll]
  | a :: l, [] => by simp [PyData.eqvAll]
  | [], b :: l => by simp [PyData.eqvAll]
  | a :: l1, b :: l2 => by
    rw [List.map_cons, List.map_cons, PyData.eqvAll, h, eqvAll_map enc h l1 l2]
    by_cases h1 : a = b <;> by_cases h2 : l1 = l2 <;> simp [h1, h2]
theorem eqv_str (a b : Str) : PyData.eqv (.str a) (.str b) = decide (a = b) := by
  rw [PyData.eqv]
  by_cases h : a = b
  · simp [h]
  · rw [decide_eq_false h]
    exact beq_eq_false_iff_ne.mpr h
theorem eqv_encK (a b : Str × Bool) : PyData.eqv (encK a) (encK b) = decide (a = b) := by
  obtain ⟨x, y⟩ := a
  obtain ⟨u, v⟩ := b
  unfold encK
  simp only [PyData.eqv, PyData.eqvAll, Bool.and_true]
  by_cases h1 : x = u <;> cases y <;> cases v <;> simp [h1]
theorem ruleS_inj : ∀ {a b : Bool}, ruleS a = ruleS b → a = b
  | true, true, _ => rfl
  | false, false, _ => rfl
  | true, false, h => absurd h (by decide +kernel)
  | false, true, h => absurd h (by decide +kernel)
theorem eqv_encC (a b : Str × Str × Str × Bool) : PyData.eqv (encC a) (encC b) = decide (a = b) := by
  obtain ⟨x, y, z, r⟩ := a
  obtain ⟨u, v, w, q⟩ := b
  unfold encC
  simp only [PyData.eqv, PyData.eqvAll, Bool.and_true]
  have hr : (ruleS r == ruleS q) = decide (r = q) := by
    by_cases h : r = q
    · simp [h]
    · rw [decide_eq_false h]
      exact beq_eq_false_iff_ne.mpr fun e => h (ruleS_inj e)
  have hs : ∀ a b : Str, (a == b) = decide (a = b) := fun a b => by
    by_cases h : a = b
    · simp [h]
    · rw [decide_eq_false h]
      exact beq_eq_false_iff_ne.mpr h
  rw [hs x u, hs y v, hs z w, hr]
  by_cases h1 : x = u <;> by_cases h2 : y = v <;> by_cases h3 : z = w <;> by_cases h4 : r = q <;> simp [h1, h2, h3, h4]
theorem shp_eq (A B : Shp) : decide (A = B) = (decide (A.ks = B.ks) && decide (A.cs = B.cs)) := by
  obtain ⟨a, b⟩ := A
  obtain ⟨c, d⟩ := B
  by_cases h1 : a = c <;> by_cases h2 : b = d <;> simp [h1, h2]
theorem nm_strOk {z : Str} (h : Nm z) : PyData.strOk z = true := okB_strOk (nm_ok h)
theorem shaped_tup {ds : List PyData} (h : ∀ d ∈ ds, Flat d) : SeqAt.shaped (.tuple ds) = true := by
  obtain ⟨a, b⟩ := flat_all h
  unfold SeqAt.shaped
  have e : PyData.depth (.tuple ds) ≤ 64 := by
    rw [PyData.depth]
    omega
  rw [decide_eq_true e, PyData.canLay0, a]
  rfl
theorem flat_str {z : Str} (h : PyData.strOk z = true) : Flat (.str z) := ⟨by simp [PyData.canLay0, h], by simp [PyData.depth]⟩
theorem flat_encK {k : Str × Bool} (h : Nm k.1) : Flat (encK k) := by
  have e := nm_strOk h
  exact ⟨by simp [encK, PyData.canLay0, PyData.canLayAll0, e], by simp [encK, PyData.depth, PyData.depthAll]⟩
theorem flat_encC {c : Str × Str × Str × Bool} (h1 : Nm c.1) (h2 : Nm c.2.1) (h3 : Nm c.2.2.1) : Flat (encC c) := by
  have e1 := nm_strOk h1
  have e2 := nm_strOk h2
  have e3 := nm_strOk h3
  have e4 : PyData.strOk (ruleS c.2.2.2) = true := by cases c.2.2.2 <;> decide +kernel
  exact ⟨by simp [encC, PyData.canLay0, PyData.canLayAll0, e1, e2, e3, e4], by simp [encC, PyData.depth, PyData.depthAll]⟩
theorem dp_tups {α : Type} {K : PySem.W.Frag} {H : Hp} {f : α → List V} {g : α → List PyData} : ∀ {l : List α} {xs : List V}, TupsAt H xs (l.map f) → (∀ a ∈ l, DpAll K H (f a) (g a)) → DpAll K H xs (l.map fun a => .tuple (g a))
  | [], _, .nil, _ => .nil
  | a :: l, _, .cons ⟨t, e, ht⟩ r, h => by
    subst e
    exact .cons (.tup (.inl (.inl ht)) (h a (.head _))) (dp_tups r fun b hb => h b (.tail _ hb))
theorem dp_kinds {K : PySem.W.Frag} {H : Hp} {B : Shp} {xs : List V} (h : TupsAt H xs (B.ks.map kindV)) : DpAll K H xs (B.ks.map encK) := dp_tups (g := fun k : Str × Bool => [.str k.1, .bool k.2]) h fun a _ => .cons (.str _) (.cons (.bl _) .nil)
theorem dp_cols {K : PySem.W.Frag} {H : Hp} {B : Shp} {xs : List V} (h : TupsAt H xs (B.cs.map colV)) : DpAll K H xs (B.cs.map encC) := dp_tups (g := fun c : Str × Str × Str × Bool => [.str c.1, .str c.2.1, .str c.2.2.1, .str (ruleS c.2.2.2)]) h fun a _ => .cons (.str _) (.cons (.str _) (.cons (.str _) (.cons (.str _) .nil)))
theorem dp_strs {K : PySem.W.Frag} {H : Hp} : ∀ ts : List Str, DpAll K H (ts.map V.str) (ts.map PyData.str)
  | [] => .nil
  | t :: r => .cons (.str t) (dp_strs r)
theorem shaped_kinds {B : Shp} (hB : B.Fine) : SeqAt.shaped (.tuple (B.ks.map encK)) = true := shaped_tup fun d hd => by
  obtain ⟨k, hk, rfl⟩ := List.mem_map.mp hd
  exact flat_encK (hB.nm _ (List.mem_append_left _ (List.mem_map_of_mem hk)))
theorem shaped_cols {B : Shp} (hB : B.Fine) : SeqAt.shaped (.tuple (B.cs.map encC)) = true := shaped_tup fun d hd => by
  obtain ⟨c, hc, rfl⟩ := List.mem_map.mp hd
  exact flat_encC (hB.nm _ (List.mem_append_right _ (List.mem_map_of_mem hc))) (hB.nm _ (List.mem_append_left _ (hB.home c hc))) (hB.nm _ (List.mem_append_left _ (hB.goal c hc)))
theorem shaped_strs {ts : List Str} (h : ∀ z ∈ ts, PyData.strOk z = true) : SeqAt.shaped (.tuple (ts.map PyData.str)) = true := shaped_tup fun d hd => by
  obtain ⟨z, hz, rfl⟩ := List.mem_map.mp hd
  exact flat_str (h z hz)
/-- what isinstance asks of the class -/
structure ClsI (K : PySem.W.Frag) (C : Addr) : Prop where
  ca : PySem.W.findIn K (.ref C) "__class__" = some (some (.builtin "object.__class__"))
  cn : PySem.W.specialIn K (.builtin "object.__class__") "__get__" = some (some (.builtin "getset_descriptor.__get__"))
  ct : PySem.W.takesIn K (.builtin "object.__class__") = some true
  cm : PySem.W.mroIn K C (.type "object") = some true
  ck : PySem.W.kitOne K (.ref C) (.ref C) = some true
def clsIB (K : PySem.W.Frag) (C : Addr) : Bool := decide (PySem.W.findIn K (.ref C) "__class__" = some (some (.builtin "object.__class__"))) && (decide (PySem.W.specialIn K (.builtin "object.__class__") "__get__" = some (some (.builtin "getset_descriptor.__get__"))) &&
  (decide (PySem.W.takesIn K (.builtin "object.__class__") = some true) && (decide (PySem.W.mroIn K C (.type "object") = some true) && decide (PySem.W.kitOne K (.ref C) (.ref C) = some true))))
theorem clsIB_ok {K : PySem.W.Frag} {C : Addr} (h : clsIB K C = true) : ClsI K C := by
  unfold clsIB at h
  obtain ⟨h1, h⟩ := Bool.and_eq_true_iff.mp h
  obtain ⟨h2, h⟩ := Bool.and_eq_true_iff.mp h
  obtain ⟨h3, h⟩ := Bool.and_eq_true_iff.mp h
  obtain ⟨h4, h5⟩ := Bool.and_eq_true_iff.mp h
  exact ⟨of_decide_eq_true h1, of_decide_eq_true h2, of_decide_eq_true h3, of_decide_eq_true h4, of_decide_eq_true h5⟩
section
variable {P : Program} {w : World} {K : PySem.W.Frag} {mg : Str → Option Value} {base : Heap}
abbrev s_Book__has_shape_of : Stmt := inClass (topS 20) 18
theorem sc_Book__has_shape_of : FnScope ["self", "other"] ["self", "other"] (defScope s_Book__has_shape_of) := ⟨rfl, rfl, rfl, by decide +kernel, rfl, by decide +kernel, by decide +kernel⟩
abbrev N_Book__has_shape_of : List Str := ["self", "other"]
def spShapeOf (C : Addr) : Sp := fun vs H Q _ => ∃ (o u : Addr) (A B : Shp) (ck dk : List Str), vs = [.ref o, .ref u] ∧ BookS C H o A ck ∧ BookS C H u B dk ∧ A.Fine ∧ B.Fine ∧ Q (.bl (decide (A = B))) H
theorem ok_shapeOf {C : Addr} {f : Addr} {fd : FuncData} (F : Fun K "_has_shape_of" "Book._has_shape_of" s_Book__has_shape_of f fd) (T : Bt mg) (TB : BkT K C) : FnOk P w K mg base CX0 1 f fd ["self", "other"] (spShapeOf C) := by
  refine F.ok sc_Book__has_shape_of (fun vs H Q E h => ?_) (fun cdv A outer s H vs Q E hr h => ?_)
  · obtain ⟨o, u, A, B, ck, dk, rfl, _⟩ := h
    rfl
  · obtain ⟨o, u, A', B, ck, dk, rfl, ⟨dx, k, c, m, x, kx, cx, h1, h2, h3, h4, h5, h6, h7⟩, ⟨dx', k', c', m', x', kx', cx', g1, g2, g3, g4, g5, g6, g7⟩, hA, hB, q⟩ := h
    have hu := hu_of hr
    refine ⟨_, (pss_one (ps_ret (pe_and (pe_cmpR (eqD K hr) (pe_fld (pv 0) rfl) (pe_fld (pv 1) rfl) (nomark _)) (pe_one (pe_cmpR (eqD K hr) (pe_fld (pv 0) rfl) (pe_fld (pv 1) rfl) (nomark _)))))), ?_⟩
    rw [ksU_rows] at h3 g3
    rw [csU_rows] at h5 g5
    walk_at "ls"
    refine ⟨o, C, dx, _, _, rfl, h1, TB.cl, TB.nk, bookF_k, ?_⟩
    walk_at "ls"
    refine ⟨u, C, dx', _, _, rfl, g1, TB.cl, TB.nk, bookF_k, ?_⟩
    refine ⟨.tuple (A'.ks.map encK), .tuple (B.ks.map encK), .tup (.inl (.inl h2)) (dp_kinds h3), .tup (.inl (.inl g2)) (dp_kinds g3), shaped_kinds hA, shaped_kinds hB, ?_⟩
    rw [PyData.eqv, eqvAll_map encK eqv_encK]
    rw [shp_eq] at q
    refine ⟨_, rfl, ?_⟩
    by_cases e1 : A'.ks = B.ks
    · rw [decide_eq_true e1, Bool.true_and] at q
      rw [decide_eq_true e1]
      refine iteT ?_
      walk_at "ls"
      refine ⟨o, C, dx, _, _, rfl, h1, TB.cl, TB.nc, bookF_c, ?_⟩
      walk_at "ls"
      refine ⟨u, C, dx', _, _, rfl, g1, TB.cl, TB.nc, bookF_c, ?_⟩
      refine ⟨.tuple (A'.cs.map encC), .tuple (B.cs.map encC), .tup (.inl (.inl h4)) (dp_cols h5), .tup (.inl (.inl g4)) (dp_cols g5), shaped_cols hA, shaped_cols hB, ?_⟩
      rw [PyData.eqv, eqvAll_map encC eqv_encC]
      exact q
    · rw [decide_eq_false e1, Bool.false_and] at q
      rw [decide_eq_false e1]
      exact iteF q
abbrev s_Book_eq : Stmt := inClass (topS 20) 14
theorem sc_Book_eq : FnScope ["self", "other"] ["self", "other"] (defScope s_Book_eq) := ⟨rfl, rfl, rfl, by decide +kernel, rfl, by decide +kernel, by decide +kernel⟩
abbrev N_Book_eq : List Str := ["self", "other"]
/-- no book -/
def NoBk (K : PySem.W.Frag) (C : Addr) (H : Hp) (v : V) : Prop := ∃ t, TyX K H v t ∧ PySem.W.kitOne K t (.ref C) = some false
def spEqB (K : PySem.W.Frag) (C : Addr) : Sp := fun vs H Q _ => ∃ (o : Addr) (v : V) (A : Shp) (ck : List Str), vs = [.ref o, v] ∧ BookS C H o A ck ∧ A.Fine ∧ (∀ z ∈ ck, PyData.strOk z = true) ∧
  ((NoBk K C H v ∧ Q (.bl false) H) ∨ ∃ (u : Addr) (B : Shp) (dk : List Str), v = .ref u ∧ BookS C H u B dk ∧ B.Fine ∧ (∀ z ∈ dk, PyData.strOk z = true) ∧ Q (.bl (decide (A = B) && decide (ck = dk))) H)
theorem ok_eqB {C : Addr} {f : Addr} {fd : FuncData} (F : Fun K "__eq__" "Book.__eq__" s_Book_eq f fd) (T : Bt mg) (TB : BkT K C) (CI : ClsI K C) (gl_Book : mg "Book" = some (.ref C)) (O_Book__has_shape_of : OwnM P w K mg base CX0 1 C "_has_shape_of" ["self", "other"] (spShapeOf C)) :
    FnOk P w K mg base CX0 2 f fd ["self", "other"] (spEqB K C) := by
  refine F.ok sc_Book_eq (fun vs H Q E h => ?_) (fun cdv A outer s H vs Q E hr h => ?_)
  · obtain ⟨o, v, A, ck, rfl, _⟩ := h
    rfl
  · obtain ⟨o, v, A', ck, rfl, hA1, hA, hck, q⟩ := h
    have hu := hu_of hr
    refine ⟨_, (pss_one (ps_ret (pe_and (pe_callB call_isi (by rfl) T.m_isinstance (by decide +kernel) (pa_cons (pv 1) (pa_cons (glob_ref gl_Book) pa_nil))) (pe_and (own_meth O_Book__has_shape_of hr (by first | decide | omega) (pv 0) (pa_cons (pv 1) pa_nil)) (pe_one (pe_cmpR (eqD K hr) (pe_fld (pv 0) rfl) (pe_fld (pv 1) rfl) (nomark _))))))), ?_⟩
    obtain ⟨dx, k, c, m, x, kx, cx, h1, h2, h3, h4, h5, h6, h7⟩ := id hA1
    refine ⟨_, rfl, ?_⟩
    rcases q with ⟨⟨t, ht, kt⟩, q⟩ | ⟨u, B, dk, rfl, hB1, hB, hdk, q⟩
    · exact ⟨_, _, _, _, false, rfl, .own C, ht, kt, _, rfl, iteF q⟩
    · obtain ⟨dx', k', c', m', x', kx', cx', g1, g2, g3, g4, g5, g6, g7⟩ := id hB1
      refine ⟨_, _, _, _, true, rfl, .own C, .base (.ins g1 TB.cl CI.ca CI.cn CI.ct CI.cm), CI.ck, _, rfl, iteT ?_⟩
      walk_at "ls"
      refine ⟨o, _, _, rfl, h1, bookF_no (by decide +kernel) (by decide +kernel) (by decide +kernel) (by decide +kernel), ?_⟩
      walk_at "ls"
      refine ⟨o, u, A', B, ck, dk, rfl, hA1, hB1, hA, hB, ?_⟩
      refine ⟨_, rfl, ?_⟩
      by_cases e1 : A' = B
      · rw [decide_eq_true e1, Bool.true_and] at q
        rw [decide_eq_true e1]
        refine iteT ?_
        walk_at "ls"
        refine ⟨o, C, dx, _, _, rfl, h1, TB.cl, TB.nx, bookF_x, ?_⟩
        walk_at "ls"
        refine ⟨u, C, dx', _, _, rfl, g1, TB.cl, TB.nx, bookF_x, ?_⟩
        refine ⟨.tuple (ck.map PyData.str), .tuple (dk.map PyData.str), .tup (.inl (.inl h7)) (dp_strs ck), .tup (.inl (.inl g7)) (dp_strs dk), shaped_strs hck, shaped_strs hdk, ?_⟩
        rw [PyData.eqv, eqvAll_map PyData.str eqv_str]
        exact q
      · rw [decide_eq_false e1, Bool.false_and] at q
        rw [decide_eq_false e1]
        exact iteF q
end
end Ls
namespace Ls
open PySem PySem.Spec PyProof.Rows L2
/-! ### x op y by x's own method, y a thing of a built-in type -/
section
variable {prog : Program} {w : World} {A : Around} {E : Value → Shared → Prop} {s : Shared} {K : PySem.W.Frag} {x C L f : Addr} {h₀ : Heap} {m : Str → Option Value} {ox : Obj} {od : Option Obj}
theorem binop_far {op : Operator} {b : Value} {T : String} {Q : Value → Shared → Prop} (F : PyProof.Rows.Fr h₀ L s.heap m) (X₀ : K.In h₀) (I : PySem.W.InstAt s.heap x ox C od) (hb : PySem.W.Looks (model prog w) s.heap (typeOf b) (.type T)) (hfill : fillsNumberSlot (.type T) op.info.2 = pure false) (hc : PySem.W.selfFirst K C = true)
    (hs : PySem.W.findIn K (.ref C) (PySem.dunder op.info.2) = some (some (.ref f))) (hf : PySem.W.isFn K (.ref f) = true)
    (h : wpAny (model prog w) A (call (.ref f) [.ref x, b]) (PySem.W.CmpBack Q) E s) : wpAny (model prog w) A (binaryOp op (.ref x) b) Q E s := by
  have X := X₀.keeps F.keep
  obtain ⟨cd, hcd, hm⟩ := PySem.W.any_some hc
  obtain ⟨rest, hm⟩ : ∃ rest, cd.mro = .ref C :: rest := by
    cases q : cd.mro with
    | nil => rw [q] at hm; cases hm
    | cons a r => rw [q] at hm; exact ⟨r, by rw [List.head?_cons] at hm; cases (beq_iff_eq.mp hm); rfl⟩
  unfold binaryOp
  refine wpAny_holding (wpAny_bind ?_)
  unfold binaryOp1
  refine wpAny_bind (I.type.here (wpAny_bind (hb.here (wpAny_bind ((PySem.W.fills_K X hcd hm hs).here ?_)))))
  rw [if_neg (show ¬ ((Value.ref C == Value.type T) = true) from fun z => nomatch (show false = true from z))]
  refine wpAny_bind (wpAny_of_eq hfill ?_)
  simp only [Bool.and_false, Bool.false_eq_true, if_false, Bool.false_and]
  refine wpAny_bind (wpAny_pure ?_)
  simp only [Bool.false_eq_true, if_false]
  refine wpAny_bind (m := tryMethod (.ref x) _ b) ?_
  unfold tryMethod
  refine wpAny_bind (PySem.W.special_fn X I hs (beq_iff_eq.mp hf) (wpAny_mono h (fun v s' hv => ?_) fun _ _ e => e))
  cases v <;> first | exact hv.elim | exact wpAny_pure (wpAny_pure (wpAny_pure hv))
theorem slotPy {M : Model} {h : Heap} {nm : String} (X : K.In h) (hs : PySem.W.findIn K (.ref C) (PySem.dunder nm) = some (some (.ref f))) (hr : PySem.W.findIn K (.ref C) (PySem.dunderR nm) = some none) : PySem.W.Looks M h (numberSlotInPython (.ref C) nm) true := by
  intro A Q E s k q
  unfold numberSlotInPython
  refine wpAny_bind (PySem.W.looks_findIn X hs A _ E s k ?_)
  refine wpAny_bind (wpAny_pure ?_)
  refine wpAny_bind (PySem.W.looks_findIn X hr A _ E s k ?_)
  refine wpAny_bind (wpAny_pure ?_)
  exact wpAny_pure q
/-- y's type fills the slot too (a number): x's method is asked first all the same -/
theorem binop_num {op : Operator} {b : Value} {T : String} {t : Option Value} {Q : Value → Shared → Prop} (F : PyProof.Rows.Fr h₀ L s.heap m) (X₀ : K.In h₀) (I : PySem.W.InstAt s.heap x ox C od) (hb : PySem.W.Looks (model prog w) s.heap (typeOf b) (.type T)) (hfill : fillsNumberSlot (.type T) op.info.2 = pure true) (hc : PySem.W.selfFirst K C = true)
    (hs : PySem.W.findIn K (.ref C) (PySem.dunder op.info.2) = some (some (.ref f))) (hr : PySem.W.findIn K (.ref C) (PySem.dunderR op.info.2) = some none) (hsub : PySem.W.subIn K (.type T) (.ref C) = some false) (ht : PySem.W.findIn K (.type T) (PySem.dunderR op.info.2) = some t) (hf : PySem.W.isFn K (.ref f) = true)
    (h : wpAny (model prog w) A (call (.ref f) [.ref x, b]) (PySem.W.CmpBack Q) E s) : wpAny (model prog w) A (binaryOp op (.ref x) b) Q E s := by
  have X := X₀.keeps F.keep
  obtain ⟨cd, hcd, hm⟩ := PySem.W.any_some hc
  obtain ⟨rest, hm⟩ : ∃ rest, cd.mro = .ref C :: rest := by
    cases q : cd.mro with
    | nil => rw [q] at hm; cases hm
    | cons a r => rw [q] at hm; exact ⟨r, by rw [List.head?_cons] at hm; cases (beq_iff_eq.mp hm); rfl⟩
  unfold binaryOp
  refine wpAny_holding (wpAny_bind ?_)
  unfold binaryOp1
  refine wpAny_bind (I.type.here (wpAny_bind (hb.here (wpAny_bind ((PySem.W.fills_K X hcd hm hs).here ?_)))))
  rw [if_neg (show ¬ ((Value.ref C == Value.type T) = true) from fun z => nomatch (show false = true from z))]
  refine wpAny_bind (wpAny_of_eq hfill ?_)
  simp only [Bool.and_self, if_true]
  refine wpAny_bind ((PySem.W.looks_subIn X hsub).here ?_)
  simp only [Bool.false_eq_true, if_false, Bool.not_false, Bool.and_self, if_true]
  refine wpAny_bind ((slotPy X hs hr).here ?_)
  rw [if_pos rfl]
  refine wpAny_bind (wpAny_of_eq (show numberSlotInPython (.type T) _ = pure false from rfl) ?_)
  rw [if_pos (show (!false) = true from rfl)]
  refine wpAny_bind ((PySem.W.looks_findIn X ht).here ?_)
  refine wpAny_bind (m := tryMethod (.ref x) _ b) ?_
  unfold tryMethod
  refine wpAny_bind (PySem.W.special_fn X I hs (beq_iff_eq.mp hf) (wpAny_mono h (fun v s' hv => ?_) fun _ _ e => e))
  cases v <;> first | exact hv.elim | exact wpAny_pure (wpAny_pure (wpAny_pure hv))
theorem fills_look {T nm : String} {a r : Option Value} (ha : PySem.W.findIn K (.type T) (PySem.dunder nm) = some a) (hr : PySem.W.findIn K (.type T) (PySem.dunderR nm) = some r) : fillsNumberSlot (.type T) nm = pure ((a.isSome && !isSeqSlot a) || (r.isSome && !isSeqSlot r)) := by
  have h1 : typeLookup (.type T) (PySem.dunder nm) = pure a := by rw [typeLookup_type, builtinLookup_eq_fast, show fastLookup T _ = some a from ha]
  have h2 : typeLookup (.type T) (PySem.dunderR nm) = pure r := by rw [typeLookup_type, builtinLookup_eq_fast, show fastLookup T _ = some r from hr]
  unfold fillsNumberSlot
  simp only [h1, h2, pure_bind]
/-- what is asked of the right operand's type -/
structure FarT (K : PySem.W.Frag) (C : Addr) (nm : String) (T : String) : Prop where
  look : ∃ a r, PySem.W.findIn K (.type T) (PySem.dunder nm) = some a ∧ PySem.W.findIn K (.type T) (PySem.dunderR nm) = some r
  sub : PySem.W.subIn K (.type T) (.ref C) = some false
theorem binop_any {op : Operator} {b : Value} {T : String} {Q : Value → Shared → Prop} (F : PyProof.Rows.Fr h₀ L s.heap m) (X₀ : K.In h₀) (I : PySem.W.InstAt s.heap x ox C od) (hb : PySem.W.Looks (model prog w) s.heap (typeOf b) (.type T)) (hT : FarT K C op.info.2 T) (hc : PySem.W.selfFirst K C = true)
    (hs : PySem.W.findIn K (.ref C) (PySem.dunder op.info.2) = some (some (.ref f))) (hr : PySem.W.findIn K (.ref C) (PySem.dunderR op.info.2) = some none) (hf : PySem.W.isFn K (.ref f) = true)
    (h : wpAny (model prog w) A (call (.ref f) [.ref x, b]) (PySem.W.CmpBack Q) E s) : wpAny (model prog w) A (binaryOp op (.ref x) b) Q E s := by
  obtain ⟨⟨a, r, h1, h2⟩, h3⟩ := hT
  have hfill := fills_look h1 h2
  cases e : (a.isSome && !isSeqSlot a) || (r.isSome && !isSeqSlot r) with
  | true =>
    rw [e] at hfill
    exact binop_num F X₀ I hb hfill hc hs hr h3 h2 hf h
  | false =>
    rw [e] at hfill
    exact binop_far F X₀ I hb hfill hc hs hf h
end
/-- x op y by x's own method, which may raise; y of the same class, or of a built-in type -/
def tBinR (K : PySem.W.Frag) (C : Addr) (nm : String) (sp : Sp) (W : WX) (ta tb : TE) : TE := fun σ H Q => ta σ H fun x H1 => tb σ H1 fun y H2 => ∃ a dx fs, x = .ref a ∧ H2 a = some (.ins C dx fs) ∧
  (TyX K H2 y (.ref C) ∨ ∃ T, TyX K H2 y (.type T) ∧ FarT K C nm T) ∧ sp [x, y] H2 (fun v H' => (∃ b, v = .ref b) ∧ Q v H') (WE W σ)
section
variable {X : Cx} {W : WX} {k j : Nat} {C : Addr} {ps : List Str} {sp : Sp} {a b : Expr} {ta tb : TE} {pos : Pos}
theorem own_binR {op : Operator} (O : OwnMR X.prog X.w X.K X.mg X.base k C (PySem.dunder op.info.2) ps sp) (hr : Room j X.A) (hkj : k ≤ j) (tk : Takes X W) (hc : PySem.W.selfFirst X.K C = true) (hrr : PySem.W.findIn X.K (.ref C) (PySem.dunderR op.info.2) = some none)
    (ha : PE X a ta) (hb : PE X b tb) : PE X (.BinOp a op b pos) (tBinR X.K C op.info.2 sp W ta tb) := by
  obtain ⟨f, fd, F, me, bb⟩ := O.ex
  refine ⟨fun pins s σ H Q I h => ?_⟩
  refine wpAny_BinOp (binT ha hb I h fun v u s2 x y H2 I2 rx ry q => ?_)
  obtain ⟨o, dx, fs, rfl, ho, hy, q⟩ := q
  cases rx
  obtain ⟨mA, J, _⟩ := ins_get I2.hok ho
  obtain ⟨od, J, _⟩ := J.look
  obtain ⟨m, hF⟩ := I2.fr
  have run : wpAny (model X.prog X.w) X.A (call (.ref f) [.ref o, u]) (PySem.W.CmpBack (EP X pins σ Q)) X.xe s2 := by
    refine wpAny_mono (run_fnS (us := [.ref o, u]) (vs := [.ref o, y]) F (hr.mono hkj) bb (passAt tk σ) I2 (.cons rfl (.cons ry .nil)) q) (fun v s' z => ?_) fun _ _ z => z
    obtain ⟨z', H', I', rz, ⟨n, rfl⟩, qz⟩ := z
    cases rz
    exact ⟨.ref n, H', I', rfl, qz⟩
  rcases hy with ty | ⟨T, ty, hT⟩
  · obtain ⟨P, kx, hP, _⟩ := kit_of I2 ry ty
    exact PySem.W.binop_K hF I2.ok.mod.kin J (kx.ty _ _ I2.kIn hP) hc me.at_ me.fn run
  · obtain ⟨P, kx, hP, _⟩ := kit_of I2 ry ty
    exact binop_any hF I2.ok.mod.kin J (kx.ty _ _ I2.kIn hP) hT hc me.at_ hrr me.fn run
end
end Ls
namespace Ls
open PySem PySem.Spec PyProof.Rows L2
/-! ### comprehensions over rows of things -/
section
variable {J : It} {n : Nat} {G : Hp → Prop} {Y : Nat → Hp → V → Hp → Prop} {α : Type}
def madeR (l : List α) (f : α → Option V) (i : Nat) : List V := (l.take i).filterMap f
theorem madeR_yes {l : List α} {f : α → Option V} {i : Nat} {a : α} {y : V} (ha : l[i]? = some a) (hf : f a = some y) : madeR l f (i + 1) = madeR l f i ++ [y] := by
  unfold madeR
  rw [List.take_add_one, ha, List.filterMap_append]
  simp [hf]
theorem madeR_no {l : List α} {f : α → Option V} {i : Nat} {a : α} (ha : l[i]? = some a) (hf : f a = none) : madeR l f (i + 1) = madeR l f i := by
  unfold madeR
  rw [List.take_add_one, ha, List.filterMap_append]
  simp [hf]
theorem madeR_len (l : List α) (f : α → Option V) (i : Nat) : (madeR l f i).length ≤ i := by
  unfold madeR
  exact Nat.le_trans (List.length_filterMap_le _ _) (by rw [List.length_take]; exact Nat.min_le_left _ _)
/-- a comprehension whose turns leave the heap as it is; each item stands for a thing of l, f tells what it gives -/
theorem lc_rows (w : Walk J n G Y) (xs : List V) (l : List α) (f : α → Option V) (hn : l.length = n) (hY : ∀ i H x H', i < n → Y i H x H' → H' = H ∧ xs[i]? = some x) {g : TG} {tt : TT} {te : TE} {vs : List Nat} {σ : L2.St} {H1 : Hp} {D : Addr} {Qd : Hp → Prop}
    (hz : n < sizeLine) (hG : ∀ acc, G (upd H1 D (.lst acc)))
    (hs : ∀ i x a, i < n → xs[i]? = some x → l[i]? = some a → g x (wipe σ vs) (upd H1 D (.lst (madeR l f i))) fun σ2 H2 => wipe σ2 vs = wipe σ vs ∧ tt σ2 H2 fun b H3 =>
      if b = true then te σ2 H3 fun y H4 => ∃ acc, H4 D = some (.lst acc) ∧ acc.length < sizeLine ∧ upd H4 D (.lst (acc ++ [y])) = upd H1 D (.lst (madeR l f (i + 1))) else H3 = upd H1 D (.lst (madeR l f (i + 1))))
    (hd : Qd (upd H1 D (.lst (l.filterMap f)))) :
    ∃ W : Nat → Nat → Hp → Prop, (∃ m, W 0 m (upd H1 D (.lst []))) ∧ ∀ i m H, W i m H →
      (J.stop i H ∧ Qd H) ∨ (J.go i H ∧ ∃ Nx : Hp → Prop, (∀ H', Nx H' → ∃ m', m' < m ∧ W (i + 1) m' H') ∧ ∀ x H', J.yld i H x H' → g x (wipe σ vs) H' fun σ2 H2 => wipe σ2 vs = wipe σ vs ∧ tt σ2 H2 fun b H3 =>
        if b = true then te σ2 H3 fun y H4 => ∃ acc, H4 D = some (.lst acc) ∧ acc.length < sizeLine ∧ Nx (upd H4 D (.lst (acc ++ [y]))) else Nx H3) := by
  refine lc_it w (fun i H => H = upd H1 D (.lst (madeR l f i))) rfl (fun i H _ e => by rw [e]; exact hG _) (fun i x H H' hi e y => ?_) (fun H e => ?_)
  · obtain ⟨e2, hx⟩ := hY i H x H' hi y
    have hi2 : i < l.length := by omega
    rw [e2, e]
    exact hs i x l[i] hi hx (List.getElem?_eq_getElem hi2)
  · have : madeR l f n = l.filterMap f := by unfold madeR; rw [← hn, List.take_length]
    rw [e, this]
    exact hd
theorem lr_yes {l : List α} {f : α → Option V} {i : Nat} {a : α} {y : V} {H1 : Hp} {D : Addr} {n : Nat} (ha : l[i]? = some a) (hi : i < n) (hz : n < sizeLine) (hf : f a = some y) :
    ∃ acc, (upd H1 D (.lst (madeR l f i))) D = some (.lst acc) ∧ acc.length < sizeLine ∧ upd (upd H1 D (.lst (madeR l f i))) D (.lst (acc ++ [y])) = upd H1 D (.lst (madeR l f (i + 1))) :=
  ⟨_, upd_same, Nat.lt_of_le_of_lt (madeR_len _ _ _) (Nat.lt_trans hi hz), by rw [upd_upd, madeR_yes ha hf]⟩
theorem lr_no {l : List α} {f : α → Option V} {i : Nat} {a : α} {H1 : Hp} {D : Addr} (ha : l[i]? = some a) (hf : f a = none) : upd H1 D (.lst (madeR l f i)) = upd H1 D (.lst (madeR l f (i + 1))) := by rw [madeR_no ha hf]
end
/-- a choice whose value is known -/
theorem tIf_to {t : TT} {ta tb : TE} {σ : L2.St} {H : Hp} {Q : VK} (v : V) (h : ∀ Q' : VK, Q' v H → tIf t ta tb σ H Q') (hq : Q v H) : tIf t ta tb σ H Q := h Q hq
theorem set_go {i : Nat} {x : V} {σ : L2.St} {H : Hp} {Q : L2.St → Hp → Prop} (h : Q (σ.set i (some x)) H) : gName i x σ H Q := h
theorem seq_go {a b : TS} {D : Ends} {σ : L2.St} {H : Hp} (h : a { D with nx := b D } σ H) : tSeq a b D σ H := h
end Ls
namespace Ls
open PySem PySem.Spec PyProof.Rows L2
/-! ### a field where the context is bound -/
theorem pe_fldK {X : Cx} (K : PySem.W.Frag) {e : Expr} {f : Str} {pos : Pos} {ta : TE} (he : PE X e ta) (hb : attributeBase e f X.env (eval e X.env) = eval e X.env) (h : X.K = K := by rfl) : PE X (.Attribute e f pos) (tFld K ta f) := by subst h; exact pe_fld he hb
end Ls
namespace Ls
open PySem PySem.Spec PyProof.Rows L2
/-! ### short steps -/
local macro_rules | `(tactic| walk_at "ls_ne") => `(tactic| first | assumption | exact Ne.symm (by assumption) | exact ne_of_none (by assumption) (by assumption) | exact Ne.symm (ne_of_none (by assumption) (by assumption)))
local macro_rules | `(tactic| walk_at "ls_hp") => `(tactic| first
  | with_reducible assumption
  | exact upd_same
  | exact Eq.trans (upd_ne (by walk_at "ls_ne")) (by walk_at "ls_hp"))
local macro_rules | `(tactic| walk_at "ls_st") => `(tactic| first
  | with_reducible assumption
  | exact Stm.upd (by walk_at "ls_st") (by first | walk_at "ls_ne" | exact (Stm.noneS (by assumption) (by assumption)).1) (by first | walk_at "ls_ne" | exact (Stm.noneS (by assumption) (by assumption)).2))
local macro_rules | `(tactic| walk_at "ls1") => `(tactic| first
  | refine ⟨_, rfl, ?_⟩
  | refine ⟨_, _, rfl, rfl, ?_⟩
  | refine ⟨_, _, _, _, rfl, rfl, .inl (.inl (by walk_at "ls_hp")), rfl, ?_⟩
  | refine ⟨_, _, _, _, rfl, rfl, (by walk_at "ls_hp"), rfl, ?_⟩
  | refine ⟨rfl, _, rfl, ?_⟩
  | refine ⟨.inl ⟨rfl, _, .inl (.inl (by walk_at "ls_hp"))⟩, ?_⟩)
local macro_rules | `(tactic| walk_at "ls") => `(tactic| repeat (walk_at "ls1"))

/-! ### books joined -/
structure Shp.Fin (B : Shp) : Prop where
  fine : B.Fine
  nk : B.ks.length ≤ 10
  nc : B.cs.length ≤ 10
theorem menu_okF {B : Shp} (hB : B.Fine) : ∀ z ∈ menu B, okB 14 z = true := fun z hz => by
  unfold menu at hz
  rcases List.mem_append.mp hz with hz | hz
  · rcases List.mem_append.mp hz with hz | hz
    · obtain ⟨c, hc, h⟩ := List.mem_flatMap.mp hz
      exact with_ok (show ∀ a ∈ colW, okB 5 a = true by decide +kernel) (hB.nm _ (List.mem_append_right _ (List.mem_map_of_mem hc))) z h
    · obtain ⟨c, hc, h⟩ := List.mem_flatMap.mp hz
      exact with_ok (show ∀ a ∈ kindW, okB 5 a = true by decide +kernel) (hB.nm _ (List.mem_append_left _ (List.mem_map_of_mem hc))) z h
  · exact (show ∀ z ∈ bookW, okB 14 z = true by decide +kernel) z hz
theorem tups_rows {K : PySem.W.Frag} {H : Hp} : ∀ {xs : List V} {yss : List (List V)}, TupsAt H xs yss → RowsAt K H xs yss
  | _, _, .nil => .nil
  | _, _, .cons ⟨t, e, h⟩ r => .cons ⟨t, e, .inr (.inl (.inl h))⟩ (tups_rows r)
theorem strEq (a b : Str) : decide (V.str a = V.str b) = decide (a = b) := decide_eq_decide.mpr ⟨V.str.inj, fun e => by rw [e]⟩
theorem filterMap_if {α β : Type} (p : α → Bool) (g : α → β) : ∀ l : List α, l.filterMap (fun a => if p a = true then some (g a) else none) = (l.filter p).map g
  | [] => rfl
  | a :: l => by
    rw [List.filterMap_cons, List.filter_cons, filterMap_if p g l]
    cases p a <;> rfl
section
variable {P : Program} {w : World} {K : PySem.W.Frag} {mg : Str → Option Value} {base : Heap}
abbrev s_Book__want_check : Stmt := inClass (topS 20) 19
theorem sc_Book__want_check : FnScope ["self", "check"] ["self", "check"] (defScope s_Book__want_check) := ⟨rfl, rfl, rfl, by decide +kernel, rfl, by decide +kernel, by decide +kernel⟩
abbrev N_Book__want_check : List Str := ["self", "check"]
def spWantC (K : PySem.W.Frag) (C cX : Addr) : Sp := fun vs H Q E => ∃ (o : Addr) (v : V) (B : Shp) (ck : List Str), vs = [.ref o, v] ∧ BookS C H o B ck ∧ Thg K H v ∧
  match isWordV (menu B) v with
  | false => oneE cX "check" H E v
  | true => Q .non H
theorem ok_wantC {C cX : Addr} {f : Addr} {fd : FuncData} (F : Fun K "_want_check" "Book._want_check" s_Book__want_check f fd) (T : Bt mg) (TB : BkT K C) (O_is_word_of : Own P w K mg base CX0 1 "is_word_of" ["thing", "words"] (spWord K))
    (O_UnknownCheck : OwnX P w K mg base "UnknownCheck" ["check"] (spI1 cX "check") cX) : FnOk P w K mg base (L2.CX P w) 3 f fd ["self", "check"] (spWantC K C cX) := by
  refine F.okX sc_Book__want_check (fun vs H Q E h => ?_) (fun cdv A outer s H vs Q E hr h => ?_)
  · obtain ⟨o, v, B, ck, rfl, _⟩ := h
    rfl
  · obtain ⟨o, v, B, ck, rfl, ⟨dx, k, c, m, x, kx, cx, h1, h2, h3, h4, h5, h6, h7⟩, hv, q⟩ := h
    have hu := hu_of hr
    refine ⟨_, (pss_one (ps_if (pt_not (pt_val (own_call O_is_word_of hr (by first | decide | omega) (pa_cons (pv 1) (pa_cons (pe_fld (pv 0) rfl) pa_nil))))) (pss_one (ps_err rfl takes_def (pmk_err1 O_UnknownCheck (hr.mono (by decide)) (pa_cons (pv 1) pa_nil)))) pss_nil)), ?_⟩
    walk_at "ls"
    rw [menuU_is] at h6
    refine ⟨o, C, dx, _, _, rfl, h1, TB.cl, TB.nm, bookF_m, ?_⟩
    refine ⟨v, m, menu B, rfl, hv, .inr (.inl (.inl h6)), ?_⟩
    refine ⟨_, rfl, ?_⟩
    cases hw : isWordV (menu B) v with
    | false =>
      rw [hw] at q
      refine iteT ?_
      walk_at "ls"
      exact fun d hd => q _ d (Same.refl H) hd
    | true =>
      rw [hw] at q
      refine iteF ?_
      exact q
abbrev s_Book__with_checks : Stmt := inClass (topS 20) 17
theorem sc_Book__with_checks : FnScope ["self", "checks"] ["self", "checks"] (defScope s_Book__with_checks) := ⟨rfl, rfl, rfl, by decide +kernel, rfl, by decide +kernel, by decide +kernel⟩
abbrev N_Book__with_checks : List Str := ["self", "checks"]
def spWithC (K : PySem.W.Frag) (C : Addr) : Sp := fun vs H Q _ => ∃ (o p : Addr) (B : Shp) (ck cs : List Str), vs = [.ref o, .ref p] ∧ BookS C H o B ck ∧ B.Fin ∧ SqU K H p (cs.map V.str) ∧ (∀ z ∈ cs, z ∈ menu B) ∧ cs.length ≤ 1000 ∧
  ∀ (H' : Hp) (o2 : Addr), BookS C H' o2 B ((menu B).filter fun z => decide (z ∈ cs)) → Same H H' → Q (.ref o2) H'
theorem ok_withC {C : Addr} {A : ErrA} {f : Addr} {fd : FuncData} (F : Fun K "_with_checks" "Book._with_checks" s_Book__with_checks f fd) (TB : BkT K C) (O_Book : OwnCR P w K mg base 5 C "Book" ["self", "kinds", "columns", "checks"] (spInit K C A)) : FnOk P w K mg base CX0 7 f fd ["self", "checks"] (spWithC K C) := by
  refine F.ok sc_Book__with_checks (fun vs H Q E h => ?_) (fun cdv A' outer s H vs Q E hr h => ?_)
  · obtain ⟨o, p, B, ck, cs, rfl, _⟩ := h
    rfl
  · obtain ⟨o, p, B, ck, cs, rfl, ⟨dx, k, c, m, x, kx, cx, h1, h2, h3, h4, h5, h6, h7⟩, hB, hp, hcs, lcs, q⟩ := h
    have hu := hu_of hr
    refine ⟨_, (pss_one (ps_ret (own_makeR O_Book hr (by first | decide | omega) L2.takes0 (pa_cons (pe_fld (pv 0) rfl) (pa_cons (pe_fld (pv 0) rfl) (pa_cons (pv 1) pa_nil)))))), ?_⟩
    walk_at "ls"
    refine ⟨o, C, dx, _, _, rfl, h1, TB.cl, TB.nk, bookF_k, ?_⟩
    walk_at "ls"
    refine ⟨o, C, dx, _, _, rfl, h1, TB.cl, TB.nc, bookF_c, ?_⟩
    walk_at "ls"
    intro o2 dx2 ho hdx hne
    have s0 : Same H (upd (upd H dx2 (.own o2)) o2 (.ins C dx2 [])) := (same_new hdx).trans (same_new (by rw [upd_ne (Ne.symm hne)]; exact ho))
    have nk10 := hB.nk
    have nc10 := hB.nc
    have berr : bookErr (ksU B) (csU B) (cs.map V.str) = none := book_fine hB.fine hcs
    refine ⟨o2, dx2, k, c, p, kx, cx, cs.map V.str, ksU B, csU B, rfl, upd_same, .inr (.inl (.inl (s0 _ _ h2))), RowsAt.same (tups_rows h3) s0, .inr (.inl (.inl (s0 _ _ h4))), RowsAt.same (tups_rows h5) s0, Stays.sqU s0 hp, fun k hk => ?_, fun c hc => ?_, fun v hv => ?_, ?_, ?_, ?_, ?_⟩
    · obtain ⟨k0, hk0, rfl⟩ := List.mem_map.mp hk
      exact .inl ⟨_, rfl, Nat.le_trans (hB.fine.nm _ (List.mem_append_left _ (List.mem_map_of_mem hk0))).1.2.1 (by decide)⟩
    · obtain ⟨c0, hc0, rfl⟩ := List.mem_map.mp hc
      refine ⟨.inl ⟨_, rfl, Nat.le_trans (hB.fine.nm _ (List.mem_append_right _ (List.mem_map_of_mem hc0))).1.2.1 (by decide)⟩, .inl ⟨_, rfl, Nat.le_trans (hB.fine.nm _ (List.mem_append_left _ (hB.fine.home c0 hc0))).1.2.1 (by decide)⟩, .inl ⟨_, rfl, Nat.le_trans (hB.fine.nm _ (List.mem_append_left _ (hB.fine.goal c0 hc0))).1.2.1 (by decide)⟩, .inl ⟨_, rfl, ?_⟩⟩
      cases c0.2.2.2 <;> decide
    · obtain ⟨z, hz, rfl⟩ := List.mem_map.mp hv
      exact .inl ⟨_, rfl, Nat.le_trans (okB_len (menu_okF hB.fine z (hcs z hz))) (by decide)⟩
    · unfold ksU
      rw [List.length_map]
      omega
    · unfold csU
      rw [List.length_map]
      omega
    · rw [List.length_map]
      exact lcs
    · rw [berr]
      intro H2 hb2 bt
      rw [menuU_is, show (cs.map V.str).map strOf = cs by rw [List.map_map]; exact List.map_id cs] at hb2
      exact ⟨rfl, q H2 o2 hb2 fun b u e => bt b u (ne_of_none e ho) (s0 _ _ e)⟩
/-! ### + and - -/
abbrev s_Book_add : Stmt := inClass (topS 20) 10
theorem sc_Book_add : FnScope ["self", "check"] ["self", "check"] (defScope s_Book_add) := ⟨rfl, rfl, rfl, by decide +kernel, rfl, by decide +kernel, by decide +kernel⟩
abbrev N_Book_add : List Str := ["self", "check"]
def spAdd (K : PySem.W.Frag) (C cX : Addr) : Sp := fun vs H Q E => ∃ (o : Addr) (v : V) (B : Shp) (ck : List Str), vs = [.ref o, v] ∧ BookS C H o B ck ∧ B.Fin ∧ (∀ z ∈ ck, z ∈ menu B) ∧ ck.length ≤ 900 ∧ Thg K H v ∧
  match isWordV (menu B) v with
  | false => oneE cX "check" H E v
  | true => ∀ (H' : Hp) (o2 : Addr), BookS C H' o2 B ((menu B).filter fun z => decide (z ∈ ck ++ [strOf v])) → Same H H' → Q (.ref o2) H'
theorem ok_add {C cX : Addr} {f : Addr} {fd : FuncData} (F : Fun K "__add__" "Book.__add__" s_Book_add f fd) (TB : BkT K C) (O_Book__want_check : OwnMR P w K mg base 3 C "_want_check" ["self", "check"] (spWantC K C cX))
    (O_Book__with_checks : OwnM P w K mg base CX0 7 C "_with_checks" ["self", "checks"] (spWithC K C)) : FnOk P w K mg base (L2.CX P w) 8 f fd ["self", "check"] (spAdd K C cX) := by
  refine F.okX sc_Book_add (fun vs H Q E h => ?_) (fun cdv A outer s H vs Q E hr h => ?_)
  · obtain ⟨o, v, B, ck, rfl, _⟩ := h
    rfl
  · obtain ⟨o, v, B, ck, rfl, hb, hB, hck, lck, hv, q⟩ := h
    have hu := hu_of hr
    refine ⟨_, (pss_cons (ps_expr (own_methR O_Book__want_check hr (by first | decide | omega) takes_def (pv 0) (pa_cons (pv 1) pa_nil)))
      (pss_one (ps_ret (own_meth O_Book__with_checks hr (by first | decide | omega) (pv 0) (pa_cons (pe_lst (StX.pa_star (pe_fld (pv 0) rfl) (pa_cons (pv 1) pa_nil))) pa_nil))))), ?_⟩
    obtain ⟨dx, k, c, m, x, kx, cx, ho, h2, h3, h4, h5, h6, h7⟩ := id hb
    have no : ∀ {fl : Str}, ¬ fl = "_checks" → ¬ fl = "_menu" → ¬ fl = "_columns" → ¬ fl = "_kinds" → (bookF k c m x).lookup fl = none := fun h1 h2 h3 h4 => bookF_no h1 h2 h3 h4
    walk_at "ls"
    refine ⟨o, dx, _, rfl, ho, no (by decide +kernel) (by decide +kernel) (by decide +kernel) (by decide +kernel), ?_⟩
    walk_at "ls"
    refine ⟨o, v, B, ck, rfl, hb, hv, ?_⟩
    cases hw : isWordV (menu B) v with
    | false =>
      rw [hw] at q
      exact q
    | true =>
      rw [hw] at q
      obtain ⟨z, rfl⟩ : ∃ z, v = .str z := ⟨_, word_str hw⟩
      have hz : z ∈ menu B := of_decide_eq_true hw
      walk_at "ls"
      refine ⟨o, dx, _, rfl, ho, no (by decide +kernel) (by decide +kernel) (by decide +kernel) (by decide +kernel), ?_⟩
      walk_at "ls"
      refine ⟨o, C, dx, _, _, rfl, ho, TB.cl, TB.nx, bookF_x, ?_⟩
      refine ⟨x, ck.map V.str, rfl, .inl (.inl (.inl h7)), ?_⟩
      walk_at "ls"
      have ec : ck.map V.str ++ [V.str z] = (ck ++ [z]).map V.str := by rw [List.map_append]; rfl
      refine ⟨Nat.le_trans (show _ ≤ 1000 by rw [List.length_append, List.length_map]; show ck.length + 1 ≤ 1000; omega) (by decide), fun p hp => ?_⟩
      have s1 : Same H (upd H p (.lst (ck.map V.str ++ [V.str z]))) := same_new hp
      refine ⟨o, p, B, ck, ck ++ [z], rfl, hb.same s1, hB, .inl (.inl (.inl (by rw [upd_same, ec]))), fun y hy => ?_, by rw [List.length_append]; show ck.length + 1 ≤ 1000; omega, fun H' o2 hb2 s2 => q H' o2 hb2 (s1.trans s2)⟩
      rcases List.mem_append.mp hy with h | h
      · exact hck y h
      · rw [List.mem_singleton.mp h]
        exact hz
abbrev s_Book_sub : Stmt := inClass (topS 20) 11
theorem sc_Book_sub : FnScope ["self", "check", "kept"] ["self", "check"] (defScope s_Book_sub) := ⟨rfl, rfl, rfl, by decide +kernel, rfl, by decide +kernel, by decide +kernel⟩
abbrev N_Book_sub : List Str := ["self", "check", "kept"]
def spSub (K : PySem.W.Frag) (C cX : Addr) : Sp := fun vs H Q E => ∃ (o : Addr) (v : V) (B : Shp) (ck : List Str), vs = [.ref o, v] ∧ BookS C H o B ck ∧ B.Fin ∧ (∀ z ∈ ck, z ∈ menu B) ∧ ck.length ≤ 900 ∧ Thg K H v ∧
  match isWordV (menu B) v with
  | false => oneE cX "check" H E v
  | true => ∀ (H' : Hp) (o2 : Addr), BookS C H' o2 B ((menu B).filter fun z => decide (z ∈ ck.filter fun y => !decide (y = strOf v))) → Same H H' → Q (.ref o2) H'
theorem ok_sub {C cX : Addr} {f : Addr} {fd : FuncData} (F : Fun K "__sub__" "Book.__sub__" s_Book_sub f fd) (TB : BkT K C) (O_Book__want_check : OwnMR P w K mg base 3 C "_want_check" ["self", "check"] (spWantC K C cX))
    (O_Book__with_checks : OwnM P w K mg base CX0 7 C "_with_checks" ["self", "checks"] (spWithC K C)) : FnOk P w K mg base (L2.CX P w) 8 f fd ["self", "check"] (spSub K C cX) := by
  refine F.okX sc_Book_sub (fun vs H Q E h => ?_) (fun cdv A outer s H vs Q E hr h => ?_)
  · obtain ⟨o, v, B, ck, rfl, _⟩ := h
    rfl
  · obtain ⟨o, v, B, ck, rfl, hb, hB, hck, lck, hv, q⟩ := h
    have hu := hu_of hr
    refine ⟨_, (pss_cons (ps_expr (own_methR O_Book__want_check hr (by first | decide | omega) takes_def (pv 0) (pa_cons (pv 1) pa_nil)))
      (pss_one (ps_ret (own_meth O_Book__with_checks hr (by first | decide | omega) (pv 0) (pa_cons (pe_lc (own := [("kept", 2)]) (g := gName 2) (by rfl) sc_Book_sub.nd (pi_tup (pe_fld (pv 0) rfl)) (blkOk_by (own := [("kept", 2)]) (N := N_Book_sub) (sc := defScope s_Book_sub) (by decide +kernel)) (fun _ _ _ _ _ => (pg_name (i := 2) sc_Book_sub.nd rfl (Or.inl rfl) (Or.inr rfl))) (fun _ _ _ _ _ => (pts_one (pt_cmpR op_ne (pv 2) (pv 1) (nomark _)))) (fun _ _ _ _ _ => (pv 2))) pa_nil))))), ?_⟩
    obtain ⟨dx, k, c, m, x, kx, cx, ho, h2, h3, h4, h5, h6, h7⟩ := id hb
    have no : ∀ {fl : Str}, ¬ fl = "_checks" → ¬ fl = "_menu" → ¬ fl = "_columns" → ¬ fl = "_kinds" → (bookF k c m x).lookup fl = none := fun h1 h2 h3 h4 => bookF_no h1 h2 h3 h4
    walk_at "ls"
    refine ⟨o, dx, _, rfl, ho, no (by decide +kernel) (by decide +kernel) (by decide +kernel) (by decide +kernel), ?_⟩
    walk_at "ls"
    refine ⟨o, v, B, ck, rfl, hb, hv, ?_⟩
    cases hw : isWordV (menu B) v with
    | false =>
      rw [hw] at q
      exact q
    | true =>
      rw [hw] at q
      obtain ⟨z, rfl⟩ : ∃ z, v = .str z := ⟨_, word_str hw⟩
      walk_at "ls"
      refine ⟨o, dx, _, rfl, ho, no (by decide +kernel) (by decide +kernel) (by decide +kernel) (by decide +kernel), ?_⟩
      walk_at "ls"
      refine ⟨o, C, dx, _, _, rfl, ho, TB.cl, TB.nx, bookF_x, ?_⟩
      have lz : ck.length < sizeLine := Nat.lt_of_le_of_lt lck (by decide)
      refine ⟨x, rfl, ⟨_, .inl (.inl h7)⟩, fun D hD => ?_⟩
      refine lc_rows (walk_tup (xs := ck.map V.str)) (ck.map V.str) ck (fun y => if (!decide (y = z)) = true then some (V.str y) else none) (by rw [List.length_map]) (fun i H x H' hi hy => hy) (by rw [List.length_map]; exact lz) (fun acc => .inl (.inl (by rw [upd_ne (ne_of_none h7 hD)]; exact h7))) (fun j y y0 hj hyj hy0 => ?_) ?_
      · rw [List.getElem?_map, hy0] at hyj
        cases hyj
        rw [List.length_map] at hj
        refine ⟨rfl, ?_⟩
        walk_at "ls"
        rw [strEq]
        refine ite2 (fun e => ?_) (fun e => ?_)
        · walk_at "ls"
          exact lr_yes hy0 hj lz (if_pos e)
        · exact lr_no hy0 (if_neg e)
      rw [filterMap_if (fun y => !decide (y = z)) V.str]
      have s1 : Same H (upd H D (.lst ((ck.filter fun y => !decide (y = z)).map V.str))) := same_new hD
      walk_at "ls"
      refine ⟨o, D, B, ck, ck.filter fun y => !decide (y = z), rfl, hb.same s1, hB, .inl (.inl (.inl upd_same)), fun y hy => hck y (List.mem_filter.mp hy).1, Nat.le_trans (List.length_filter_le _ _) (by omega), fun H' o2 hb2 s2 => q H' o2 hb2 (s1.trans s2)⟩
abbrev s_want_one_shape : Stmt := topS 21
theorem sc_want_one_shape : FnScope ["one", "other"] ["one", "other"] (defScope s_want_one_shape) := ⟨rfl, rfl, rfl, by decide +kernel, rfl, by decide +kernel, by decide +kernel⟩
abbrev N_want_one_shape : List Str := ["one", "other"]
def spOneS (C cU : Addr) : Sp := fun vs H Q E => ∃ (o u : Addr) (A B : Shp) (ck dk : List Str), vs = [.ref o, .ref u] ∧ BookS C H o A ck ∧ BookS C H u B dk ∧ A.Fine ∧ B.Fine ∧
  match decide (A = B) with
  | false => ∀ H', Same H H' → E (.ref cU) none H'
  | true => ∀ H', Same H H' → Q .non H'
theorem shapedL_kinds {B : Shp} (hB : B.Fine) : SeqAt.shaped (.list (B.ks.map encK)) = true := shaped_list fun d hd => by
  obtain ⟨k, hk, rfl⟩ := List.mem_map.mp hd
  exact flat_encK (hB.nm _ (List.mem_append_left _ (List.mem_map_of_mem hk)))
theorem shapedL_cols {B : Shp} (hB : B.Fine) : SeqAt.shaped (.list (B.cs.map encC)) = true := shaped_list fun d hd => by
  obtain ⟨c, hc, rfl⟩ := List.mem_map.mp hd
  exact flat_encC (hB.nm _ (List.mem_append_right _ (List.mem_map_of_mem hc))) (hB.nm _ (List.mem_append_left _ (hB.home c hc))) (hB.nm _ (List.mem_append_left _ (hB.goal c hc)))
theorem ok_oneS {C cU : Addr} {f : Addr} {fd : FuncData} (F : Fun K "want_one_shape" "want_one_shape" s_want_one_shape f fd) (O_Book_kinds : OwnM P w K mg base CX0 1 C "kinds" ["self"] (spKinds C)) (O_Book_columns : OwnM P w K mg base CX0 1 C "columns" ["self"] (spColumns C))
    (O_UnlikeBooks : OwnX P w K mg base "UnlikeBooks" [] (spI0 cU) cU) : FnOk P w K mg base (L2.CX P w) 3 f fd ["one", "other"] (spOneS C cU) := by
  refine F.okX sc_want_one_shape (fun vs H Q E h => ?_) (fun cdv A outer s H vs Q E hr h => ?_)
  · obtain ⟨o, u, A, B, ck, dk, rfl, _⟩ := h
    rfl
  · obtain ⟨o, u, A', B, ck, dk, rfl, hA, hB, fA, fB, q⟩ := h
    have hu := hu_of hr
    refine ⟨_, (pss_one (ps_if (PW.pt (pw_or (pt_cmpR (neD K hr) (own_meth0 O_Book_kinds hr (by first | decide | omega) (pv 0)) (own_meth0 O_Book_kinds hr (by first | decide | omega) (pv 1)) (nomark _)) (pw_or1 (pt_cmpR (neD K hr) (own_meth0 O_Book_columns hr (by first | decide | omega) (pv 0)) (own_meth0 O_Book_columns hr (by first | decide | omega) (pv 1)) (nomark _))))) (pss_one (ps_err rfl takes_def (pmk_err0 O_UnlikeBooks (hr.mono (by decide))))) pss_nil)), ?_⟩
    obtain ⟨dx, k, c, m, x, ho⟩ := hA.ins
    obtain ⟨dx', k', c', m', x', ho'⟩ := hB.ins
    have no : ∀ {fl : Str} {k c m x : Addr}, ¬ fl = "_checks" → ¬ fl = "_menu" → ¬ fl = "_columns" → ¬ fl = "_kinds" → (bookF k c m x).lookup fl = none := fun h1 h2 h3 h4 => bookF_no h1 h2 h3 h4
    walk_at "ls"
    refine ⟨o, dx, _, rfl, ho, no (by decide +kernel) (by decide +kernel) (by decide +kernel) (by decide +kernel), ?_⟩
    refine ⟨o, _, _, _, rfl, hA, fun l1 x1 hl1 t1 => ?_⟩
    have s1 : Same H (upd H l1 (.lst x1)) := same_new hl1
    walk_at "ls"
    refine ⟨u, dx', _, rfl, s1 _ _ ho', no (by decide +kernel) (by decide +kernel) (by decide +kernel) (by decide +kernel), ?_⟩
    refine ⟨u, _, _, _, rfl, BookS.same hB s1, fun l2 x2 hl2 t2 => ?_⟩
    have s2 := same_new (o := .lst x2) hl2
    rw [ksU_rows] at t1 t2
    have e1 : SqL K (upd (upd H l1 (.lst x1)) l2 (.lst x2)) l1 x1 := .inl (.inl (s2 _ _ upd_same))
    have t1' := t1.keep (.same (s1.trans s2))
    have t2' := t2.keep (.same s2)
    refine ⟨.list (A'.ks.map encK), .list (B.ks.map encK), .lst e1 (dp_kinds t1'), .lst (.inl (.inl upd_same)) (dp_kinds t2'), shapedL_kinds fA, shapedL_kinds fB, ?_⟩
    rw [PyData.eqv, eqvAll_map encK eqv_encK]
    have s12 := s1.trans s2
    generalize upd (upd H l1 (.lst x1)) l2 (.lst x2) = H2 at *
    rw [shp_eq] at q
    refine ⟨_, rfl, ?_⟩
    by_cases e1 : A'.ks = B.ks
    · rw [decide_eq_true e1, Bool.true_and] at q
      rw [decide_eq_true e1]
      refine iteF ?_
      have hA2 := BookS.same hA s12
      have hB2 := BookS.same hB s12
      walk_at "ls"
      refine ⟨o, dx, _, rfl, s12 _ _ ho, no (by decide +kernel) (by decide +kernel) (by decide +kernel) (by decide +kernel), ?_⟩
      refine ⟨o, _, _, _, rfl, hA2, fun l3 x3 hl3 t3 => ?_⟩
      have s3 := same_new (o := .lst x3) hl3
      walk_at "ls"
      refine ⟨u, dx', _, rfl, s3 _ _ (s12 _ _ ho'), no (by decide +kernel) (by decide +kernel) (by decide +kernel) (by decide +kernel), ?_⟩
      refine ⟨u, _, _, _, rfl, BookS.same hB2 s3, fun l4 x4 hl4 t4 => ?_⟩
      have s4 := same_new (o := .lst x4) hl4
      rw [csU_rows] at t3 t4
      have e3 : SqL K (upd (upd H2 l3 (.lst x3)) l4 (.lst x4)) l3 x3 := .inl (.inl (s4 _ _ upd_same))
      have t3' := t3.keep (.same (s3.trans s4))
      have t4' := t4.keep (.same s4)
      refine ⟨.list (A'.cs.map encC), .list (B.cs.map encC), .lst e3 (dp_cols t3'), .lst (.inl (.inl upd_same)) (dp_cols t4'), shapedL_cols fA, shapedL_cols fB, ?_⟩
      rw [PyData.eqv, eqvAll_map encC eqv_encC]
      have s34 := s12.trans (s3.trans s4)
      generalize upd (upd H2 l3 (.lst x3)) l4 (.lst x4) = H4 at *
      refine ⟨_, rfl, ?_⟩
      by_cases e2 : A'.cs = B.cs
      · rw [decide_eq_true e2] at q ⊢
        exact iteF (q H4 s34)
      · rw [decide_eq_false e2] at q ⊢
        exact iteT (q H4 s34)
    · rw [decide_eq_false e1, Bool.false_and] at q
      rw [decide_eq_false e1]
      exact iteT (q H2 s12)
abbrev s_Book_or : Stmt := inClass (topS 20) 12
theorem sc_Book_or : FnScope ["self", "other"] ["self", "other"] (defScope s_Book_or) := ⟨rfl, rfl, rfl, by decide +kernel, rfl, by decide +kernel, by decide +kernel⟩
abbrev N_Book_or : List Str := ["self", "other"]
def spOr (K : PySem.W.Frag) (C cU : Addr) : Sp := fun vs H Q E => ∃ (o u : Addr) (A B : Shp) (ck dk : List Str), vs = [.ref o, .ref u] ∧ BookS C H o A ck ∧ BookS C H u B dk ∧ A.Fin ∧ B.Fine ∧ (∀ z ∈ ck, z ∈ menu A) ∧ (∀ z ∈ dk, z ∈ menu B) ∧ ck.length + dk.length ≤ 900 ∧
  match decide (A = B) with
  | false => ∀ H', Same H H' → E (.ref cU) none H'
  | true => ∀ (H' : Hp) (o2 : Addr), BookS C H' o2 A ((menu A).filter fun z => decide (z ∈ ck ++ dk)) → Same H H' → Q (.ref o2) H'
theorem ok_or {C cU : Addr} {f : Addr} {fd : FuncData} (F : Fun K "__or__" "Book.__or__" s_Book_or f fd) (T : Bt mg) (TB : BkT K C) (CI : ClsI K C) (gl_Book : mg "Book" = some (.ref C)) (O_want_one_shape : OwnR P w K mg base 3 "want_one_shape" ["one", "other"] (spOneS C cU))
    (O_Book__with_checks : OwnM P w K mg base CX0 7 C "_with_checks" ["self", "checks"] (spWithC K C)) : FnOk P w K mg base (L2.CX P w) 8 f fd ["self", "other"] (spOr K C cU) := by
  refine F.okX sc_Book_or (fun vs H Q E h => ?_) (fun cdv A outer s H vs Q E hr h => ?_)
  · obtain ⟨o, u, A, B, ck, dk, rfl, _⟩ := h
    rfl
  · obtain ⟨o, u, A', B, ck, dk, rfl, hA, hB, fA, fB, hck, hdk, lck, q⟩ := h
    have hu := hu_of hr
    refine ⟨_, (pss_cons (ps_if (pt_not (pt_val (pe_callB call_isi (by rfl) T.m_isinstance (by decide +kernel) (pa_cons (pv 1) (pa_cons (glob_ref gl_Book) pa_nil))))) (pss_one ps_dead) pss_nil)
      (pss_cons (ps_expr (own_callR O_want_one_shape hr (by first | decide | omega) takes_def (pa_cons (pv 0) (pa_cons (pv 1) pa_nil))))
      (pss_one (ps_ret (own_meth O_Book__with_checks hr (by first | decide | omega) (pv 0) (pa_cons (pe_lst (StX.pa_star (pe_fld (pv 0) rfl) (StX.pa_star (pe_fld (pv 1) rfl) pa_nil))) pa_nil)))))), ?_⟩
    obtain ⟨dx, k, c, m, x, kx, cx, h1, h2, h3, h4, h5, h6, h7⟩ := id hA
    obtain ⟨dx', k', c', m', x', kx', cx', g1, g2, g3, g4, g5, g6, g7⟩ := id hB
    refine ⟨_, rfl, ?_⟩
    refine ⟨_, _, _, _, true, rfl, .own C, .base (.ins g1 TB.cl CI.ca CI.cn CI.ct CI.cm), CI.ck, _, rfl, iteF ?_⟩
    walk_at "ls"
    refine ⟨o, u, A', B, ck, dk, rfl, hA, hB, fA.fine, fB, ?_⟩
    cases e : decide (A' = B) with
    | false =>
      rw [e] at q
      exact q
    | true =>
      rw [e] at q
      have eB : A' = B := of_decide_eq_true e
      subst eB
      intro H s0
      have q := fun H' o2 hb s => q H' o2 hb (s0.trans s)
      have hA := BookS.same hA s0
      have hB := BookS.same hB s0
      have h1 := s0 _ _ h1
      have h7 := s0 _ _ h7
      have g1 := s0 _ _ g1
      have g7 := s0 _ _ g7
      clear s0
      walk_at "ls"
      refine ⟨o, dx, _, rfl, h1, bookF_no (by decide +kernel) (by decide +kernel) (by decide +kernel) (by decide +kernel), ?_⟩
      walk_at "ls"
      refine ⟨o, C, dx, _, _, rfl, h1, TB.cl, TB.nx, bookF_x, ?_⟩
      refine ⟨x, ck.map V.str, rfl, .inl (.inl (.inl h7)), ?_⟩
      walk_at "ls"
      refine ⟨u, C, dx', _, _, rfl, g1, TB.cl, TB.nx, bookF_x, ?_⟩
      refine ⟨x', dk.map V.str, rfl, .inl (.inl (.inl g7)), ?_⟩
      have ec : ck.map V.str ++ (dk.map V.str ++ []) = (ck ++ dk).map V.str := by rw [List.append_nil, List.map_append]
      refine ⟨Nat.le_trans (show _ ≤ 1000 by rw [List.length_append, List.length_append, List.length_map, List.length_map]; show ck.length + (dk.length + 0) ≤ 1000; omega) (by decide), fun p hp => ?_⟩
      have s1 : Same H (upd H p (.lst (ck.map V.str ++ (dk.map V.str ++ [])))) := same_new hp
      refine ⟨o, p, A', ck, ck ++ dk, rfl, BookS.same hA s1, fA, .inl (.inl (.inl (by rw [upd_same, ec]))), fun y hy => ?_, by rw [List.length_append]; omega, fun H' o2 hb2 s2 => q H' o2 hb2 (s1.trans s2)⟩
      rcases List.mem_append.mp hy with h | h
      · exact hck y h
      · exact hdk y h
abbrev s_Book_and : Stmt := inClass (topS 20) 13
theorem sc_Book_and : FnScope ["self", "other", "check"] ["self", "other"] (defScope s_Book_and) := ⟨rfl, rfl, rfl, by decide +kernel, rfl, by decide +kernel, by decide +kernel⟩
abbrev N_Book_and : List Str := ["self", "other", "check"]
def spAnd (K : PySem.W.Frag) (C cU : Addr) : Sp := fun vs H Q E => ∃ (o u : Addr) (A B : Shp) (ck dk : List Str), vs = [.ref o, .ref u] ∧ BookS C H o A ck ∧ BookS C H u B dk ∧ A.Fin ∧ B.Fine ∧ (∀ z ∈ ck, z ∈ menu A) ∧ (∀ z ∈ dk, z ∈ menu B) ∧ ck.length + dk.length ≤ 900 ∧
  match decide (A = B) with
  | false => ∀ H', Same H H' → E (.ref cU) none H'
  | true => ∀ (H' : Hp) (o2 : Addr), BookS C H' o2 A ((menu A).filter fun z => decide (z ∈ ck.filter fun y => decide (y ∈ dk))) → Same H H' → Q (.ref o2) H'
theorem ok_and {C cU : Addr} {f : Addr} {fd : FuncData} (F : Fun K "__and__" "Book.__and__" s_Book_and f fd) (T : Bt mg) (TB : BkT K C) (CI : ClsI K C) (gl_Book : mg "Book" = some (.ref C)) (O_want_one_shape : OwnR P w K mg base 3 "want_one_shape" ["one", "other"] (spOneS C cU))
    (O_Book__with_checks : OwnM P w K mg base CX0 7 C "_with_checks" ["self", "checks"] (spWithC K C)) : FnOk P w K mg base (L2.CX P w) 8 f fd ["self", "other"] (spAnd K C cU) := by
  refine F.okX sc_Book_and (fun vs H Q E h => ?_) (fun cdv A outer s H vs Q E hr h => ?_)
  · obtain ⟨o, u, A, B, ck, dk, rfl, _⟩ := h
    rfl
  · obtain ⟨o, u, A', B, ck, dk, rfl, hA, hB, fA, fB, hck, hdk, lck, q⟩ := h
    have hu := hu_of hr
    refine ⟨_, (pss_cons (ps_if (pt_not (pt_val (pe_callB call_isi (by rfl) T.m_isinstance (by decide +kernel) (pa_cons (pv 1) (pa_cons (glob_ref gl_Book) pa_nil))))) (pss_one ps_dead) pss_nil)
      (pss_cons (ps_expr (own_callR O_want_one_shape hr (by first | decide | omega) takes_def (pa_cons (pv 0) (pa_cons (pv 1) pa_nil))))
      (pss_one (ps_ret (own_meth O_Book__with_checks hr (by first | decide | omega) (pv 0) (pa_cons (pe_lc (own := [("check", 2)]) (g := gName 2) (by rfl) sc_Book_and.nd (pi_tup (pe_fld (pv 0) rfl)) (blkOk_by (own := [("check", 2)]) (N := N_Book_and) (sc := defScope s_Book_and) (by decide +kernel)) (fun _ _ _ _ _ => (pg_name (i := 2) sc_Book_and.nd rfl (Or.inl rfl) (Or.inr rfl))) (fun _ _ _ _ _ => (pts_one (pt_cmpR (in_seq K) (pv 2) (pe_fldK K (pv 1) rfl) (by rfl)))) (fun _ _ _ _ _ => (pv 2))) pa_nil)))))), ?_⟩
    obtain ⟨dx, k, c, m, x, kx, cx, h1, h2, h3, h4, h5, h6, h7⟩ := id hA
    obtain ⟨dx', k', c', m', x', kx', cx', g1, g2, g3, g4, g5, g6, g7⟩ := id hB
    refine ⟨_, rfl, ?_⟩
    refine ⟨_, _, _, _, true, rfl, .own C, .base (.ins g1 TB.cl CI.ca CI.cn CI.ct CI.cm), CI.ck, _, rfl, iteF ?_⟩
    walk_at "ls"
    refine ⟨o, u, A', B, ck, dk, rfl, hA, hB, fA.fine, fB, ?_⟩
    cases e : decide (A' = B) with
    | false =>
      rw [e] at q
      exact q
    | true =>
      rw [e] at q
      have eB : A' = B := of_decide_eq_true e
      subst eB
      intro H s0
      have q := fun H' o2 hb s => q H' o2 hb (s0.trans s)
      have hA := BookS.same hA s0
      have hB := BookS.same hB s0
      have h1 := s0 _ _ h1
      have h7 := s0 _ _ h7
      have g1 := s0 _ _ g1
      have g7 := s0 _ _ g7
      clear s0
      walk_at "ls"
      refine ⟨o, dx, _, rfl, h1, bookF_no (by decide +kernel) (by decide +kernel) (by decide +kernel) (by decide +kernel), ?_⟩
      walk_at "ls"
      refine ⟨o, C, dx, _, _, rfl, h1, TB.cl, TB.nx, bookF_x, ?_⟩
      refine ⟨x, rfl, ⟨_, .inl (.inl h7)⟩, fun D hD => ?_⟩
      have lz : ck.length < sizeLine := Nat.lt_of_le_of_lt (show ck.length ≤ 900 by omega) (by decide)
      refine lc_rows (walk_tup (xs := ck.map V.str)) (ck.map V.str) ck (fun y => if decide (y ∈ dk) = true then some (V.str y) else none) (by rw [List.length_map]) (fun i H x H' hi hy => hy) (by rw [List.length_map]; exact lz) (fun acc => .inl (.inl (by rw [upd_ne (ne_of_none h7 hD)]; exact h7))) (fun j y y0 hj hyj hy0 => ?_) ?_
      · rw [List.getElem?_map, hy0] at hyj
        cases hyj
        rw [List.length_map] at hj
        refine ⟨rfl, ?_⟩
        have sD : Same H (upd H D (.lst (madeR ck (fun y => if decide (y ∈ dk) = true then some (V.str y) else none) j))) := same_new hD
        walk_at "ls"
        refine ⟨u, C, dx', _, _, rfl, sD _ _ g1, TB.cl, TB.nx, bookF_x, ?_⟩
        refine ⟨x', _, rfl, .inr (.inl (.inl (sD _ _ g7))), rfl, all_flat _, _, rfl, ?_⟩
        rw [in_strs]
        refine ite2 (fun e => ?_) (fun e => ?_)
        · walk_at "ls"
          exact lr_yes hy0 hj lz (if_pos e)
        · exact lr_no hy0 (if_neg e)
      rw [filterMap_if (fun y => decide (y ∈ dk)) V.str]
      have s1 : Same H (upd H D (.lst ((ck.filter fun y => decide (y ∈ dk)).map V.str))) := same_new hD
      walk_at "ls"
      refine ⟨o, D, A', ck, ck.filter fun y => decide (y ∈ dk), rfl, BookS.same hA s1, fA, .inl (.inl (.inl upd_same)), fun y hy => hck y (List.mem_filter.mp hy).1, Nat.le_trans (List.length_filter_le _ _) (by omega), fun H' o2 hb2 s2 => q H' o2 hb2 (s1.trans s2)⟩
abbrev s_Book_le : Stmt := inClass (topS 20) 15
theorem sc_Book_le : FnScope ["self", "other", "check"] ["self", "other"] (defScope s_Book_le) := ⟨rfl, rfl, rfl, by decide +kernel, rfl, by decide +kernel, by decide +kernel⟩
abbrev N_Book_le : List Str := ["self", "other", "check"]
def spLe (C : Addr) : Sp := fun vs H Q _ => ∃ (o u : Addr) (A B : Shp) (ck dk : List Str), vs = [.ref o, .ref u] ∧ BookS C H o A ck ∧ BookS C H u B dk ∧ A.Fine ∧ B.Fine ∧ ck.length ≤ 900 ∧ ∀ H', Same H H' → Q (.bl (decide (A = B) && ck.all fun z => decide (z ∈ dk))) H'
theorem fm_some {α β : Type} (h : α → β) : ∀ l : List α, l.filterMap (fun c => some (h c)) = l.map h
  | [] => rfl
  | a :: l => by rw [List.filterMap_cons, List.map_cons, fm_some h l]
theorem all_mem (dk : List Str) : ∀ ck : List Str, (ck.map fun z => decide (z ∈ dk)).all id = ck.all fun z => decide (z ∈ dk)
  | [] => rfl
  | z :: r => by rw [List.map_cons, List.all_cons, List.all_cons, all_mem dk r]; rfl
theorem ok_le {C : Addr} {f : Addr} {fd : FuncData} (F : Fun K "__le__" "Book.__le__" s_Book_le f fd) (T : Bt mg) (TB : BkT K C) (CI : ClsI K C) (gl_Book : mg "Book" = some (.ref C)) (O_Book__has_shape_of : OwnM P w K mg base CX0 1 C "_has_shape_of" ["self", "other"] (spShapeOf C)) :
    FnOk P w K mg base CX0 2 f fd ["self", "other"] (spLe C) := by
  refine F.ok sc_Book_le (fun vs H Q E h => ?_) (fun cdv A outer s H vs Q E hr h => ?_)
  · obtain ⟨o, u, A, B, ck, dk, rfl, _⟩ := h
    rfl
  · obtain ⟨o, u, A', B, ck, dk, rfl, hA, hB, fA, fB, lck, q⟩ := h
    have hu := hu_of hr
    refine ⟨_, (pss_cons (ps_if (pt_not (pt_val (pe_callB call_isi (by rfl) T.m_isinstance (by decide +kernel) (pa_cons (pv 1) (pa_cons (glob_ref gl_Book) pa_nil))))) (pss_one ps_dead) pss_nil)
      (pss_one (ps_ret (pe_and (own_meth O_Book__has_shape_of hr (by first | decide | omega) (pv 0) (pa_cons (pv 1) pa_nil)) (pe_one (pe_callB (cr_all rfl) (by rfl) T.m_all (by decide +kernel) (pa_cons (pe_lc (own := [("check", 2)]) (g := gName 2) (by rfl) sc_Book_le.nd (pi_tup (pe_fld (pv 0) rfl)) (blkOk_by (own := [("check", 2)]) (N := N_Book_le) (sc := defScope s_Book_le) (by decide +kernel)) (fun _ _ _ _ _ => (pg_name (i := 2) sc_Book_le.nd rfl (Or.inl rfl) (Or.inr rfl))) (fun _ _ _ _ _ => pts_nil) (fun _ _ _ _ _ => (pe_cmpR (in_seq K) (pv 2) (pe_fldK K (pv 1) rfl) (by rfl)))) pa_nil))))))), ?_⟩
    obtain ⟨dx, k, c, m, x, kx, cx, h1, h2, h3, h4, h5, h6, h7⟩ := id hA
    obtain ⟨dx', k', c', m', x', kx', cx', g1, g2, g3, g4, g5, g6, g7⟩ := id hB
    refine ⟨_, rfl, ?_⟩
    refine ⟨_, _, _, _, true, rfl, .own C, .base (.ins g1 TB.cl CI.ca CI.cn CI.ct CI.cm), CI.ck, _, rfl, iteF ?_⟩
    walk_at "ls"
    refine ⟨o, dx, _, rfl, h1, bookF_no (by decide +kernel) (by decide +kernel) (by decide +kernel) (by decide +kernel), ?_⟩
    walk_at "ls"
    refine ⟨o, u, A', B, ck, dk, rfl, hA, hB, fA, fB, ?_⟩
    refine ⟨_, rfl, ?_⟩
    by_cases e1 : A' = B
    · rw [decide_eq_true e1, Bool.true_and] at q
      rw [decide_eq_true e1]
      refine iteT ?_
      walk_at "ls"
      refine ⟨o, C, dx, _, _, rfl, h1, TB.cl, TB.nx, bookF_x, ?_⟩
      refine ⟨x, rfl, ⟨_, .inl (.inl h7)⟩, fun D hD => ?_⟩
      have lz : ck.length < sizeLine := Nat.lt_of_le_of_lt lck (by decide)
      refine lc_rows (walk_tup (xs := ck.map V.str)) (ck.map V.str) ck (fun y => some (V.bl (decide (y ∈ dk)))) (by rw [List.length_map]) (fun i H x H' hi hy => hy) (by rw [List.length_map]; exact lz) (fun acc => .inl (.inl (by rw [upd_ne (ne_of_none h7 hD)]; exact h7))) (fun j y y0 hj hyj hy0 => ?_) ?_
      · rw [List.getElem?_map, hy0] at hyj
        cases hyj
        rw [List.length_map] at hj
        refine ⟨rfl, ?_⟩
        have sD : Same H (upd H D (.lst (madeR ck (fun y => some (V.bl (decide (y ∈ dk)))) j))) := same_new hD
        walk_at "ls"
        refine ⟨u, C, dx', _, _, rfl, sD _ _ g1, TB.cl, TB.nx, bookF_x, ?_⟩
        refine ⟨x', _, rfl, .inr (.inl (.inl (sD _ _ g7))), rfl, all_flat _, ?_⟩
        rw [in_strs]
        exact lr_yes hy0 hj lz rfl
      have el : ck.filterMap (fun y => some (V.bl (decide (y ∈ dk)))) = (ck.map fun y => decide (y ∈ dk)).map V.bl := by
        rw [List.map_map]
        exact fm_some (fun y => V.bl (decide (y ∈ dk))) ck
      rw [el]
      refine ⟨D, ck.map fun y => decide (y ∈ dk), rfl, .inl (.inl upd_same), ?_⟩
      rw [all_mem]
      exact q _ (same_new hD)
    · rw [decide_eq_false e1, Bool.false_and] at q
      rw [decide_eq_false e1]
      exact iteF (q H (Same.refl H))
end
end Ls
namespace Ls
open PySem PySem.Spec PyProof.Rows L2
/-! ### != of instances whose class has __eq__ alone -/
section
variable {prog : Program} {w : World} {A : Around} {E : Value → Shared → Prop} {s : Shared} {K : PySem.W.Frag} {x C L f : Addr} {h₀ : Heap} {m : Str → Option Value} {ox : Obj} {od : Option Obj}
theorem ifBound_B {M : Model} {name : Str} {T id : String} {args : List Value} {Q : Option Value → Shared → Prop} (X : K.In s.heap) (I : PySem.W.InstAt s.heap x ox C od) (S : Slot T name id) (hs : PySem.W.findIn K (.ref C) name = some (some (.builtin id)))
    (h : wpAny M A (call (.builtin id) (.ref x :: args)) (fun v => Q (some v)) E s) : wpAny M A (callSpecialIfBound? (.ref x) name args) Q E s := by
  simp only [callSpecialIfBound?, bindSpecialIfBound?]
  refine wpAny_holding (wpAny_bind (wpAny_bind (wpAny_bind (I.type.here ((PySem.W.looks_findIn X hs).here ?_)))))
  simp only [S.bind]
  refine wpAny_bind (wpAny_askSetting (wpAny_ite ?_))
  have fin : wpAny M A (call (.builtin id) ([.ref x] ++ args) >>= fun v => pure (some v)) Q E s := wpAny_bind (wpAny_mono h (fun v s' h' => wpAny_pure h') fun _ _ h' => h')
  split
  · exact wpAny_bind (wpAny_pure (wpAny_pure fin))
  · exact wpAny_tryCatch (wpAny_bind (wpAny_pure (wpAny_pure fin)))
theorem check_slot_K {M : Model} {id owner n : String} {rest : List Value} {Q : Unit → Shared → Prop} (X : K.In s.heap) (I : PySem.W.InstAt s.heap x ox C od) (hk : builtinKind id = some .slot) (hs : splitId id = some (owner, n)) (ha : argsOk id ⟨.ref x :: rest, []⟩)
    (hsub : PySem.W.subIn K (.ref C) (.type owner) = some true) (hq : Q () s) : wpAny M A (checkBuiltinCall id ⟨.ref x :: rest, []⟩) Q E s := by
  simp only [checkBuiltinCall, hk, hs]
  refine wpAny_bind ?_
  unfold isInstance
  refine wpAny_bind (I.type.here ((PySem.W.looks_subIn X hsub).here ?_))
  rw [if_neg (show ¬ ((!true) = true) by decide)]
  cases hsig : Manifest.signature? id with
  | none => exact wpAny_pure hq
  | some sig =>
    simp only [argsOk, hsig] at ha
    have h2 : Bind.checkArgs id sig ⟨.ref x :: rest, []⟩ = pure () := ha
    show wpAny M A (Bind.checkArgs id sig ⟨.ref x :: rest, []⟩) Q E _
    rw [h2]
    exact wpAny_pure hq
theorem ne_slot : Slot "object" "__ne__" "object.__ne__" :=
  .of (owner := "object") (n := "__ne__") (by rw [typeLookup_type, builtinLookup_eq_fast]; kernel_rfl) (by decide +kernel) (by decide +kernel) (by decide +kernel)
    (by first | exact .inl (by decide +kernel) | exact .inr (by decide +kernel)) (by rw [isSubtype_type]; kernel_rfl)
/-- the body of object.__ne__ -/
theorem objNe_K {b : Value} {Q : Fin → Shared → Prop} (hu : A.units < cLine) (X : K.In s.heap) (I : PySem.W.InstAt s.heap x ox C od) (hs : PySem.W.findIn K (.ref C) "__eq__" = some (some (.ref f))) (hf : PySem.W.isFn K (.ref f) = true)
    (h : wpAny (model prog w) A (call (.ref f) [.ref x, b]) (fun v s' => ∃ b, v = .bool b ∧ Q (.done (.ret (.bool (!b)))) s') E s) : wpAny (model prog w) A (Builtin.«object.__ne__» ⟨[.ref x, b], []⟩) Q E s := by
  unfold Builtin.«object.__ne__»
  repeat (first
    | with_reducible refine wpAny_cRoomFor hu ?_
    | (refine wpAny_bind (m := callSpecialIfBound? (.ref x) (Str.ofString "__eq__") [b])
        (PySem.W.ifBound_K X I hs hf (wpAny_mono h (fun r s' hr => by
          obtain ⟨b, rfl, hq⟩ := hr
          repeat (first | exact hq | exact wpAny_pure hq | exact wpAny_truthy_bool hq | (refine wpAny_bind (m := truthy (.bool _)) (wpAny_truthy_bool ?_)) | wp_step)) fun _ _ e => e)))
    | wp_step)
theorem ne_K {b tb : Value} {Q : Value → Shared → Prop} (hu : A.units + 1 < cLine) (F : PyProof.Rows.Fr h₀ L s.heap m) (X₀ : K.In h₀) (I : PySem.W.InstAt s.heap x ox C od) (hb : PySem.W.Looks (model prog w) s.heap (typeOf b) tb) (hn : PySem.W.notFirst K C tb = true)
    (hne : PySem.W.findIn K (.ref C) "__ne__" = some (some (.builtin "object.__ne__"))) (hso : PySem.W.subIn K (.ref C) (.type "object") = some true) (hs : PySem.W.findIn K (.ref C) "__eq__" = some (some (.ref f))) (hf : PySem.W.isFn K (.ref f) = true)
    (h : wpAny (model prog w) A.in1 (call (.ref f) [.ref x, b]) (fun v s' => ∃ b, v = .bool b ∧ Q (.bool (!b)) s') E s) : wpAny (model prog w) A (compareOp .NotEq (.ref x) b) Q E s := by
  have X := X₀.keeps F.keep
  have one : wpAny (model prog w) A (tryCompare (.ref x) (cmpInfo .NotEq).2.1 b) (fun r s' => ∃ v, r = some v ∧ Q v s') E s := by
    unfold tryCompare
    refine wpAny_bind (ifBound_B X I ne_slot hne (wpAny_call (codeAny_call_builtin ne_slot.plain PySem.F.cmpEntry_ne (check_slot_K X I PySem.F.cmpKind_ne PySem.F.cmpSplit_ne (PySem.F.cmpArgs_ne _ _) hso (objNe_K (A := A.in1) hu X I hs hf (wpAny_mono h (fun v s' hv => ?_) fun _ _ e => e))))))
    obtain ⟨b, rfl, hq⟩ := hv
    first | exact ⟨b, rfl, wpAny_pure ⟨_, rfl, hq⟩⟩ | exact ⟨b, rfl, wpAny_pure (wpAny_pure ⟨_, rfl, hq⟩)⟩
  refine PySem.W.cmp_ofNotEq ?_
  unfold richCompare
  simp only [oneThing_ref]
  refine wpAny_holding (wpAny_bind (wpAny_cRoomFor (Nat.lt_of_succ_lt hu) ?_))
  refine wpAny_bind (I.type.here (wpAny_bind (hb.here ?_)))
  split
  · rename_i q
    have e : PySem.W.subIn K tb (.ref C) = some false := by
      rcases Bool.or_eq_true_iff.mp hn with e | e
      · rw [beq_iff_eq.mp e] at q; simp at q
      · exact beq_iff_eq.mp e
    refine wpAny_bind ((PySem.W.looks_subIn X e).here ?_)
    simp only [Bool.false_eq_true, if_false]
    refine wpAny_bind (wpAny_mono one (fun r s' z => ?_) fun _ _ e => e)
    obtain ⟨v, rfl, hq⟩ := z
    exact wpAny_pure hq
  · refine wpAny_bind (wpAny_pure ?_)
    simp only [Bool.false_eq_true, if_false]
    refine wpAny_bind (wpAny_mono one (fun r s' z => ?_) fun _ _ e => e)
    obtain ⟨v, rfl, hq⟩ := z
    exact wpAny_pure hq
end
section
variable {X : Cx} {k j : Nat} {C : Addr} {ps : List Str} {sp : Sp}
/-- x != y by x's own __eq__: y an instance of the same class, or of a built-in type -/
def rNeO (K : PySem.W.Frag) (C : Addr) (sp : Sp) : R2 := fun x y H Q => ∃ a dx fs t, x = .ref a ∧ H a = some (.ins C dx fs) ∧ TyX K H y t ∧ PySem.W.notFirst K C t = true ∧ sp [.ref a, y] H (fun v H' => ∃ b : Bool, v = .bl b ∧ Q (.bl (!b)) H') E0
theorem op_neO (O : OwnM X.prog X.w X.K X.mg X.base CX0 k C "__eq__" ps sp) (hr : Room j X.A) (hkj : k + 1 ≤ j) (hne : PySem.W.findIn X.K (.ref C) "__ne__" = some (some (.builtin "object.__ne__"))) (hso : PySem.W.subIn X.K (.ref C) (.type "object") = some true) : OpR X (compareOp .NotEq) (rNeO X.K C sp) := by
  intro pins s σ H x y v u Q I rx ry h
  obtain ⟨a, dx, fs, t, rfl, ha, ty, hn, q⟩ := h
  cases rx
  obtain ⟨f, fd, F, me, bb⟩ := O.ex
  obtain ⟨mA, J, _⟩ := ins_get I.hok ha
  obtain ⟨od, J, _⟩ := J.look
  obtain ⟨P, kx, hP, _⟩ := kit_of I ry ty
  obtain ⟨m, hF⟩ := I.fr
  refine ne_K (by have := hr.un; omega) hF I.ok.mod.kin J (kx.ty _ _ I.kIn hP) hn hne hso me.at_ me.fn ?_
  refine run_ownM O (hr.mono hkj).in1 I I.env0.in1 (us := [Value.ref a, u]) (vs := [V.ref a, y]) (.cons rfl (.cons ry .nil)) q (fun v s' z => ?_) f me
  obtain ⟨z', H', I', rz, n, ez, qz⟩ := z
  subst ez
  cases rz
  exact ⟨n, rfl, .bl (!n), H', I', rfl, qz⟩
end
end Ls
namespace Ls
open PySem PySem.Spec PyProof.Rows L2
/-! ### short steps -/
local macro_rules | `(tactic| walk_at "ls_ne") => `(tactic| first | assumption | exact Ne.symm (by assumption) | exact ne_of_none (by assumption) (by assumption) | exact Ne.symm (ne_of_none (by assumption) (by assumption)))
local macro_rules | `(tactic| walk_at "ls_hp") => `(tactic| first
  | with_reducible assumption
  | exact upd_same
  | exact Eq.trans (upd_ne (by walk_at "ls_ne")) (by walk_at "ls_hp"))
local macro_rules | `(tactic| walk_at "ls_st") => `(tactic| first
  | with_reducible assumption
  | exact Stm.upd (by walk_at "ls_st") (by first | walk_at "ls_ne" | exact (Stm.noneS (by assumption) (by assumption)).1) (by first | walk_at "ls_ne" | exact (Stm.noneS (by assumption) (by assumption)).2))
local macro_rules | `(tactic| walk_at "ls1") => `(tactic| first
  | refine ⟨_, rfl, ?_⟩
  | refine ⟨_, _, rfl, rfl, ?_⟩
  | refine ⟨_, _, _, _, rfl, rfl, .inl (.inl (by walk_at "ls_hp")), rfl, ?_⟩
  | refine ⟨_, _, _, _, rfl, rfl, (by walk_at "ls_hp"), rfl, ?_⟩
  | refine ⟨rfl, _, rfl, ?_⟩
  | refine ⟨.inl ⟨rfl, _, .inl (.inl (by walk_at "ls_hp"))⟩, ?_⟩)
local macro_rules | `(tactic| walk_at "ls") => `(tactic| repeat (walk_at "ls1"))

section
variable {P : Program} {w : World} {K : PySem.W.Frag} {mg : Str → Option Value} {base : Heap}
abbrev s_Book_lt : Stmt := inClass (topS 20) 16
theorem sc_Book_lt : FnScope ["self", "other"] ["self", "other"] (defScope s_Book_lt) := ⟨rfl, rfl, rfl, by decide +kernel, rfl, by decide +kernel, by decide +kernel⟩
abbrev N_Book_lt : List Str := ["self", "other"]
def spLt (C : Addr) : Sp := fun vs H Q _ => ∃ (o u : Addr) (A B : Shp) (ck dk : List Str), vs = [.ref o, .ref u] ∧ BookS C H o A ck ∧ BookS C H u B dk ∧ A.Fine ∧ B.Fine ∧ ck.length ≤ 900 ∧ (∀ z ∈ ck, PyData.strOk z = true) ∧ (∀ z ∈ dk, PyData.strOk z = true) ∧
  ∀ H', Same H H' → Q (.bl ((decide (A = B) && ck.all fun z => decide (z ∈ dk)) && !(decide (A = B) && decide (ck = dk)))) H'
theorem ok_lt {C : Addr} {f : Addr} {fd : FuncData} (F : Fun K "__lt__" "Book.__lt__" s_Book_lt f fd) (T : Bt mg) (TB : BkT K C) (CI : ClsI K C) (gl_Book : mg "Book" = some (.ref C)) (O_Book_le : OwnM P w K mg base CX0 2 C "__le__" ["self", "other"] (spLe C)) (O_Book_eq : OwnM P w K mg base CX0 2 C "__eq__" ["self", "other"] (spEqB K C))
    (hne : PySem.W.findIn K (.ref C) "__ne__" = some (some (.builtin "object.__ne__"))) (hso : PySem.W.subIn K (.ref C) (.type "object") = some true) : FnOk P w K mg base CX0 4 f fd ["self", "other"] (spLt C) := by
  refine F.ok sc_Book_lt (fun vs H Q E h => ?_) (fun cdv A outer s H vs Q E hr h => ?_)
  · obtain ⟨o, u, A, B, ck, dk, rfl, _⟩ := h
    rfl
  · obtain ⟨o, u, A', B, ck, dk, rfl, hA, hB, fA, fB, lck, sck, sdk, q⟩ := h
    have hu := hu_of hr
    refine ⟨_, (pss_cons (ps_if (pt_not (pt_val (pe_callB call_isi (by rfl) T.m_isinstance (by decide +kernel) (pa_cons (pv 1) (pa_cons (glob_ref gl_Book) pa_nil))))) (pss_one ps_dead) pss_nil)
      (pss_one (ps_ret (pe_and (pe_cmpR (op_cmpO O_Book_le (fun _ _ => rfl) hr (by first | decide | omega)) (pv 0) (pv 1) (nomark _)) (pe_one (pe_cmpR (op_neO O_Book_eq hr (by first | decide | omega) hne hso) (pv 0) (pv 1) (nomark _))))))), ?_⟩
    obtain ⟨dx, k, c, m, x, kx, cx, h1, h2, h3, h4, h5, h6, h7⟩ := id hA
    obtain ⟨dx', k', c', m', x', kx', cx', g1, g2, g3, g4, g5, g6, g7⟩ := id hB
    refine ⟨_, rfl, ?_⟩
    refine ⟨_, _, _, _, true, rfl, .own C, .base (.ins g1 TB.cl CI.ca CI.cn CI.ct CI.cm), CI.ck, _, rfl, iteF ?_⟩
    walk_at "ls"
    refine ⟨o, _, _, u, _, _, rfl, rfl, h1, g1, ?_⟩
    refine ⟨o, u, A', B, ck, dk, rfl, hA, hB, fA, fB, lck, fun H1 s1 => ?_⟩
    refine ⟨_, rfl, ?_⟩
    cases e : (decide (A' = B) && ck.all fun z => decide (z ∈ dk)) with
    | false =>
      rw [e] at q
      exact ⟨_, rfl, iteF (q H1 s1)⟩
    | true =>
      rw [e, Bool.true_and] at q
      refine ⟨_, rfl, iteT ?_⟩
      walk_at "ls"
      refine ⟨o, _, _, .ref C, rfl, s1 _ _ h1, .base (.ins (s1 _ _ g1) TB.cl CI.ca CI.cn CI.ct CI.cm), by simp [PySem.W.notFirst], ?_⟩
      refine ⟨o, .ref u, A', ck, rfl, BookS.same hA s1, fA, sck, .inr ⟨u, B, dk, rfl, BookS.same hB s1, fB, sdk, ?_⟩⟩
      exact ⟨_, rfl, q H1 s1⟩
end
end Ls
namespace Ls
open PySem PySem.Spec PyProof.Rows L2
/-! ### short steps -/
local macro_rules | `(tactic| walk_at "ls_ne") => `(tactic| first | assumption | exact Ne.symm (by assumption) | exact ne_of_none (by assumption) (by assumption) | exact Ne.symm (ne_of_none (by assumption) (by assumption)))
local macro_rules | `(tactic| walk_at "ls_hp") => `(tactic| first
  | with_reducible assumption
  | exact upd_same
  | exact Eq.trans (upd_ne (by walk_at "ls_ne")) (by walk_at "ls_hp"))
local macro_rules | `(tactic| walk_at "ls_st") => `(tactic| first
  | with_reducible assumption
  | exact Stm.upd (by walk_at "ls_st") (by first | walk_at "ls_ne" | exact (Stm.noneS (by assumption) (by assumption)).1) (by first | walk_at "ls_ne" | exact (Stm.noneS (by assumption) (by assumption)).2))
local macro_rules | `(tactic| walk_at "ls1") => `(tactic| first
  | refine ⟨_, rfl, ?_⟩
  | refine ⟨_, _, rfl, rfl, ?_⟩
  | refine ⟨_, _, _, _, rfl, rfl, .inl (.inl (by walk_at "ls_hp")), rfl, ?_⟩
  | refine ⟨_, _, _, _, rfl, rfl, (by walk_at "ls_hp"), rfl, ?_⟩
  | refine ⟨rfl, _, rfl, ?_⟩
  | refine ⟨.inl ⟨rfl, _, .inl (.inl (by walk_at "ls_hp"))⟩, ?_⟩)
local macro_rules | `(tactic| walk_at "ls") => `(tactic| repeat (walk_at "ls1"))

section
variable {P : Program} {w : World} {K : PySem.W.Frag} {mg : Str → Option Value} {base : Heap}
abbrev s__law_is : Stmt := topS 39
theorem sc__law_is : FnScope ["_law_book", "_law_b", "_law_checks", "_law_due", "_law_check"] ["_law_book", "_law_b", "_law_checks"] (defScope s__law_is) := ⟨rfl, rfl, rfl, by decide +kernel, rfl, by decide +kernel, by decide +kernel⟩
abbrev N__law_is : List Str := ["_law_book", "_law_b", "_law_checks", "_law_due", "_law_check"]
def spIs (C : Addr) : Sp := fun vs H Q _ => ∃ (S L o b l : Addr) (B : Shp) (ck ck0 cl : List Str), vs = [.ref o, .ref b, .ref l] ∧ BookS C H o B ck ∧ ShpAt S L H b B ck0 ∧ B.Ok ∧ H l = some (.lst (cl.map V.str)) ∧ ck = ((menu B).filter fun z => decide (z ∈ cl)) ∧ ∀ H', Same H H' → Q (.bl true) H'
theorem ok_is {C : Addr} {f : Addr} {fd : FuncData} (F : Fun K "_law_is" "_law_is" s__law_is f fd) (T : Bt mg) (TB : BkT K C) (CI : ClsI K C) (gl_Book : mg "Book" = some (.ref C))
    (O_Book_kinds : OwnM P w K mg base CX0 1 C "kinds" ["self"] (spKinds C)) (O_Book_columns : OwnM P w K mg base CX0 1 C "columns" ["self"] (spColumns C)) (O_Book_checks : OwnM P w K mg base CX0 1 C "checks" ["self"] (spChecksB C))
    (O__law_all_checks : Own P w K mg base CX0 1 "_law_all_checks" ["_law_b"] spAll) (O__law_same : OwnG P w K mg base CX0 1 "_law_same" ["_law_found", "_law_due"] (spSame K)) : FnG P w K mg base CX0 3 f fd ["_law_book", "_law_b", "_law_checks"] (spIs C) := by
  refine fun_okG F sc__law_is (fun vs H Q E h => ?_) (fun cdv A outer s H vs Q E hgd hr h => ?_)
  · obtain ⟨S, L, o, b, l, B, ck, ck0, cl, rfl, _⟩ := h
    rfl
  · obtain ⟨S, L, o, b, l, B, ck, ck0, cl, rfl, hbk, hs, hB, hl, rfl, q⟩ := h
    have hu := hu_of hr
    refine ⟨_, (pss_cons (ps_if (pt_not (pt_val (pe_callB call_isi (by rfl) T.m_isinstance (by decide +kernel) (pa_cons (pv 0) (pa_cons (glob_ref gl_Book) pa_nil))))) (pss_one (ps_ret pe_bl)) pss_nil)
      (pss_cons (ps_setLc (i := 3) (own := [("_law_check", 4)]) (g := gName 4) (by rfl) sc__law_is.nd rfl rfl (sw_true rfl rfl rfl (by decide +kernel)) (pi_list (own_call O__law_all_checks hr (by first | decide | omega) (pa_cons (pv 1) pa_nil))) (blkOk_by (own := [("_law_check", 4)]) (N := N__law_is) (sc := defScope s__law_is) (by decide +kernel)) (fun _ _ _ _ _ => (pg_name (i := 4) sc__law_is.nd rfl (Or.inl rfl) (Or.inr rfl))) (fun _ _ _ _ _ => (pts_one (pt_cmpR (in_seq K) (pv 4) (pv 2) (by rfl)))) (fun _ _ _ _ _ => (pv 4)))
      (pss_one (ps_ret (own_callG O__law_same hgd hr (by first | decide | omega) (pa_cons (pe_lst (pa_cons (own_meth0 O_Book_kinds hr (by first | decide | omega) (pv 0)) (pa_cons (own_meth0 O_Book_columns hr (by first | decide | omega) (pv 0)) (pa_cons (own_meth0 O_Book_checks hr (by first | decide | omega) (pv 0)) pa_nil)))) (pa_cons (pe_lst (pa_cons (pe_dget hu (pv 1) pe_str (fun _ _ => rfl)) (pa_cons (pe_dget hu (pv 1) pe_str (fun _ _ => rfl)) (pa_cons (pv 3) pa_nil)))) pa_nil))))))), ?_⟩
    obtain ⟨dx, k, c, m, x, ho⟩ := hbk.ins
    refine ⟨_, rfl, ?_⟩
    refine ⟨_, _, _, _, true, rfl, .own C, .base (.ins ho TB.cl CI.ca CI.cn CI.ct CI.cm), CI.ck, _, rfl, iteF ?_⟩
    walk_at "ls"
    refine ⟨S, L, b, B, ck0, rfl, hs, hB, fun H1 p hp h1 s1 => ?_⟩
    refine ⟨p, rfl, ⟨_, .inl (.inl h1)⟩, fun D hD => ?_⟩
    have npD : p ≠ D := ne_of_none h1 hD
    have lm := menu_small hB
    have lz : (menu B).length < sizeLine := Nat.lt_of_le_of_lt lm (by decide)
    have hl1 := s1 _ _ hl
    have nlD : l ≠ D := ne_of_none hl1 hD
    refine lc_rows (walk_list (xs := (menu B).map V.str)) ((menu B).map V.str) (menu B) (fun z => if decide (z ∈ cl) = true then some (V.str z) else none) (by rw [List.length_map]) (fun i H x H' hi hy => hy) (by rw [List.length_map]; exact lz) (fun acc => .inl (.inl (by rw [upd_ne npD]; exact h1))) (fun j y z hj hyj hz => ?_) ?_
    · rw [List.getElem?_map, hz] at hyj
      cases hyj
      rw [List.length_map] at hj
      refine ⟨rfl, ?_⟩
      walk_at "ls"
      refine ⟨l, _, rfl, .inl (.inl (.inl (by rw [upd_ne nlD]; exact hl1))), rfl, all_flat _, _, rfl, ?_⟩
      rw [in_strs]
      refine ite2 (fun e => ?_) (fun e => ?_)
      · walk_at "ls"
        exact lr_yes hz hj lz (if_pos e)
      · exact lr_no hz (if_neg e)
    rw [filterMap_if (fun z => decide (z ∈ cl)) V.str]
    generalize hck : ((menu B).filter fun z => decide (z ∈ cl)) = ck at *
    have s2 : Same H1 (upd H1 D (.lst (ck.map V.str))) := same_new hD
    walk_at "ls"
    have s12 := s1.trans s2
    have no : ∀ {fl : Str}, ¬ fl = "_checks" → ¬ fl = "_menu" → ¬ fl = "_columns" → ¬ fl = "_kinds" → (bookF k c m x).lookup fl = none := fun h1 h2 h3 h4 => bookF_no h1 h2 h3 h4
    refine ⟨o, dx, _, rfl, s12 _ _ ho, no (by decide +kernel) (by decide +kernel) (by decide +kernel) (by decide +kernel), ?_⟩
    refine ⟨o, _, _, _, rfl, BookS.same hbk s12, fun l1 x1 hl1 t1 => ?_⟩
    have u1 := s12.trans (same_new (o := .lst x1) hl1)
    walk_at "ls"
    refine ⟨o, dx, _, rfl, u1 _ _ ho, no (by decide +kernel) (by decide +kernel) (by decide +kernel) (by decide +kernel), ?_⟩
    refine ⟨o, _, _, _, rfl, BookS.same hbk u1, fun l2 x2 hl2 t2 => ?_⟩
    have v2 := same_new (o := .lst x2) hl2
    have u2 := u1.trans v2
    walk_at "ls"
    refine ⟨o, dx, _, rfl, u2 _ _ ho, no (by decide +kernel) (by decide +kernel) (by decide +kernel) (by decide +kernel), ?_⟩
    refine ⟨o, _, _, rfl, BookS.same hbk u2, fun l3 hl3 => ?_⟩
    have v3 := same_new (o := .lst (ck.map V.str)) hl3
    have u3 := u2.trans v3
    refine ⟨(by show 3 ≤ sizeLine; decide), fun fl hfl => ?_⟩
    have v4 := same_new (o := .lst [.ref l1, .ref l2, .ref l3]) hfl
    have u4 := u3.trans v4
    have e1 := v4 _ _ (v3 _ _ (v2 _ _ (upd_same (H := upd H1 D (.lst (ck.map V.str))) (a := l1) (o := .lst x1))))
    have e2 := v4 _ _ (v3 _ _ (upd_same (a := l2) (o := .lst x2)))
    have e3 := v4 _ _ (upd_same (a := l3) (o := .lst (ck.map V.str)))
    have w1 := same_new (o := .lst x1) hl1
    have eD := v4 _ _ (v3 _ _ (v2 _ _ (w1 _ _ (upd_same (H := H1) (a := D) (o := .lst (ck.map V.str))))))
    have hs4 := hs.same u4
    obtain ⟨ka, ca, ea, kx, cx, hb6, hka, hkt, hca, hct, hea, _⟩ := id hs4
    walk_at "ls"
    refine ⟨b, _, rfl, dg_kinds hb6, ?_⟩
    walk_at "ls"
    refine ⟨b, _, rfl, dg_columns hb6, ?_⟩
    walk_at "ls"
    refine ⟨(by show 3 ≤ sizeLine; decide), fun dl hdl => ?_⟩
    have v5 := same_new (o := .lst [.ref ka, .ref ca, .ref D]) hdl
    have bk3 := hB.nk3
    have bc8 := hB.nc
    have hckm : ∀ z ∈ ck, z ∈ menu B := fun z hz => by rw [← hck] at hz; exact (List.mem_filter.mp hz).1
    have lck : ck.length ≤ 60 := by rw [← hck]; exact Nat.le_trans (List.length_filter_le _ _) (by omega)
    rw [ksU_rows] at t1
    rw [csU_rows] at t2
    have t1' := t1.keep (.same (w1.trans (v2.trans (v3.trans (v4.trans v5)))))
    have t2' := t2.keep (.same (v2.trans (v3.trans (v4.trans v5))))
    let data : PyData := .list [.list (B.ks.map encK), .list (B.cs.map encC), .list (ck.map .str)]
    have nk : ∀ k ∈ B.ks, Nm k.1 := fun k hk => hB.nm _ (List.mem_append_left _ (List.mem_map_of_mem hk))
    have strsOk : ∀ (ts : List Str), ts.length ≤ 60 → (∀ z ∈ ts, okB 100 z = true) → DOk 2 6060 (.list (ts.map PyData.str)) := fun ts hl hz => (DOk.list' (k := 0) (m := 100) (n := 60) (fun d hd => by
      obtain ⟨z, hz', rfl⟩ := List.mem_map.mp hd
      exact DOk.str (hz z hz')) (by rw [List.length_map]; exact hl)).mono (by decide) (by decide)
    have okd : DOk 3 18183 data := DOk.list' (k := 2) (m := 6060) (n := 3) (fun d hd => by
      simp only [List.mem_cons, List.not_mem_nil, or_false] at hd
      rcases hd with rfl | rfl | rfl
      · refine (DOk.list' (k := 1) (m := 202) (n := 3) (fun d hd => ?_) (by rw [List.length_map]; exact bk3)).mono (by decide) (by decide)
        obtain ⟨k, hk, rfl⟩ := List.mem_map.mp hd
        refine DOk.tuple' (k := 0) (m := 100) (n := 2) (fun d hd => ?_) (by show 2 ≤ 2; decide)
        simp only [List.mem_cons, List.not_mem_nil, or_false] at hd
        rcases hd with rfl | rfl
        · exact DOk.str (nm_ok100 (nk k hk))
        · exact DOk.bool _
      · refine (DOk.list' (k := 1) (m := 404) (n := 8) (fun d hd => ?_) (by rw [List.length_map]; exact bc8)).mono (by decide) (by decide)
        obtain ⟨c, hc, rfl⟩ := List.mem_map.mp hd
        refine DOk.tuple' (k := 0) (m := 100) (n := 4) (fun d hd => ?_) (by show 4 ≤ 4; decide)
        simp only [List.mem_cons, List.not_mem_nil, or_false] at hd
        rcases hd with rfl | rfl | rfl | rfl
        · exact DOk.str (nm_ok100 (hB.nm _ (List.mem_append_right _ (List.mem_map_of_mem hc))))
        · exact DOk.str (nm_ok100 (hB.nm _ (List.mem_append_left _ (hB.home c hc))))
        · exact DOk.str (nm_ok100 (hB.nm _ (List.mem_append_left _ (hB.goal c hc))))
        · refine DOk.str ?_
          cases c.2.2.2 <;> decide +kernel
      · exact strsOk _ lck fun z hz => okB_mono (menu_ok hB z (hckm z hz)) (by decide)) (Nat.le_refl _)
    refine ⟨fl, dl, data, rfl, .inl ⟨.lst (.inl (.inl (v5 _ _ upd_same))) (.cons (.lst (.inl (.inl (v5 _ _ e1))) (dp_kinds t1')) (.cons (.lst (.inl (.inl (v5 _ _ e2))) (dp_cols t2')) (.cons (.lst (.inl (.inl (v5 _ _ e3))) (dp_strs ck)) .nil))), okd.nd⟩,
      .inl ⟨.lst (.inl (.inl upd_same)) (.cons (.lst (.inl (.inl (v5 _ _ hka))) (dp_kinds (hkt.keep (.same v5)))) (.cons (.lst (.inl (.inl (v5 _ _ hca))) (dp_cols (hct.keep (.same v5)))) (.cons (.lst (.inl (.inl (v5 _ _ eD))) (dp_strs ck)) .nil))), okd.nd⟩, okd.fits (by decide) (by decide), ?_⟩
    exact q _ (u4.trans v5)
end
end Ls
namespace Ls
open PySem PySem.Spec PyProof.Rows L2
/-! ### x op y by x's own method, y of any known type -/
section
variable {X : Cx} {k j : Nat} {C : Addr} {ps : List Str} {sp : Sp}
def rCmpT (K : PySem.W.Frag) (C : Addr) (sp : Sp) : R2 := fun x y H Q => ∃ a dx fs t, x = .ref a ∧ H a = some (.ins C dx fs) ∧ TyX K H y t ∧ PySem.W.notFirst K C t = true ∧ sp [.ref a, y] H (fun v H' => ∃ b : Bool, v = .bl b ∧ Q v H') E0
theorem op_cmpT {op : CmpOp} (O : OwnM X.prog X.w X.K X.mg X.base CX0 k C (cmpInfo op).2.1 ps sp) (hop : ∀ a b, compareOp op a b = richCompare op a b) (hr : Room j X.A) (hkj : k ≤ j) : OpR X (compareOp op) (rCmpT X.K C sp) := by
  intro pins s σ H x y v u Q I rx ry h
  obtain ⟨a, dx, fs, t, rfl, ha, ty, hn, q⟩ := h
  cases rx
  obtain ⟨f, fd, F, me, bb⟩ := O.ex
  obtain ⟨mA, J, _⟩ := ins_get I.hok ha
  obtain ⟨od, J, _⟩ := J.look
  obtain ⟨P, kx, hP, _⟩ := kit_of I ry ty
  obtain ⟨m, hF⟩ := I.fr
  rw [hop]
  refine PySem.W.cmp_K (op := op) (tb := t) (hr.mono hkj).units0 hF I.ok.mod.kin J (kx.ty _ _ I.kIn hP) hn me.at_ me.fn ?_
  refine run_ownM O (hr.mono hkj) I I.env0 (us := [Value.ref a, u]) (vs := [V.ref a, y]) (.cons rfl (.cons ry .nil)) q (fun v s' z => ?_) f me
  obtain ⟨z', H', I', rz, n, ez, qz⟩ := z
  subst ez
  cases rz
  exact ⟨.bl n, H', I', rfl, qz⟩
end
/-! ### x >= y, x > y where the class has __le__, __lt__ alone -/
section
variable {prog : Program} {w : World} {A : Around} {E : Value → Shared → Prop} {s : Shared} {K : PySem.W.Frag} {x y C L f : Addr} {h₀ : Heap} {m : Str → Option Value} {ox oy : Obj} {od od2 : Option Obj}
theorem ge_slot : Slot "object" "__ge__" "object.__ge__" :=
  .of (owner := "object") (n := "__ge__") (by rw [typeLookup_type, builtinLookup_eq_fast]; kernel_rfl) (by decide +kernel) (by decide +kernel) (by decide +kernel)
    (by first | exact .inl (by decide +kernel) | exact .inr (by decide +kernel)) (by rw [isSubtype_type]; kernel_rfl)
theorem gt_slot : Slot "object" "__gt__" "object.__gt__" :=
  .of (owner := "object") (n := "__gt__") (by rw [typeLookup_type, builtinLookup_eq_fast]; kernel_rfl) (by decide +kernel) (by decide +kernel) (by decide +kernel)
    (by first | exact .inl (by decide +kernel) | exact .inr (by decide +kernel)) (by rw [isSubtype_type]; kernel_rfl)
theorem entry_ge : entryFor table "object.__ge__" = some Builtin.«object.__ge__» := entryFor_of_tree (by kernel_rfl)
theorem entry_gt : entryFor table "object.__gt__" = some Builtin.«object.__gt__» := entryFor_of_tree (by kernel_rfl)
theorem body_ge {a b : Value} {Q : Fin → Shared → Prop} (h : Q (.done (.ret .notImplemented)) s) : wpAny (model prog w) A (Builtin.«object.__ge__» ⟨[a, b], []⟩) Q E s := by
  have e : Builtin.«object.__ge__» ⟨[a, b], []⟩ = (pure (.done (.ret .notImplemented)) : Sem Fin) := rfl
  rw [e]
  exact wpAny_pure h
theorem body_gt {a b : Value} {Q : Fin → Shared → Prop} (h : Q (.done (.ret .notImplemented)) s) : wpAny (model prog w) A (Builtin.«object.__gt__» ⟨[a, b], []⟩) Q E s := by
  have e : Builtin.«object.__gt__» ⟨[a, b], []⟩ = (pure (.done (.ret .notImplemented)) : Sem Fin) := rfl
  rw [e]
  exact wpAny_pure h
theorem refl_K {op : CmpOp} {id n : String} {B : Builtin} {Q : Value → Shared → Prop} (hu : A.units < cLine) (F : PyProof.Rows.Fr h₀ L s.heap m) (X₀ : K.In h₀) (I : PySem.W.InstAt s.heap x ox C od) (J : PySem.W.InstAt s.heap y oy C od2) (S : Slot "object" (cmpInfo op).2.1 id)
    (entry : entryFor table id = some B) (hB : ∀ {A : Around} {E : Value → Shared → Prop} {s : Shared} {a b : Value} {Q : Fin → Shared → Prop}, Q (.done (.ret .notImplemented)) s → wpAny (model prog w) A (B ⟨[a, b], []⟩) Q E s)
    (hk : builtinKind id = some .slot) (hsp : splitId id = some ("object", n)) (ha : argsOk id ⟨[.ref x, .ref y], []⟩) (h1 : PySem.W.findIn K (.ref C) (cmpInfo op).2.1 = some (some (.builtin id))) (hso : PySem.W.subIn K (.ref C) (.type "object") = some true)
    (hs : PySem.W.findIn K (.ref C) (cmpInfo op).2.2 = some (some (.ref f))) (hf : PySem.W.isFn K (.ref f) = true) (h : wpAny (model prog w) A (call (.ref f) [.ref y, .ref x]) (PySem.W.CmpBack Q) E s) : wpAny (model prog w) A (richCompare op (.ref x) (.ref y)) Q E s := by
  have X := X₀.keeps F.keep
  have one : wpAny (model prog w) A (tryCompare (.ref x) (cmpInfo op).2.1 (.ref y)) (fun r s' => r = none ∧ s' = s) E s := by
    unfold tryCompare
    refine wpAny_bind (ifBound_B X I S h1 (wpAny_call (codeAny_call_builtin S.plain entry (check_slot_K X I hk hsp ha hso (hB ?_)))))
    exact wpAny_pure ⟨rfl, rfl⟩
  have two : wpAny (model prog w) A (tryCompare (.ref y) (cmpInfo op).2.2 (.ref x)) (fun r s' => ∃ v, r = some v ∧ Q v s') E s := by
    unfold tryCompare
    refine wpAny_bind (PySem.W.ifBound_K X J hs hf (wpAny_mono h (fun v s' hv => ?_) fun _ _ e => e))
    cases v <;> first | exact hv.elim | exact wpAny_pure ⟨_, rfl, hv⟩
  unfold richCompare
  simp only [oneThing_ref]
  refine wpAny_holding (wpAny_bind (wpAny_cRoomFor hu ?_))
  refine wpAny_bind (I.type.here (wpAny_bind (J.type.here ?_)))
  rw [show (Value.ref C != Value.ref C) = false from by simp]
  simp only [Bool.false_eq_true, if_false]
  refine wpAny_bind (wpAny_pure ?_)
  simp only [Bool.false_eq_true, if_false]
  refine wpAny_bind (wpAny_mono one (fun r s' z => ?_) fun _ _ e => e)
  obtain ⟨rfl, rfl⟩ := z
  simp only [Bool.not_false, if_true]
  refine wpAny_bind (wpAny_mono two (fun r s' z => ?_) fun _ _ e => e)
  obtain ⟨v, rfl, hq⟩ := z
  exact wpAny_pure hq
end
section
variable {X : Cx} {k j : Nat} {C : Addr} {ps : List Str} {sp : Sp}
def rRefl (C : Addr) (sp : Sp) : R2 := fun x y H Q => ∃ a dx fs b dy gs, x = .ref a ∧ y = .ref b ∧ H a = some (.ins C dx fs) ∧ H b = some (.ins C dy gs) ∧ sp [.ref b, .ref a] H (fun v H' => ∃ b : Bool, v = .bl b ∧ Q v H') E0
theorem op_geO (O : OwnM X.prog X.w X.K X.mg X.base CX0 k C "__le__" ps sp) (hge : PySem.W.findIn X.K (.ref C) "__ge__" = some (some (.builtin "object.__ge__"))) (hso : PySem.W.subIn X.K (.ref C) (.type "object") = some true) (hr : Room j X.A) (hkj : k ≤ j) : OpR X (compareOp .GtE) (rRefl C sp) := by
  intro pins s σ H x y v u Q I rx ry h
  obtain ⟨a, dx, fs, b, dy, gs, rfl, rfl, ha, hb, q⟩ := h
  cases rx
  cases ry
  obtain ⟨f, fd, F, me, bb⟩ := O.ex
  obtain ⟨mA, J, _⟩ := ins_get I.hok ha
  obtain ⟨mB, J', _⟩ := ins_get I.hok hb
  obtain ⟨od, J, _⟩ := J.look
  obtain ⟨od', J', _⟩ := J'.look
  obtain ⟨m, hF⟩ := I.fr
  refine PySem.W.cmp_ofGtE (refl_K (op := .GtE) (n := "__ge__") (hr.mono hkj).units0 hF I.ok.mod.kin J J' ge_slot entry_ge (fun {A E s a b Q} h => body_ge h) (by decide +kernel) (by decide +kernel) (by unfold argsOk; kernel_rfl) hge hso me.at_ me.fn ?_)
  refine run_ownM O (hr.mono hkj) I I.env0 (us := [Value.ref b, Value.ref a]) (vs := [V.ref b, V.ref a]) (.cons rfl (.cons rfl .nil)) q (fun v s' z => ?_) f me
  obtain ⟨z', H', I', rz, n, ez, qz⟩ := z
  subst ez
  cases rz
  exact ⟨.bl n, H', I', rfl, qz⟩
theorem op_gtO (O : OwnM X.prog X.w X.K X.mg X.base CX0 k C "__lt__" ps sp) (hge : PySem.W.findIn X.K (.ref C) "__gt__" = some (some (.builtin "object.__gt__"))) (hso : PySem.W.subIn X.K (.ref C) (.type "object") = some true) (hr : Room j X.A) (hkj : k ≤ j) : OpR X (compareOp .Gt) (rRefl C sp) := by
  intro pins s σ H x y v u Q I rx ry h
  obtain ⟨a, dx, fs, b, dy, gs, rfl, rfl, ha, hb, q⟩ := h
  cases rx
  cases ry
  obtain ⟨f, fd, F, me, bb⟩ := O.ex
  obtain ⟨mA, J, _⟩ := ins_get I.hok ha
  obtain ⟨mB, J', _⟩ := ins_get I.hok hb
  obtain ⟨od, J, _⟩ := J.look
  obtain ⟨od', J', _⟩ := J'.look
  obtain ⟨m, hF⟩ := I.fr
  refine PySem.W.cmp_ofGt (refl_K (op := .Gt) (n := "__gt__") (hr.mono hkj).units0 hF I.ok.mod.kin J J' gt_slot entry_gt (fun {A E s a b Q} h => body_gt h) (by decide +kernel) (by decide +kernel) (by unfold argsOk; kernel_rfl) hge hso me.at_ me.fn ?_)
  refine run_ownM O (hr.mono hkj) I I.env0 (us := [Value.ref b, Value.ref a]) (vs := [V.ref b, V.ref a]) (.cons rfl (.cons rfl .nil)) q (fun v s' z => ?_) f me
  obtain ⟨z', H', I', rz, n, ez, qz⟩ := z
  subst ez
  cases rz
  exact ⟨.bl n, H', I', rfl, qz⟩
end
end Ls
namespace Ls
open PySem PySem.Spec PyProof.Rows L2
/-! ### a list of any things, compared with an empty list -/
def rNeE (K : PySem.W.Frag) : R2 := fun x y H Q => ∃ (a b : Addr) (xs : List V), x = .ref a ∧ y = .ref b ∧ SqL K H a xs ∧ SqL K H b [] ∧ Q (.bl (!xs.isEmpty)) H
theorem op_neE {X : Cx} (hu : X.A.units + 64 < cLine) : OpR X (compareOp .NotEq) (rNeE X.K) := by
  intro pins s σ H x y v u Q I rx ry h
  obtain ⟨a, b, xs, rfl, rfl, ha, hb, q⟩ := h
  cases rx
  cases ry
  obtain ⟨its, rv, p, hz⟩ := I.list ha
  obtain ⟨its2, rv2, p2, hz2⟩ := I.list hb
  cases rv2
  have hc : X.A.units < cLine := by omega
  cases xs with
  | nil =>
    cases rv
    have h1 := SeqAt.RcNeAt.lists (A := X.A) (s := s) (e := fun _ => true) p.isList p2.isList rfl hc (fun j h1 _ => absurd h1 (by simp))
    exact h1 X.prog X.w X.xe _ ⟨.bl _, H, I, rfl, q⟩
  | cons z r =>
    have hl : its.length ≠ 0 := by rw [← rv.length]; simp
    have h1 := SeqAt.RcNeAt.lists_lengths (A := X.A) (s := s) p.isList p2.isList (by simpa using hl) hc
    exact h1 X.prog X.w X.xe _ ⟨.bl _, H, I, rfl, q⟩
theorem neE {X : Cx} (K : PySem.W.Frag) {k : Nat} (hr : Room k X.A) (h : X.K = K := by rfl) : OpR X (compareOp .NotEq) (rNeE K) := by subst h; exact op_neE hr.units
/-! ### methods of built-in types where the context is bound -/
section
variable {X : Cx} {o e : Expr} {es : List Expr} {to : TE} {t : TA} {name : Str} {apos cpos : Pos} {T id : String} {r : V → List V → Hp → VK → Prop}
theorem pe_bm0K (K : PySem.W.Frag) (pa : PlainAttrs T) (slot : Slot T name id) (hty : typeOf (.builtin id) = pure (.type "method_descriptor")) (hm : MtM X id r) (ho : PE X o to) (hK : X.K = K := by rfl)
    (hbase : attributeBase o name X.env (eval o X.env) = eval o X.env := by rfl) (hline : (apos.endLine == cpos.line) = true := by rfl) : PE X (.Call (.Attribute o name apos) [] [] cpos) (tBM0 K T r to) := by
  subst hK
  exact pe_bm0 pa slot hty hm ho hbase hline
theorem pe_bmK (K : PySem.W.Frag) (pa : PlainAttrs T) (slot : Slot T name id) (hty : typeOf (.builtin id) = pure (.type "method_descriptor")) (hm : MtM X id r) (ho : PE X o to) (ha : PA X (e :: es) t) (hK : X.K = K := by rfl)
    (hbase : attributeBase o name X.env (eval o X.env) = eval o X.env := by rfl)
    (hfew : ((backTo cpos (starEach (e :: es) X.env)).all (fun x => !x.1) && (backToKw cpos (keywordEach [] X.env)).all (fun x => x.1.isSome)
      && decide ((e :: es).length + ([] : List Keyword).length + (if ([] : List Keyword).isEmpty then 0 else 1) < 30)) = true := by rfl)
    (hline : (apos.endLine == cpos.line) = true := by rfl) (hs : starEach (e :: es) X.env = (false, eval e X.env) :: starEach es X.env := by rfl) (hplain : (backTo cpos (starEach es X.env)).any (·.1) = false := by rfl) :
    PE X (.Call (.Attribute o name apos) (e :: es) [] cpos) (tBM K T r to t) := by
  subst hK
  exact pe_bm pa slot hty hm ho ha hbase hfew hline hs hplain
end
end Ls
namespace Ls
open PySem PySem.Spec PyProof.Rows L2
/-! ### a list of any things, == an empty list -/
def rEqE (K : PySem.W.Frag) : R2 := fun x y H Q => ∃ (a b : Addr) (xs : List V), x = .ref a ∧ y = .ref b ∧ SqL K H a xs ∧ SqL K H b [] ∧ Q (.bl xs.isEmpty) H
theorem op_eqE {X : Cx} (hu : X.A.units + 64 < cLine) : OpR X (compareOp .Eq) (rEqE X.K) := by
  intro pins s σ H x y v u Q I rx ry h
  obtain ⟨a, b, xs, rfl, rfl, ha, hb, q⟩ := h
  cases rx
  cases ry
  obtain ⟨its, rv, p, hz⟩ := I.list ha
  obtain ⟨its2, rv2, p2, hz2⟩ := I.list hb
  cases rv2
  have hc : X.A.units < cLine := by omega
  cases xs with
  | nil =>
    cases rv
    have h1 := SeqAt.RcAt.lists (A := X.A) (s := s) (e := fun _ => true) p.isList p2.isList rfl hc (fun j h1 _ => absurd h1 (by simp))
    exact h1 X.prog X.w X.xe _ ⟨.bl _, H, I, rfl, q⟩
  | cons z r =>
    have hl : its.length ≠ 0 := by rw [← rv.length]; simp
    have h1 := SeqAt.RcAt.lists_lengths (A := X.A) (s := s) p.isList p2.isList (by simpa using hl) hc
    exact h1 X.prog X.w X.xe _ ⟨.bl _, H, I, rfl, q⟩
theorem eqE {X : Cx} (K : PySem.W.Frag) {k : Nat} (hr : Room k X.A) (h : X.K = K := by rfl) : OpR X (compareOp .Eq) (rEqE K) := by subst h; exact op_eqE hr.units
/-! ### rules that name K, for places where the context is bound -/
theorem slTK {X : Cx} (K : PySem.W.Frag) (h : X.K = K := by rfl) : SlR X (rSlT K) := by subst h; exact sl_tup
theorem pi_listK {X : Cx} (K : PySem.W.Frag) {tg l : Expr} {tl : TE} (hl : PE X l tl) (h : X.K = K := by rfl) : PI X tg l (iList K tl) := by subst h; exact pi_list hl
end Ls
namespace Ls
open PySem PySem.Spec PyProof.Rows L2
/-! ### short steps -/
local macro_rules | `(tactic| walk_at "ls_ne") => `(tactic| first | assumption | exact Ne.symm (by assumption) | exact ne_of_none (by assumption) (by assumption) | exact Ne.symm (ne_of_none (by assumption) (by assumption)))
local macro_rules | `(tactic| walk_at "ls_hp") => `(tactic| first
  | with_reducible assumption
  | exact upd_same
  | exact Eq.trans (upd_ne (by walk_at "ls_ne")) (by walk_at "ls_hp"))
local macro_rules | `(tactic| walk_at "ls_st") => `(tactic| first
  | with_reducible assumption
  | exact Stm.upd (by walk_at "ls_st") (by first | walk_at "ls_ne" | exact (Stm.noneS (by assumption) (by assumption)).1) (by first | walk_at "ls_ne" | exact (Stm.noneS (by assumption) (by assumption)).2))
local macro_rules | `(tactic| walk_at "ls1") => `(tactic| first
  | refine ⟨_, rfl, ?_⟩
  | refine ⟨_, _, rfl, rfl, ?_⟩
  | refine ⟨_, _, _, _, rfl, rfl, .inl (.inl (by walk_at "ls_hp")), rfl, ?_⟩
  | refine ⟨_, _, _, _, rfl, rfl, (by walk_at "ls_hp"), rfl, ?_⟩
  | refine ⟨rfl, _, rfl, ?_⟩
  | refine ⟨.inl ⟨rfl, _, .inl (.inl (by walk_at "ls_hp"))⟩, ?_⟩)
local macro_rules | `(tactic| walk_at "ls") => `(tactic| repeat (walk_at "ls1"))

theorem bl_dp {K : PySem.W.Frag} {H : Hp} : ∀ bs : List Bool, DpAll K H (bs.map V.bl) (bs.map PyData.bool)
  | [] => .nil
  | b :: r => .cons (.bl b) (bl_dp r)
theorem bl_ok (bs : List Bool) (h : bs.length ≤ 6) : DOk 1 6 (.list (bs.map PyData.bool)) := DOk.list' (k := 0) (m := 0) (n := 6) (fun d hd => by
  obtain ⟨b, _, rfl⟩ := List.mem_map.mp hd
  exact DOk.bool b) (by rw [List.length_map]; exact h)
theorem none_out (dk : List Str) : ∀ ck : List Str, ((ck.filter fun z => !decide (z ∈ dk)).map V.str).isEmpty = ck.all fun z => decide (z ∈ dk)
  | [] => rfl
  | z :: r => by
    rw [List.filter_cons, List.all_cons]
    by_cases h : z ∈ dk
    · rw [decide_eq_true h, Bool.not_true, if_neg (by decide), Bool.true_and]
      exact none_out dk r
    · rw [decide_eq_false h]
      rfl
section
variable {P : Program} {w : World} {K : PySem.W.Frag} {mg : Str → Option Value} {base : Heap}
abbrev s__law_compared : Stmt := topS 41
theorem sc__law_compared : FnScope ["_law_one", "_law_other", "_law_c", "_law_d", "_law_alike", "_law_same_here", "_law_within", "_law_found", "_law_check"] ["_law_one", "_law_other", "_law_c", "_law_d", "_law_alike"] (defScope s__law_compared) := ⟨rfl, rfl, rfl, by decide +kernel, rfl, by decide +kernel, by decide +kernel⟩
abbrev N__law_compared : List Str := ["_law_one", "_law_other", "_law_c", "_law_d", "_law_alike", "_law_same_here", "_law_within", "_law_found", "_law_check"]
def spComp (C : Addr) : Sp := fun vs H Q _ => ∃ (o u c d : Addr) (A B : Shp) (ck dk cs ds : List Str), vs = [.ref o, .ref u, .ref c, .ref d, .bl (decide (A = B))] ∧ BookS C H o A ck ∧ BookS C H u B dk ∧ A.Fine ∧ B.Fine ∧ ck.length ≤ 900 ∧ (∀ z ∈ ck, okB 100 z = true) ∧ (∀ z ∈ dk, okB 100 z = true) ∧
  H c = some (.lst (cs.map V.str)) ∧ H d = some (.lst (ds.map V.str)) ∧ (A = B → cs = ck ∧ ds = dk) ∧ ∀ H', Same H H' → Q (.bl true) H'
theorem ok_comp {C : Addr} {f : Addr} {fd : FuncData} (F : Fun K "_law_compared" "_law_compared" s__law_compared f fd) (T : Bt mg) (TB : BkT K C) (CI : ClsI K C) (O_Book_eq : OwnM P w K mg base CX0 2 C "__eq__" ["self", "other"] (spEqB K C)) (O_Book_le : OwnM P w K mg base CX0 2 C "__le__" ["self", "other"] (spLe C)) (O_Book_lt : OwnM P w K mg base CX0 4 C "__lt__" ["self", "other"] (spLt C))
    (hne : PySem.W.findIn K (.ref C) "__ne__" = some (some (.builtin "object.__ne__"))) (hge : PySem.W.findIn K (.ref C) "__ge__" = some (some (.builtin "object.__ge__"))) (hgt : PySem.W.findIn K (.ref C) "__gt__" = some (some (.builtin "object.__gt__"))) (hso : PySem.W.subIn K (.ref C) (.type "object") = some true)
    (O__law_same : OwnG P w K mg base CX0 1 "_law_same" ["_law_found", "_law_due"] (spSame K)) : FnG P w K mg base CX0 5 f fd ["_law_one", "_law_other", "_law_c", "_law_d", "_law_alike"] (spComp C) := by
  refine fun_okG F sc__law_compared (fun vs H Q E h => ?_) (fun cdv A outer s H vs Q E hgd hr h => ?_)
  · obtain ⟨o, u, c, d, A, B, ck, dk, cs, ds, rfl, _⟩ := h
    rfl
  · obtain ⟨o, u, c, d, A', B, ck, dk, cs, ds, rfl, hA, hB, fA, fB, lck, sck, sdk, hc, hd, heq, q⟩ := h
    have hu := hu_of hr
    refine ⟨_, (pss_cons (ps_par (i := 5) (j := 6) (by rfl) sc__law_compared.nd rfl rfl (by decide) rfl rfl (pa_cons (pe_and (pv 4) (pe_one (pe_cmpR (eqD K hr) (pv 2) (pv 3) (nomark _)))) (pa_cons (pe_and (pv 4) (pe_one (pe_cmpR (eqE K hr) (pe_lc (own := [("_law_check", 8)]) (g := gName 8) (by rfl) sc__law_compared.nd (pi_list (pv 2)) (blkOk_by (own := [("_law_check", 8)]) (N := N__law_compared) (sc := defScope s__law_compared) (by decide +kernel)) (fun _ _ _ _ _ => (pg_name (i := 8) sc__law_compared.nd rfl (Or.inl rfl) (Or.inr rfl))) (fun _ _ _ _ _ => (pts_one (pt_cmpR (notIn_seq K) (pv 8) (pv 3) (by rfl)))) (fun _ _ _ _ _ => (pv 8))) (pe_lst pa_nil) (nomark _)))) pa_nil)) (by rfl))
      (pss_cons (ps_set (i := 7) sc__law_compared.nd rfl (Or.inl rfl) (pe_lst (pa_cons (pe_cmpR (op_cmpO O_Book_eq (fun _ _ => rfl) hr (by first | decide | omega)) (pv 0) (pv 1) (nomark _)) (pa_cons (pe_cmpR (op_neO O_Book_eq hr (by first | decide | omega) hne hso) (pv 0) (pv 1) (nomark _)) (pa_cons (pe_cmpR (op_cmpO O_Book_le (fun _ _ => rfl) hr (by first | decide | omega)) (pv 0) (pv 1) (nomark _)) (pa_cons (pe_cmpR (op_cmpO O_Book_lt (fun _ _ => rfl) hr (by first | decide | omega)) (pv 0) (pv 1) (nomark _)) (pa_cons (pe_cmpR (op_geO O_Book_le hge hso hr (by first | decide | omega)) (pv 1) (pv 0) (nomark _)) (pa_cons (pe_cmpR (op_gtO O_Book_lt hgt hso hr (by first | decide | omega)) (pv 1) (pv 0) (nomark _)) pa_nil))))))))
      (pss_one (ps_ret (own_callG O__law_same hgd hr (by first | decide | omega) (pa_cons (pv 7) (pa_cons (pe_lst (pa_cons (pv 5) (pa_cons (pe_not (pv 5)) (pa_cons (pv 6) (pa_cons (pe_and (pv 6) (pe_one (pe_not (pv 5)))) (pa_cons (pv 6) (pa_cons (pe_and (pv 6) (pe_one (pe_not (pv 5)))) pa_nil))))))) pa_nil))))))), ?_⟩
    have sok : ∀ z ∈ ck, PyData.strOk z = true := fun z hz => okB_strOk (sck z hz)
    have sokd : ∀ z ∈ dk, PyData.strOk z = true := fun z hz => okB_strOk (sdk z hz)
    obtain ⟨dx, k, c1, m, x, h1⟩ := hA.ins
    obtain ⟨dx', k', c', m', x', k1⟩ := hB.ins
    by_cases e : A' = B
    · subst e
      obtain ⟨rfl, rfl⟩ := heq rfl
      rw [decide_eq_true rfl]
      walk_at "ls"
      refine ⟨.list (cs.map PyData.str), .list (ds.map PyData.str), .lst (.inl (.inl hc)) (dp_strs cs), .lst (.inl (.inl hd)) (dp_strs ds), shaped_list (fun x hx => ?_), shaped_list (fun x hx => ?_), ?_⟩
      · obtain ⟨z, hz, rfl⟩ := List.mem_map.mp hx
        exact flat_str (sok z hz)
      · obtain ⟨z, hz, rfl⟩ := List.mem_map.mp hx
        exact flat_str (sokd z hz)
      rw [PyData.eqv, eqvAll_map PyData.str eqv_str]
      walk_at "ls"
      refine ⟨⟨_, .inl (.inl hc)⟩, fun D hD => ?_⟩
      have ncD : c ≠ D := ne_of_none hc hD
      have ndD : d ≠ D := ne_of_none hd hD
      have lz : cs.length < sizeLine := Nat.lt_of_le_of_lt lck (by decide)
      refine lc_rows (walk_list (xs := cs.map V.str)) (cs.map V.str) cs (fun z => if (!decide (z ∈ ds)) = true then some (V.str z) else none) (by rw [List.length_map]) (fun i H x H' hi hy => hy) (by rw [List.length_map]; exact lz) (fun acc => .inl (.inl (by rw [upd_ne ncD]; exact hc))) (fun j y z hj hyj hz => ?_) ?_
      · rw [List.getElem?_map, hz] at hyj
        cases hyj
        rw [List.length_map] at hj
        refine ⟨rfl, ?_⟩
        walk_at "ls"
        refine ⟨d, _, rfl, .inl (.inl (.inl (by rw [upd_ne ndD]; exact hd))), rfl, all_flat _, _, rfl, ?_⟩
        rw [in_strs]
        refine ite2 (fun e => ?_) (fun e => ?_)
        · walk_at "ls"
          exact lr_yes hz hj lz (if_pos e)
        · exact lr_no hz (if_neg e)
      rw [filterMap_if (fun z => !decide (z ∈ ds)) V.str]
      refine ⟨Nat.zero_le _, fun q0 hq0 => ?_⟩
      refine ⟨D, q0, _, rfl, rfl, .inl (.inl (by rw [upd_ne (ne_of_none upd_same hq0)]; exact upd_same)), .inl (.inl upd_same), ?_⟩
      rw [none_out]
      have sx : Same H (upd (upd H D (.lst ((cs.filter fun z => !decide (z ∈ ds)).map V.str))) q0 (.lst [])) := (same_new hD).trans (same_new hq0)
      generalize upd (upd H D (.lst ((cs.filter fun z => !decide (z ∈ ds)).map V.str))) q0 (.lst []) = HX at *
      walk_at "ls"
      refine ⟨_, _, rfl, ?_⟩
      walk_at "ls"
      have g1 := sx _ _ h1
      have g2 := sx _ _ k1
      have gA := BookS.same hA sx
      have gB := BookS.same hB sx
      refine ⟨o, _, _, u, _, _, rfl, rfl, g1, g2, ?_⟩
      refine ⟨o, .ref u, A', cs, rfl, gA, fA, sok, .inr ⟨u, A', ds, rfl, gB, fB, sokd, ?_⟩⟩
      refine ⟨_, rfl, ?_⟩
      walk_at "ls"
      refine ⟨o, _, _, .ref C, rfl, g1, .base (.ins g2 TB.cl CI.ca CI.cn CI.ct CI.cm), by simp [PySem.W.notFirst], ?_⟩
      refine ⟨o, .ref u, A', cs, rfl, gA, fA, sok, .inr ⟨u, A', ds, rfl, gB, fB, sokd, ?_⟩⟩
      refine ⟨_, rfl, ?_⟩
      walk_at "ls"
      refine ⟨o, _, _, u, _, _, rfl, rfl, g1, g2, ?_⟩
      refine ⟨o, u, A', A', cs, ds, rfl, gA, gB, fA, fB, lck, fun H3 s3 => ?_⟩
      refine ⟨_, rfl, ?_⟩
      walk_at "ls"
      refine ⟨o, _, _, u, _, _, rfl, rfl, s3 _ _ g1, s3 _ _ g2, ?_⟩
      refine ⟨o, u, A', A', cs, ds, rfl, BookS.same gA s3, BookS.same gB s3, fA, fB, lck, sok, sokd, fun H4 s4 => ?_⟩
      have s34 := s3.trans s4
      refine ⟨_, rfl, ?_⟩
      walk_at "ls"
      refine ⟨u, _, _, o, _, _, rfl, rfl, s34 _ _ g2, s34 _ _ g1, ?_⟩
      refine ⟨o, u, A', A', cs, ds, rfl, BookS.same gA s34, BookS.same gB s34, fA, fB, lck, fun H5 s5 => ?_⟩
      have s35 := s34.trans s5
      refine ⟨_, rfl, ?_⟩
      walk_at "ls"
      refine ⟨u, _, _, o, _, _, rfl, rfl, s35 _ _ g2, s35 _ _ g1, ?_⟩
      refine ⟨o, u, A', A', cs, ds, rfl, BookS.same gA s35, BookS.same gB s35, fA, fB, lck, sok, sokd, fun H6 s6 => ?_⟩
      refine ⟨_, rfl, ?_⟩
      walk_at "ls"
      refine ⟨(by show 6 ≤ sizeLine; decide), fun fl hfl => ?_⟩
      rw [decide_eq_true (rfl : A' = A')]
      simp only [Bool.true_and]
      generalize decide (cs = ds) = sb
      generalize (cs.all fun z => decide (z ∈ ds)) = wb
      cases wb with
      | true =>
        walk_at "ls"
        try refine iteT ?_
        walk_at "ls"
        try refine iteT ?_
        walk_at "ls"
        refine ⟨(by show 6 ≤ sizeLine; decide), fun dl hdl => ?_⟩
        have v1 := same_new (o := .lst ([sb, !sb, true, true && !sb, true, true && !sb].map V.bl)) hfl
        have v2 := same_new (o := .lst ([sb, !sb, true, true && !sb, true, true && !sb].map V.bl)) hdl
        have okd := bl_ok [sb, !sb, true, true && !sb, true, true && !sb] (Nat.le_refl 6)
        refine ⟨fl, dl, _, rfl, .inl ⟨.lst (.inl (.inl (v2 _ _ upd_same))) (bl_dp [sb, !sb, true, true && !sb, true, true && !sb]), okd.nd⟩, .inl ⟨.lst (.inl (.inl upd_same)) (bl_dp [sb, !sb, true, true && !sb, true, true && !sb]), okd.nd⟩, okd.fits (by decide) (by decide), ?_⟩
        exact q _ ((sx.trans (s35.trans s6)).trans (v1.trans v2))
      | false =>
        walk_at "ls"
        try refine iteF ?_
        walk_at "ls"
        try refine iteF ?_
        walk_at "ls"
        refine ⟨(by show 6 ≤ sizeLine; decide), fun dl hdl => ?_⟩
        have v1 := same_new (o := .lst ([sb, !sb, false, false && !sb, false, false && !sb].map V.bl)) hfl
        have v2 := same_new (o := .lst ([sb, !sb, false, false && !sb, false, false && !sb].map V.bl)) hdl
        have okd := bl_ok [sb, !sb, false, false && !sb, false, false && !sb] (Nat.le_refl 6)
        refine ⟨fl, dl, _, rfl, .inl ⟨.lst (.inl (.inl (v2 _ _ upd_same))) (bl_dp [sb, !sb, false, false && !sb, false, false && !sb]), okd.nd⟩, .inl ⟨.lst (.inl (.inl upd_same)) (bl_dp [sb, !sb, false, false && !sb, false, false && !sb]), okd.nd⟩, okd.fits (by decide) (by decide), ?_⟩
        exact q _ ((sx.trans (s35.trans s6)).trans (v1.trans v2))
    · rw [decide_eq_false e]
      walk_at "ls"
      have sx : Same H H := Same.refl H
      refine iteF ?_
      walk_at "ls"
      refine ⟨_, _, rfl, ?_⟩
      walk_at "ls"
      have g1 := sx _ _ h1
      have g2 := sx _ _ k1
      have gA := BookS.same hA sx
      have gB := BookS.same hB sx
      refine ⟨o, _, _, u, _, _, rfl, rfl, g1, g2, ?_⟩
      refine ⟨o, .ref u, A', ck, rfl, gA, fA, sok, .inr ⟨u, B, dk, rfl, gB, fB, sokd, ?_⟩⟩
      refine ⟨_, rfl, ?_⟩
      walk_at "ls"
      refine ⟨o, _, _, .ref C, rfl, g1, .base (.ins g2 TB.cl CI.ca CI.cn CI.ct CI.cm), by simp [PySem.W.notFirst], ?_⟩
      refine ⟨o, .ref u, A', ck, rfl, gA, fA, sok, .inr ⟨u, B, dk, rfl, gB, fB, sokd, ?_⟩⟩
      refine ⟨_, rfl, ?_⟩
      walk_at "ls"
      refine ⟨o, _, _, u, _, _, rfl, rfl, g1, g2, ?_⟩
      refine ⟨o, u, A', B, ck, dk, rfl, gA, gB, fA, fB, lck, fun H3 s3 => ?_⟩
      refine ⟨_, rfl, ?_⟩
      walk_at "ls"
      refine ⟨o, _, _, u, _, _, rfl, rfl, s3 _ _ g1, s3 _ _ g2, ?_⟩
      refine ⟨o, u, A', B, ck, dk, rfl, BookS.same gA s3, BookS.same gB s3, fA, fB, lck, sok, sokd, fun H4 s4 => ?_⟩
      have s34 := s3.trans s4
      refine ⟨_, rfl, ?_⟩
      walk_at "ls"
      refine ⟨u, _, _, o, _, _, rfl, rfl, s34 _ _ g2, s34 _ _ g1, ?_⟩
      refine ⟨o, u, A', B, ck, dk, rfl, BookS.same gA s34, BookS.same gB s34, fA, fB, lck, fun H5 s5 => ?_⟩
      have s35 := s34.trans s5
      refine ⟨_, rfl, ?_⟩
      walk_at "ls"
      refine ⟨u, _, _, o, _, _, rfl, rfl, s35 _ _ g2, s35 _ _ g1, ?_⟩
      refine ⟨o, u, A', B, ck, dk, rfl, BookS.same gA s35, BookS.same gB s35, fA, fB, lck, sok, sokd, fun H6 s6 => ?_⟩
      refine ⟨_, rfl, ?_⟩
      walk_at "ls"
      refine ⟨(by show 6 ≤ sizeLine; decide), fun fl hfl => ?_⟩
      simp only [decide_eq_false e, Bool.false_and, Bool.not_false]
      walk_at "ls"
      try refine iteF ?_
      walk_at "ls"
      try refine iteF ?_
      walk_at "ls"
      refine ⟨(by show 6 ≤ sizeLine; decide), fun dl hdl => ?_⟩
      have v1 := same_new (o := .lst ([false, !false, false, false && !false, false, false && !false].map V.bl)) hfl
      have v2 := same_new (o := .lst ([false, !false, false, false && !false, false, false && !false].map V.bl)) hdl
      have okd := bl_ok [false, !false, false, false && !false, false, false && !false] (Nat.le_refl 6)
      refine ⟨fl, dl, _, rfl, .inl ⟨.lst (.inl (.inl (v2 _ _ upd_same))) (bl_dp [false, !false, false, false && !false, false, false && !false]), okd.nd⟩, .inl ⟨.lst (.inl (.inl upd_same)) (bl_dp [false, !false, false, false && !false, false, false && !false]), okd.nd⟩, okd.fits (by decide) (by decide), ?_⟩
      exact q _ ((sx.trans (s35.trans s6)).trans (v1.trans v2))
end
end Ls
namespace Ls
open PySem PySem.Spec PyProof.Rows L2

/-! ### several clauses, some with a name, some without -/
inductive MixCl
  | as (q : AsCl)
  | no (c : Value) (ts : Addr → Value → Option Addr → TS)
def wMix (K : PySem.W.Frag) (Wout : WX) (D : Ends) : List MixCl → WX
  | [] => Wout
  | .as q :: r => fun cls d σ H => ∃ b, PySem.W.exmOne K cls q.c = some b ∧ (b = true → ∀ a, H a = none → q.ts a cls d (asEnds D q.i) (σ.set q.i (some (.ref a))) H) ∧ (b = false → wMix K Wout D r cls d σ H)
  | .no c ts :: r => fun cls d σ H => ∃ b, PySem.W.exmOne K cls c = some b ∧ (b = true → ∀ a, H a = none → ts a cls d D σ H) ∧ (b = false → wMix K Wout D r cls d σ H)
inductive MixOk (X : Cx) : List ExceptHandler → List MixCl → Prop
  | nil : MixOk X [] []
  | as {x n : Str} {q : AsCl} {st : Stmt} {sts : List Stmt} {p1 p2 : Pos} {hds : List ExceptHandler} {l : List MixCl} (hi : X.N[q.i]? = some n) (hl : X.env.kindOf n = some .local) (hc : Names X x q.c)
      (hsu : ∀ (a : Addr) (oe : Obj) (cls : Value) (d : Option Addr) (pn : List (Addr × Obj)), Zc cls d oe → (∃ vs, oe.data = .fields vs) → PSs (X.suite a ((a, oe) :: pn)) (st :: sts) (q.ts a cls d)) (r : MixOk X hds l) :
      MixOk X (.ExceptHandler (some (.Name x p1)) (some n) (st :: sts) p2 :: hds) (.as q :: l)
  | no {x : Str} {c : Value} {ts : Addr → Value → Option Addr → TS} {st : Stmt} {sts : List Stmt} {p1 p2 : Pos} {hds : List ExceptHandler} {l : List MixCl} (hc : Names X x c)
      (hsu : ∀ (a : Addr) (oe : Obj) (cls : Value) (d : Option Addr) (pn : List (Addr × Obj)), Zc cls d oe → (∃ vs, oe.data = .fields vs) → PSs (X.suite a ((a, oe) :: pn)) (st :: sts) (ts a cls d)) (r : MixOk X hds l) :
      MixOk X (.ExceptHandler (some (.Name x p1)) none (st :: sts) p2 :: hds) (.no c ts :: l)
section
variable {X : Cx} {body : List Stmt} {h₀ : ExceptHandler} {hds : List ExceptHandler} {l : List MixCl} {pos : Pos} {tb : WX → TS} {Wout : WX} {pins : List (Addr × Obj)} {D : Ends}
theorem mix_takes (ok : X.Ok) (hs : X.stack = X.env :: X.outer) (hf : X.env.frame = some X.env.locals) (hN : X.N.Nodup) (tk : Takes X Wout) (hh : MixOk X hds l) : Takes (X.tr (X.pn ++ pins) (xeAs X pins hds D)) (wMix X.K Wout D l) := by
  intro u s' xx
  have hfr : X.A.frames = some (X.env :: X.outer) := by rw [ok.frames, hs]
  obtain ⟨a, B, sI, pins', σ', H', cls, d, rfl, JT, nb, up, sky, na, os, ag, w0⟩ := xx
  have J : Inv X pins σ' H' sI := JT.ofTry ok
  have sky2 : Sky B (X.env :: X.outer) a (Zc cls d) X.env.locals s'.heap := by
    rw [← hs]
    exact sky
  show wpAny _ _ (noteFrame (.ref a) X.env) _ _ _
  refine Sky.land Zc.steady hfr hf sky2 fun hA flA upA => ?_
  have JA : Inv X pins σ' H' { s' with heap := hA } := J.landed nb flA.1 (up.trans upA) os ag
  obtain ⟨oA, vA, eA, zA, dA⟩ := flA.there
  have nfr : a ∉ frs (X.env :: X.outer) := fun hm => by
    obtain ⟨_, o', e', hnf⟩ := (flA.2.2.1).mem hm
    have e2 := eA.symm.trans e'
    cases e2
    exact hnf _ dA
  have nL : a ≠ X.env.locals := fun z => nfr (List.mem_filterMap.mpr ⟨X.env, List.mem_cons_self, by rw [hf, z]⟩)
  have nF : a ∉ X.fs := fun hm => by
    obtain ⟨y, hy, q⟩ := List.mem_filterMap.mp hm
    exact nfr (List.mem_filterMap.mpr ⟨y, .tail _ hy, q⟩)
  have SA := JA.suite eA dA na nL nF
  have LT : PySem.W.Looks (model X.prog X.w) hA (typeOf (.ref a)) cls := fun A Q E s k q => wpAny_typeOf_ref (k _ _ eA) (by rw [zA.1]; exact q)
  have test : ∀ {x : Str} {c : Value} {p1 : Pos} {Q : Value → Shared → Prop} {E : Value → Shared → Prop}, Names X x c → Q c { s' with heap := hA } → wpAny (model X.prog X.w) (X.A.mark (some (.ref a))) (eval (.Name x p1) X.env) Q E { s' with heap := hA } := fun {x c p1 Q E} hc z => by
    obtain ⟨hg, hdb, hm | ⟨hm, hv, hnn⟩⟩ := hc
    · exact ld_glob (X := X.suite a ((a, oA) :: (X.pn ++ pins))) SA hg hm z hdb
    · exact ld_blt (X := X.suite a ((a, oA) :: (X.pn ++ pins))) SA hg hm hv z hnn hdb
  have go : ∀ {hds' : List ExceptHandler} {l' : List MixCl}, MixOk X hds' l' → wMix X.K Wout D l' cls d σ' H' → wpAny (model X.prog X.w) X.A (handleBy (.ref a) X.env hds') (SP X pins D) X.xe { s' with heap := hA } := by
    intro hds' l' hk
    induction hk with
    | nil =>
      intro w
      refine wpAny_handleBy_nil ?_
      obtain ⟨_, _, _, oe, vs, T, _, _, he, _, hd, h1, _⟩ := id flA
      unfold PySem.passOn
      refine wpAny_bind (wpAny_field he hd h1 ?_)
      have nt : ¬ ((Value.ref T == Value.none) = true) := by simp
      rw [if_neg nt]
      have fin : wpAny (model X.prog X.w) X.A (setFlight (.ref a) X.env.frame) (fun _ s4 => wpAny (model X.prog X.w) X.A (throw (.ref a) : Sem Flow) (SP X pins D) X.xe s4) X.xe { s' with heap := hA } := by
        rw [hf]
        refine HandSPX.setFlight_upZ flA fun hB skyB upB => wpAny_throw (tk _ _ ?_)
        refine ⟨a, B, sI, pins, σ', H', cls, d, rfl, J, nb, (up.trans upA).trans upB, .inr (.inr ?_), na, os, ag, w⟩
        rw [hs]
        exact skyB
      first
        | exact wpAny_bind (wpAny_pure (wpAny_bind fin))
        | exact wpAny_bind fin
    | @as x n q st sts p1 p2 hds2 l2 hi hl hc hsu r ih =>
      intro w
      obtain ⟨b, hb, hyes, hno⟩ := w
      refine wpAny_handleBy_cons (codeAny_handlers_test ?_) (by intro z; cases z)
      have LM := PySem.W.exm_one (M := model X.prog X.w) JA.kIn LT hb
      refine test hc (LM.here ?_)
      cases b with
      | false =>
        show wpAny _ X.A (handleBy (.ref a) X.env hds2) _ _ _
        exact ih (hno rfl)
      | true =>
        refine codeAny_handlers_suite_as ?_
        refine HandSPX.lands_againZ flA fun hB flB upB => ?_
        have JB : Inv X pins σ' H' { s' with heap := hB } := J.landed nb flB.1 ((up.trans upA).trans upB) os ag
        obtain ⟨oB, vB, eB, zB, dB⟩ := flB.there
        have SB := JB.suite eB dB na nL nF
        refine store_ok (X := X.suite a ((a, oB) :: (X.pn ++ pins))) (v := .ref a) SB hN hi (.inl hl) rfl (fun s5 S5 => ?_) (.inr hl)
        refine wpAny_mono ((hsu a oB cls d (X.pn ++ pins) zB ⟨_, dB⟩).run [] s5 _ H' _ S5 (hyes rfl a na)) (fun f s6 hsp => ?_) (fun _ _ z => z.elim)
        have gone : ∀ {σ6 : L2.St} {H6 : Hp} {Q : Shared → Prop}, Inv (X.suite a ((a, oB) :: (X.pn ++ pins))) [] σ6 H6 s6 → (∀ s7, Inv X pins (σ6.set q.i none) H6 s7 → Q s7) →
            wpAny (model X.prog X.w) X.A (do bindName X.env n .none; unbindBehindTheSuite X.env n p2) (fun _ s7 => Q s7) X.xe s6 := fun {σ6 H6 Q} S6 hq => gone_ok (S6.unsuite ok) hN hi hl hq
        cases f with
        | ret u =>
          obtain ⟨v6, σ6, H6, S6, r6, q6⟩ := hsp
          exact gone S6 fun s7 J7 => ⟨v6, _, _, J7, r6, q6⟩
        | next =>
          obtain ⟨σ6, H6, S6, q6⟩ := hsp
          exact gone S6 fun s7 J7 => ⟨_, _, J7, q6⟩
        | brk =>
          obtain ⟨σ6, H6, S6, q6⟩ := hsp
          exact gone S6 fun s7 J7 => ⟨_, _, J7, q6⟩
        | cont =>
          obtain ⟨σ6, H6, S6, q6⟩ := hsp
          exact gone S6 fun s7 J7 => ⟨_, _, J7, q6⟩
    | @no x c ts st sts p1 p2 hds2 l2 hc hsu r ih =>
      intro w
      obtain ⟨b, hb, hyes, hno⟩ := w
      refine wpAny_handleBy_cons (codeAny_handlers_test ?_) (by intro z; cases z)
      have LM := PySem.W.exm_one (M := model X.prog X.w) JA.kIn LT hb
      refine test hc (LM.here ?_)
      cases b with
      | false =>
        show wpAny _ X.A (handleBy (.ref a) X.env hds2) _ _ _
        exact ih (hno rfl)
      | true =>
        refine codeAny_handlers_suite ?_
        refine HandSPX.lands_againZ flA fun hB flB upB => ?_
        have JB : Inv X pins σ' H' { s' with heap := hB } := J.landed nb flB.1 ((up.trans upA).trans upB) os ag
        obtain ⟨oB, vB, eB, zB, dB⟩ := flB.there
        have SB := JB.suite eB dB na nL nF
        refine wpAny_mono ((hsu a oB cls d (X.pn ++ pins) zB ⟨_, dB⟩).run [] _ _ H' _ SB (hyes rfl a na)) (fun f s6 hsp => ?_) (fun _ _ z => z.elim)
        cases f with
        | ret u =>
          obtain ⟨v6, σ6, H6, S6, r6, q6⟩ := hsp
          exact ⟨_, _, _, S6.unsuite ok, r6, q6⟩
        | next =>
          obtain ⟨σ6, H6, S6, q6⟩ := hsp
          exact ⟨_, _, S6.unsuite ok, q6⟩
        | brk =>
          obtain ⟨σ6, H6, S6, q6⟩ := hsp
          exact ⟨_, _, S6.unsuite ok, q6⟩
        | cont =>
          obtain ⟨σ6, H6, S6, q6⟩ := hsp
          exact ⟨_, _, S6.unsuite ok, q6⟩
  exact go hh w0
/-- THE RULE: try: body / except X: .. / except Y as f: .. -/
theorem ps_try_mix (hs : X.stack = X.env :: X.outer) (hf : X.env.frame = some X.env.locals) (hN : X.N.Nodup) (tk : Takes X Wout)
    (hb : ∀ (W : WX) (pn : List (Addr × Obj)) (xe : Value → Shared → Prop), Takes (X.tr pn xe) W → PassesOwn (model X.prog X.w) X.A X.env xe → PSs (X.tr pn xe) body (tb W))
    (hh : MixOk X (h₀ :: hds) l) : PS X (.Try body (h₀ :: hds) [] [] pos) (fun D σ H => tb (wMix X.K Wout D l) D σ H) := by
  refine ⟨fun pins s σ H D I h => ?_⟩
  have ok := I.ok
  refine wpAny_Try_except ?_
  have PB := hb (wMix X.K Wout D l) (X.pn ++ pins) (xeAs X pins (h₀ :: hds) D) (mix_takes ok hs hf hN tk hh) PassesOwn.looking
  refine wpAny_mono (PB.run [] s σ H D (I.toTry _) h) (fun f s1 hsp => ?_) (fun e s1 he => he)
  cases f with
  | next =>
    obtain ⟨σ', H', J', q⟩ := hsp
    exact wpAny_execs_nil ⟨σ', H', J'.ofTry ok, q⟩
  | ret u =>
    obtain ⟨v, σ', H', J', r, q⟩ := hsp
    exact ⟨v, σ', H', J'.ofTry ok, r, q⟩
  | brk =>
    obtain ⟨σ', H', J', q⟩ := hsp
    exact ⟨σ', H', J'.ofTry ok, q⟩
  | cont =>
    obtain ⟨σ', H', J', q⟩ := hsp
    exact ⟨σ', H', J'.ofTry ok, q⟩
end
end Ls
namespace Ls
open PySem PySem.Spec PyProof.Rows L2
/-- classes apart, as one test -/
def exmB (K : PySem.W.Frag) (l : List Addr) : Bool := (l.all fun a => l.all fun b => decide (PySem.W.exmOne K (.ref a) (.ref b) = some (decide (a = b)))) && decide l.Nodup
theorem exmB_ok {K : PySem.W.Frag} {l : List Addr} (h : exmB K l = true) : (∀ a ∈ l, ∀ b ∈ l, PySem.W.exmOne K (.ref a) (.ref b) = some (decide (a = b))) ∧ l.Nodup := by
  unfold exmB at h
  obtain ⟨h1, h2⟩ := Bool.and_eq_true_iff.mp h
  exact ⟨fun a ha b hb => of_decide_eq_true (List.all_eq_true.mp (List.all_eq_true.mp h1 a ha) b hb), of_decide_eq_true h2⟩
theorem exm_self {K : PySem.W.Frag} {a : Addr} {l : List Addr} (h : exmB K l = true) (m : a ∈ l) : PySem.W.exmOne K (.ref a) (.ref a) = some true := by
  have := (exmB_ok h).1 a m a m
  rw [decide_eq_true rfl] at this
  exact this
end Ls
namespace Ls
open PySem PySem.Spec PyProof.Rows L2
section
variable {X : Cx}
/-- repr(x): x data at an address, or None -/
def rReprN (K : PySem.W.Frag) : List V → Hp → VK → Prop := fun xs H Q => rReprX K xs H Q ∨ (xs = [.non] ∧ Q (.str "None") H)
theorem call_repr_dataN {k : Nat} (hgd : X.A.guards = some []) (hr : Room k X.A) : CallR X (.builtin "repr") (rReprN X.K) := by
  intro pins s σ H xs us Q I r h
  rcases h with h | ⟨rfl, q⟩
  · exact call_repr_dataX hgd hr pins s σ H xs us Q I r h
  · obtain ⟨u, rfl, ru⟩ := r.one
    cases ru
    refine PySem.P.repr_of_none ?_
    exact ⟨.str "None", H, I.kept (t' := s.toks + 1) (fun b o e => e), ⟨_, rfl⟩, q⟩
end
end Ls
namespace Ls
open PySem PySem.Spec PyProof.Rows L2
/-! ### data with dicts in it, all of it tracked -/
def keyD : Key → PyData
  | .inl i => .int i
  | .inr z => .str z
mutual
inductive DR (H : Hp) : V → PyData → Prop
  | non : DR H .non .none
  | bl (b : Bool) : DR H (.bl b) (.bool b)
  | int (i : Int) : DR H (.int i) (.int i)
  | str (x : Str) : DR H (.str x) (.str x)
  | lst {a : Addr} {xs : List V} {ds : List PyData} : H a = some (.lst xs) → DRs H xs ds → DR H (.ref a) (.list ds)
  | tup {a : Addr} {xs : List V} {ds : List PyData} : H a = some (.tup xs) → DRs H xs ds → DR H (.ref a) (.tuple ds)
  | dct {a : Addr} {kvs : List (Key × V)} {ps : List (PyData × PyData)} : H a = some (.dK kvs) → ps.map (·.1) = kvs.map (fun p => keyD p.1) → DRs H (kvs.map (·.2)) (ps.map (·.2)) → DR H (.ref a) (.dict ps)
inductive DRs (H : Hp) : List V → List PyData → Prop
  | nil : DRs H [] []
  | cons {v : V} {vs : List V} {d : PyData} {ds : List PyData} : DR H v d → DRs H vs ds → DRs H (v :: vs) (d :: ds)
end
mutual
theorem DR.same {H H' : Hp} (s : Same H H') : ∀ {v : V} {d : PyData}, DR H v d → DR H' v d
  | _, _, .non => .non
  | _, _, .bl b => .bl b
  | _, _, .int i => .int i
  | _, _, .str x => .str x
  | _, _, .lst h r => .lst (s _ _ h) (DRs.same s r)
  | _, _, .tup h r => .tup (s _ _ h) (DRs.same s r)
  | _, _, .dct h e r => .dct (s _ _ h) e (DRs.same s r)
theorem DRs.same {H H' : Hp} (s : Same H H') : ∀ {vs : List V} {ds : List PyData}, DRs H vs ds → DRs H' vs ds
  | _, _, .nil => .nil
  | _, _, .cons a r => .cons (DR.same s a) (DRs.same s r)
end
theorem DRs.append {H : Hp} : ∀ {vs us : List V} {ds es : List PyData}, DRs H vs ds → DRs H us es → DRs H (vs ++ us) (ds ++ es)
  | _, _, _, _, .nil, h => h
  | _, _, _, _, .cons a r, h => .cons a (DRs.append r h)
theorem DRs.len {H : Hp} : ∀ {vs : List V} {ds : List PyData}, DRs H vs ds → vs.length = ds.length
  | _, _, .nil => rfl
  | _, _, .cons _ r => by rw [List.length_cons, List.length_cons, DRs.len r]
theorem drs_strs {H : Hp} : ∀ ts : List Str, DRs H (ts.map V.str) (ts.map PyData.str)
  | [] => .nil
  | t :: r => .cons (.str t) (drs_strs r)
section
variable {X : Cx} {pins : List (Addr × Obj)} {σ : L2.St} {H : Hp} {s : Shared}
theorem pairs_vals {P : Program} {w : World} : ∀ {kvs : List (Key × V)} {vs : List (Key × Value)} {l : List DictEntry}, KV kvs vs → Pairs (mixKind P w) l vs → Vals (kvs.map (·.2)) (l.map (·.val))
  | _, _, _, .nil, p => by cases p; exact .nil
  | _, _, _, .cons hh k, p => by
    cases p with
    | cons hp hv p2 => exact .cons (by dsimp only; rw [hv]; exact hh.2) (pairs_vals k p2)
theorem pairs_keys {P : Program} {w : World} {h : Heap} : ∀ {kvs : List (Key × V)} {vs : List (Key × Value)} {l : List DictEntry}, KV kvs vs → Pairs (mixKind P w) l vs → ReadsAll h (l.map (·.key)) (kvs.map fun p => keyD p.1) []
  | _, _, _, .nil, p => by cases p; exact .nil
  | _, _, _, .cons (a := a) hh k, p => by
    cases p with
    | cons hp hv p2 =>
      have r := pairs_keys (h := h) k p2
      obtain ⟨ka, va⟩ := a
      have e := hh.1
      simp only at e
      rcases keyIs_shape hp with ⟨i, t, e1, e2⟩ | ⟨x, t, e1, e2⟩
      · rw [List.map_cons, List.map_cons]
        rw [e2, e, e1]
        exact .cons (as := []) (.int i t) r
      · rw [List.map_cons, List.map_cons]
        rw [e2, e, e1]
        exact .cons (as := []) (.str x t) r
mutual
theorem DR.reads (I : Inv X pins σ H s) : ∀ {v : V} {d : PyData} {u : Value}, DR H v d → RelV v u → ∃ as, Reads s.heap u d as
  | _, _, _, .non, r => by cases r; exact ⟨_, .none⟩
  | _, _, _, .bl b, r => by cases r; exact ⟨_, .bool b⟩
  | _, _, _, .int i, r => by obtain ⟨t, rfl⟩ := r; exact ⟨_, .int i t⟩
  | _, _, _, .str x, r => by obtain ⟨t, rfl⟩ := r; exact ⟨_, .str x t⟩
  | _, _, _, .lst h q, r => by
    cases r
    obtain ⟨its, rv, ⟨o, n, ho, hc, _, hd⟩, _⟩ := I.list (.inl (.inl h))
    obtain ⟨as, ra⟩ := DRs.reads I q rv
    exact ⟨_, Reads.list ho hc hd ra⟩
  | _, _, _, .tup h q, r => by
    cases r
    obtain ⟨its, rv, ⟨o, ho, hc, n, hd⟩, _⟩ := I.tuple (.inl (.inl h))
    obtain ⟨as, ra⟩ := DRs.reads I q rv
    exact ⟨_, Reads.tuple ho hc hd ra⟩
  | _, _, _, .dct h e q, r => by
    cases r
    obtain ⟨_, hsm, vs, kv, oD, es, ep, hoD, hex, hdD, _, pr, _⟩ := dk_of I.hok h
    obtain ⟨bs, rb⟩ := DRs.reads I q (pairs_vals kv pr)
    have ra := pairs_keys (h := s.heap) kv pr
    rw [← e] at ra
    exact ⟨_, Reads.dict hoD hex.1 hdD ra rb⟩
theorem DRs.reads (I : Inv X pins σ H s) : ∀ {vs : List V} {ds : List PyData} {us : List Value}, DRs H vs ds → Vals vs us → ∃ as, ReadsAll s.heap us ds as
  | _, _, _, .nil, r => by cases r; exact ⟨_, .nil⟩
  | _, _, _, .cons h q, r => by
    cases r with
    | cons r1 r2 =>
      obtain ⟨as, ra⟩ := DR.reads I h r1
      obtain ⟨bs, rb⟩ := DRs.reads I q r2
      exact ⟨_, .cons ra rb⟩
end
/-- a text of each key -/
theorem pairs_keysK {P : Program} {w : World} {h : Heap} : ∀ {kvs : List (Key × V)} {vs : List (Key × Value)} {l : List DictEntry}, KV kvs vs → Pairs (mixKind P w) l vs → PyData.showableAll (kvs.map fun p => keyD p.1) = true → (∀ t ∈ PyData.shownAll (kvs.map fun p => keyD p.1), t.length ≤ sizeLine) →
    ReprAllK P w [] h 0 (l.map (·.key)) (PyData.shownAll (kvs.map fun p => keyD p.1))
  | _, _, _, .nil, p, _, _ => by cases p; exact .nil
  | _, _, _, .cons (a := a) hh k, p, hs, hz => by
    cases p with
    | cons hp hv p2 =>
      rw [List.map_cons, PyData.showableAll] at hs
      obtain ⟨hs1, hs2⟩ := Bool.and_eq_true_iff.mp hs
      have r := pairs_keysK (h := h) k p2 hs2 fun t ht => hz t (by rw [List.map_cons, PyData.shownAll]; exact .tail _ ht)
      have hz1 := hz (keyD a.1).shown (by rw [List.map_cons, PyData.shownAll]; exact .head _)
      obtain ⟨ka, va⟩ := a
      have e := hh.1
      simp only at e hs1 hz1
      rw [List.map_cons, List.map_cons, PyData.shownAll]
      rcases keyIs_shape hp with ⟨i, t, e1, e2⟩ | ⟨x, t, e1, e2⟩
      · rw [e2, e, e1]
        rw [e, e1] at hs1
        refine .cons ?_ r
        simp only [keyD, PyData.shown]
        exact ReprK.of_is (ReprIs.int t (by simpa [keyD, PyData.showable] using hs1)) _ _ _
      · rw [e2, e, e1]
        rw [e, e1] at hz1
        refine .cons ?_ r
        simp only [keyD, PyData.shown]
        exact ReprK.of_is (ReprIs.str x t (by simpa only [keyD, PyData.shown] using hz1)) _ _ _
theorem kv_sh {ps : List (PyData × PyData)} (h : PyData.showableKv ps = true) : PyData.showableAll (ps.map (·.1)) = true ∧ PyData.showableAll (ps.map (·.2)) = true := PyData.showableKv_split ps h
mutual
/-- what is shown of such data -/
theorem DR.rk (I : Inv X pins σ H s) : ∀ {v : V} {d : PyData} {u : Value}, DR H v d → RelV v u → d.showable = true → d.shown.length ≤ sizeLine → ∃ bs, ReadAtMost s.heap d.depth bs ∧ ReprK X.prog X.w bs s.heap d.depth u d.shown
  | _, _, _, .non, r, _, _ => by cases r; exact ⟨[], (fun _ z => nomatch z), by simp only [PyData.shown]; exact ReprK.of_is ReprIs.none _ _ _⟩
  | _, _, _, .bl b, r, _, _ => by cases r; exact ⟨[], (fun _ z => nomatch z), by simp only [PyData.shown]; exact ReprK.of_is (ReprIs.bool b) _ _ _⟩
  | _, _, _, .int i, r, hs, _ => by
    obtain ⟨t, rfl⟩ := r
    exact ⟨[], (fun _ z => nomatch z), by simp only [PyData.shown]; exact ReprK.of_is (ReprIs.int t (by simpa [PyData.showable] using hs)) _ _ _⟩
  | _, _, _, .str x, r, _, hz => by
    obtain ⟨t, rfl⟩ := r
    exact ⟨[], (fun _ z => nomatch z), by simp only [PyData.shown]; exact ReprK.of_is (ReprIs.str x t (by simpa only [PyData.shown] using hz)) _ _ _⟩
  | _, _, _, .lst (ds := ds) h q, r, hs, hz => by
    obtain ⟨as, rd⟩ := DR.reads I (.lst h q) r
    cases r
    obtain ⟨its, rv, ⟨o, n, ho, hc, _, hd⟩, _⟩ := I.list (.inl (.inl h))
    have hz2 : (listText (PyData.shownAll ds)).length ≤ sizeLine := by simpa only [PyData.shown] using hz
    obtain ⟨bs, hb, hk⟩ := DRs.rk I q rv (by simpa [PyData.showable] using hs) fun t ht => Nat.le_trans (listText_mem_le ht) hz2
    have hn := not_mem_of_deeper rd (by simp only [PyData.depth]; exact Nat.lt_succ_self _) hb
    refine ⟨_, ReadAtMost.cons rd (by simp only [PyData.depth]; exact Nat.le_succ _) hb, ?_⟩
    simp only [PyData.shown, PyData.depth]
    cases its with
    | nil =>
      cases rv
      cases q
      simp only [PyData.shownAll, listText_nil]
      exact ReprK.listEmpty ho hc hd
    | cons x l => exact ReprK.list ho hc hd hn (by simpa using hk.length_eq) fun i y e => hk.item i y (by simpa using e)
  | _, _, _, .tup (ds := ds) h q, r, hs, hz => by
    obtain ⟨as, rd⟩ := DR.reads I (.tup h q) r
    cases r
    obtain ⟨its, rv, ⟨o, ho, hc, n, hd⟩, _⟩ := I.tuple (.inl (.inl h))
    have hz2 : (tupleText (PyData.shownAll ds)).length ≤ sizeLine := by simpa only [PyData.shown] using hz
    obtain ⟨bs, hb, hk⟩ := DRs.rk I q rv (by simpa [PyData.showable] using hs) fun t ht => Nat.le_trans (tupleText_mem_le ht) hz2
    have hn := not_mem_of_deeper rd (by simp only [PyData.depth]; exact Nat.lt_succ_self _) hb
    refine ⟨_, ReadAtMost.cons rd (by simp only [PyData.depth]; exact Nat.le_succ _) hb, ?_⟩
    simp only [PyData.shown, PyData.depth]
    exact ReprK.tuple ho hc hd hn hk
  | _, _, _, .dct (ps := ps) h e q, r, hs, hz => by
    obtain ⟨as, rd⟩ := DR.reads I (.dct h e q) r
    cases r
    obtain ⟨_, hsm, vs, kv, oD, es, ep, hoD, hex, hdD, _, pr, _⟩ := dk_of I.hok h
    have hz2 : (dictText (PyData.shownKv ps)).length ≤ sizeLine := by simpa only [PyData.shown] using hz
    obtain ⟨s1, s2⟩ := kv_sh (ps := ps) (by simpa [PyData.showable] using hs)
    obtain ⟨b2, hb2, k2⟩ := DRs.rk I q (pairs_vals kv pr) s2 fun t ht => by
      obtain ⟨p, hp, hl⟩ := PyData.shownKv_val_le ps t ht
      exact Nat.le_trans hl (Nat.le_trans (dictText_mem_le hp) hz2)
    have k1 := pairs_keysK (h := s.heap) kv pr (by rw [← e]; exact s1) fun t ht => by
      rw [← e] at ht
      obtain ⟨p, hp, hl⟩ := PyData.shownKv_key_le ps t ht
      exact Nat.le_trans hl (Nat.le_trans (dictText_mem_le hp) hz2)
    rw [← e] at k1
    have hb3 := hb2.mono (PyData.depthAll_vals_le ps)
    have hn := not_mem_of_deeper rd (by simp only [PyData.depth]; exact Nat.lt_succ_self _) hb3
    refine ⟨_, ReadAtMost.cons rd (by simp only [PyData.depth]; exact Nat.le_succ _) hb3, ?_⟩
    simp only [PyData.shown, PyData.depth, PyData.shownKv_eq]
    exact ReprK.dict hoD hex.1 hdD hsm hn (ReprEntriesK.of_two es.toList _ _ (k1.more_le (fun b z => by cases z) (Nat.zero_le _)) (k2.more_le (fun _ z => z) (PyData.depthAll_vals_le ps)))
theorem DRs.rk (I : Inv X pins σ H s) : ∀ {vs : List V} {ds : List PyData} {us : List Value}, DRs H vs ds → Vals vs us → PyData.showableAll ds = true → (∀ t ∈ PyData.shownAll ds, t.length ≤ sizeLine) → ∃ bs, ReadAtMost s.heap (PyData.depthAll ds) bs ∧ ReprAllK X.prog X.w bs s.heap (PyData.depthAll ds) us (PyData.shownAll ds)
  | _, _, _, .nil, r, _, _ => by cases r; exact ⟨[], (fun _ z => nomatch z), by simp only [PyData.shownAll]; exact .nil⟩
  | _, _, _, .cons (d := d) (ds := ds) h q, r, hs, hz => by
    cases r with
    | cons r1 r2 =>
      rw [PyData.showableAll] at hs
      obtain ⟨hs1, hs2⟩ := Bool.and_eq_true_iff.mp hs
      obtain ⟨c1, hc1, g1⟩ := DR.rk I h r1 hs1 (hz _ (by rw [PyData.shownAll]; exact .head _))
      obtain ⟨c2, hc2, g2⟩ := DRs.rk I q r2 hs2 fun t ht => hz t (by rw [PyData.shownAll]; exact .tail _ ht)
      have m1 := hc1.mono (Nat.le_max_left (PyData.depth d) (PyData.depthAll ds))
      have m2 := hc2.mono (Nat.le_max_right (PyData.depth d) (PyData.depthAll ds))
      refine ⟨c1 ++ c2, by simp only [PyData.depthAll]; exact m1.append m2, ?_⟩
      simp only [PyData.depthAll, PyData.shownAll]
      exact .cons ((g1.more fun z hz => List.mem_append_left _ hz).level_le (Nat.le_max_left _ _)) (g2.more_le (fun z hz => List.mem_append_right _ hz) (Nat.le_max_right _ _))
end
/-- repr(x), x a list, a tuple or a dict of such data -/
theorem repr_DR (I : Inv X pins σ H s) {a : Addr} {d : PyData} {Q : Value → Shared → Prop} (h : DR H (.ref a) d) (hs : d.showable = true) (hz : d.shown.length ≤ sizeLine) (hg : X.A.guards = some []) (hu : X.A.units + (d.depth + 1) < cLine)
    (hQ : ∀ h' t k, (∀ b o, s.heap.get? b = some o → h'.get? b = some o) → Q (.str d.shown t) { s with heap := h', toks := k }) : wpAny (model X.prog X.w) X.A (call (.builtin "repr") [.ref a]) Q X.xe s := by
  have un : X.A.units + 1 < cLine := by omega
  obtain ⟨as, rd⟩ := DR.reads I h (show RelV (.ref a) (Value.ref a) from rfl)
  cases h with
  | lst hl q =>
    rename_i xs ds
    obtain ⟨its, rv, ⟨o, n, ho, hc, _, hd⟩, _⟩ := I.list (.inl (.inl hl))
    have hz2 : (listText (PyData.shownAll ds)).length ≤ sizeLine := by simpa only [PyData.shown] using hz
    obtain ⟨bs, hb, hk⟩ := DRs.rk I q rv (by simpa [PyData.showable] using hs) fun t ht => Nat.le_trans (listText_mem_le ht) hz2
    have hn := not_mem_of_deeper rd (by simp only [PyData.depth]; exact Nat.lt_succ_self _) hb
    simp only [PyData.shown] at hQ
    simp only [PyData.depth] at hu
    have ty : s.TypeIs (.ref a) "list" := ⟨o, ho, hc⟩
    cases its with
    | nil =>
      cases rv
      cases q
      simp only [PyData.shownAll, listText_nil] at hQ
      exact call_repr_slot un ty F.slot_list_repr.toG (call_list_repr_empty ty ho hd ⟨_, _, rfl, hQ s.heap _ _ fun _ _ e => e⟩)
    | cons x l =>
      exact call_repr_slot un ty F.slot_list_repr.toG (call_list_reprK ho hc hd hn (by simpa using hk.length_eq) (fun i y e => hk.item i y (by simpa using e)) hg (fun b _ => Clear.nil b) (by show X.A.units + 1 + _ < cLine; omega) (fun _ _ e => e) (fun h' t k kp => ⟨_, _, rfl, hQ h' t k kp⟩) hz2)
  | tup hl q =>
    rename_i xs ds
    obtain ⟨its, rv, ⟨o, ho, hc, n, hd⟩, _⟩ := I.tuple (.inl (.inl hl))
    have hz2 : (tupleText (PyData.shownAll ds)).length ≤ sizeLine := by simpa only [PyData.shown] using hz
    obtain ⟨bs, hb, hk⟩ := DRs.rk I q rv (by simpa [PyData.showable] using hs) fun t ht => Nat.le_trans (tupleText_mem_le ht) hz2
    have hn := not_mem_of_deeper rd (by simp only [PyData.depth]; exact Nat.lt_succ_self _) hb
    simp only [PyData.shown] at hQ
    simp only [PyData.depth] at hu
    have ty : s.TypeIs (.ref a) "tuple" := ⟨o, ho, hc⟩
    exact call_repr_slot un ty F.slot_tuple_repr (call_tuple_reprK ho hc hd hn hk hg (fun b _ => Clear.nil b) (by show X.A.units + 1 + _ < cLine; omega) (fun _ _ e => e) (fun h' t k kp => ⟨_, _, rfl, hQ h' t k kp⟩) hz2)
  | dct hl e q =>
    rename_i kvs ps
    obtain ⟨_, hsm, vs, kv, oD, es, ep, hoD, hex, hdD, _, pr, _⟩ := dk_of I.hok hl
    have hz2 : (dictText (PyData.shownKv ps)).length ≤ sizeLine := by simpa only [PyData.shown] using hz
    obtain ⟨s1, s2⟩ := kv_sh (ps := ps) (by simpa [PyData.showable] using hs)
    obtain ⟨b2, hb2, k2⟩ := DRs.rk I q (pairs_vals kv pr) s2 fun t ht => by
      obtain ⟨p, hp, hl⟩ := PyData.shownKv_val_le ps t ht
      exact Nat.le_trans hl (Nat.le_trans (dictText_mem_le hp) hz2)
    have k1 := pairs_keysK (h := s.heap) kv pr (by rw [← e]; exact s1) fun t ht => by
      rw [← e] at ht
      obtain ⟨p, hp, hl⟩ := PyData.shownKv_key_le ps t ht
      exact Nat.le_trans hl (Nat.le_trans (dictText_mem_le hp) hz2)
    rw [← e] at k1
    have hb3 := hb2.mono (PyData.depthAll_vals_le ps)
    have hn := not_mem_of_deeper rd (by simp only [PyData.depth]; exact Nat.lt_succ_self _) hb3
    simp only [PyData.shown, PyData.shownKv_eq] at hQ
    simp only [PyData.depth] at hu
    have ty : s.TypeIs (.ref a) "dict" := ⟨oD, hoD, hex.1⟩
    exact call_repr_slot un ty F.slot_dict_repr (call_dict_reprK hoD hex.1 hdD hsm hn (ReprEntriesK.of_two es.toList _ _ (k1.more_le (fun b z => by cases z) (Nat.zero_le _)) (k2.more_le (fun _ z => z) (PyData.depthAll_vals_le ps))) hg (fun b _ => Clear.nil b) (by show X.A.units + 1 + _ < cLine; omega) (fun _ _ e => e) (fun h' t k kp => ⟨_, _, rfl, hQ h' t k kp⟩) (by rw [← PyData.shownKv_eq]; exact hz2))
/-- repr(x) of such data -/
def rReprD : List V → Hp → VK → Prop := fun xs H Q => ∃ (a : Addr) (d : PyData), xs = [.ref a] ∧ DR H (.ref a) d ∧ d.showable = true ∧ d.depth ≤ 60 ∧ d.shown.length ≤ sizeLine ∧ Q (.str d.shown) H
theorem call_repr_D {k : Nat} (hgd : X.A.guards = some []) (hr : Room k X.A) : CallR X (.builtin "repr") rReprD := by
  intro pins s σ H xs us Q I r h
  obtain ⟨a, d, rfl, hd, hs, hdp, hz, q⟩ := h
  obtain ⟨u, rfl, ru⟩ := r.one
  cases ru
  refine repr_DR I hd hs hz hgd (by have := hr.un; omega) fun h' v tk keep => ?_
  exact ⟨.str d.shown, H, I.kept (t' := tk) keep, ⟨_, rfl⟩, q⟩
/-- repr(x): x data, or None -/
def rReprE : List V → Hp → VK → Prop := fun xs H Q => rReprD xs H Q ∨ (xs = [.non] ∧ Q (.str "None") H)
theorem call_repr_E {k : Nat} (hgd : X.A.guards = some []) (hr : Room k X.A) : CallR X (.builtin "repr") rReprE := by
  intro pins s σ H xs us Q I r h
  rcases h with h | ⟨rfl, q⟩
  · exact call_repr_D hgd hr pins s σ H xs us Q I r h
  · exact call_repr_dataN hgd hr pins s σ H _ us Q I r (.inr ⟨rfl, q⟩)
end
/-! ### sizes -/
structure DK (k m : Nat) (d : PyData) : Prop where
  sh : d.showable = true
  dp : d.depth ≤ k
  ls : d.leavesShort 100 = true
  bk : d.bulk ≤ m
theorem DOk.dk {k m : Nat} {d : PyData} (h : DOk k m d) : DK k m d := ⟨h.sh, h.dp, h.ls, h.bk⟩
theorem DK.mono {k m k' m' : Nat} {d : PyData} (h : DK k m d) (h1 : k ≤ k') (h2 : m ≤ m') : DK k' m' d := ⟨h.sh, Nat.le_trans h.dp h1, h.ls, Nat.le_trans h.bk h2⟩
theorem dk_all {k m : Nat} : ∀ {ds : List PyData}, (∀ d ∈ ds, DK k m d) → PyData.showableAll ds = true ∧ PyData.depthAll ds ≤ k ∧ PyData.leavesShortAll 100 ds = true ∧ PyData.bulkAll ds ≤ (m + 1) * ds.length
  | [], _ => ⟨by simp [PyData.showableAll], by simp [PyData.depthAll], by simp [PyData.leavesShortAll], by simp [PyData.bulkAll]⟩
  | d :: r, h => by
    obtain ⟨a, c, e, f⟩ := dk_all fun x hx => h x (.tail _ hx)
    obtain ⟨a1, c1, e1, f1⟩ := h d (.head _)
    refine ⟨by simp [PyData.showableAll, a, a1], ?_, by simp [PyData.leavesShortAll, e, e1], ?_⟩
    · simp only [PyData.depthAll]
      omega
    · simp only [PyData.bulkAll, List.length_cons]
      rw [Nat.mul_add, Nat.mul_one]
      omega
theorem DK.list {k m n : Nat} {ds : List PyData} (h : ∀ d ∈ ds, DK k m d) (hn : ds.length ≤ n) : DK (k + 1) ((m + 1) * n) (.list ds) := by
  obtain ⟨a, c, e, f⟩ := dk_all h
  exact ⟨by rw [PyData.showable]; exact a, by rw [PyData.depth]; omega, by rw [PyData.leavesShort]; exact e, by rw [PyData.bulk]; exact Nat.le_trans f (Nat.mul_le_mul_left _ hn)⟩
theorem DK.tuple {k m n : Nat} {ds : List PyData} (h : ∀ d ∈ ds, DK k m d) (hn : ds.length ≤ n) : DK (k + 1) ((m + 1) * n) (.tuple ds) := by
  obtain ⟨a, c, e, f⟩ := dk_all h
  exact ⟨by rw [PyData.showable]; exact a, by rw [PyData.depth]; omega, by rw [PyData.leavesShort]; exact e, by rw [PyData.bulk]; exact Nat.le_trans f (Nat.mul_le_mul_left _ hn)⟩
theorem dk_kvs {k m : Nat} : ∀ {ps : List (PyData × PyData)}, (∀ p ∈ ps, DK k m p.1 ∧ DK k m p.2) → PyData.showableKv ps = true ∧ PyData.depthKv ps ≤ k ∧ PyData.leavesShortKv 100 ps = true ∧ PyData.bulkKv ps ≤ (2 * m + 2) * ps.length
  | [], _ => ⟨by simp [PyData.showableKv], by simp [PyData.depthKv], by simp [PyData.leavesShortKv], by simp [PyData.bulkKv]⟩
  | (x, y) :: r, h => by
    obtain ⟨a, c, e, f⟩ := dk_kvs fun x hx => h x (.tail _ hx)
    obtain ⟨⟨a1, c1, e1, f1⟩, ⟨a2, c2, e2, f2⟩⟩ := h (x, y) (.head _)
    simp only at a1 c1 e1 f1 a2 c2 e2 f2
    refine ⟨by simp [PyData.showableKv, a, a1, a2], ?_, by simp [PyData.leavesShortKv, e, e1, e2], ?_⟩
    · simp only [PyData.depthKv]
      omega
    · simp only [PyData.bulkKv, List.length_cons]
      rw [Nat.mul_add, Nat.mul_one]
      omega
theorem DK.dict {k m n : Nat} {ps : List (PyData × PyData)} (h : ∀ p ∈ ps, DK k m p.1 ∧ DK k m p.2) (hn : ps.length ≤ n) : DK (k + 1) ((2 * m + 2) * n) (.dict ps) := by
  obtain ⟨a, c, e, f⟩ := dk_kvs h
  exact ⟨by rw [PyData.showable]; exact a, by rw [PyData.depth]; omega, by rw [PyData.leavesShort]; exact e, by rw [PyData.bulk]; exact Nat.le_trans f (Nat.mul_le_mul_left _ hn)⟩
theorem DK.fits {k m : Nat} {d : PyData} (h : DK k m d) (hk : k ≤ 60) (hm : m ≤ 160000) : d.showable = true ∧ d.depth ≤ 60 ∧ d.shown.length ≤ sizeLine := by
  refine ⟨h.sh, Nat.le_trans h.dp hk, ?_⟩
  have e := PyData.shown_le_bulk 100 (by decide) d h.ls
  have e2 := h.bk
  have e3 : (100 + 2) * d.bulk ≤ 102 * 160000 := Nat.mul_le_mul_left _ (by omega)
  exact Nat.le_trans (show _ ≤ 102 * 160000 + 100 by omega) (by decide)
end Ls
namespace Ls
open PySem PySem.Spec PyProof.Rows L2
/-! ### x op y by an own method, the written part named -/
theorem own_binRK (K : PySem.W.Frag) {X : Cx} {W : WX} {k j : Nat} {C : Addr} {ps : List Str} {sp : Sp} {a b : Expr} {ta tb : TE} {pos : Pos} {op : Operator} (O : OwnMR X.prog X.w X.K X.mg X.base k C (PySem.dunder op.info.2) ps sp) (hr : Room j X.A) (hkj : k ≤ j) (tk : Takes X W) (hc : PySem.W.selfFirst K C = true) (hrr : PySem.W.findIn K (.ref C) (PySem.dunderR op.info.2) = some none)
    (ha : PE X a ta) (hb : PE X b tb) (h : X.K = K := by rfl) : PE X (.BinOp a op b pos) (tBinR K C op.info.2 sp W ta tb) := by
  subst h
  exact own_binR O hr hkj tk hc hrr ha hb
end Ls
namespace Ls
open PySem PySem.Spec PyProof.Rows L2 NdefX
/-! ### the texts of the own errors -/
abbrev s_BadName_init : Stmt := inClass (topS 3) 0
theorem tx_BadName : ErrTx s_BadName_init "BadName.__init__" [("name" : Str)] where
  nsc := nscope_by (by decide +kernel)
  hsup := rfl
  par := ⟨_, rfl, rfl⟩
  body := ⟨_, _, _, _, _, _, _, _, _, rfl, ⟨⟨⟨_, _, _, _, rfl⟩, by decide, by decide⟩, trivial⟩, fun f cc cda L => ⟨_, rfl⟩⟩
  bind := fun cc cda doc pm ct us hl => match us, hl with | [_, _], _ => rfl
abbrev s_NameInUse_init : Stmt := inClass (topS 4) 0
theorem tx_NameInUse : ErrTx s_NameInUse_init "NameInUse.__init__" [("name" : Str)] where
  nsc := nscope_by (by decide +kernel)
  hsup := rfl
  par := ⟨_, rfl, rfl⟩
  body := ⟨_, _, _, _, _, _, _, _, _, rfl, ⟨⟨⟨_, _, _, _, rfl⟩, by decide, by decide⟩, trivial⟩, fun f cc cda L => ⟨_, rfl⟩⟩
  bind := fun cc cda doc pm ct us hl => match us, hl with | [_, _], _ => rfl
abbrev s_UnknownKind_init : Stmt := inClass (topS 5) 0
theorem tx_UnknownKind : ErrTx s_UnknownKind_init "UnknownKind.__init__" [("kind" : Str)] where
  nsc := nscope_by (by decide +kernel)
  hsup := rfl
  par := ⟨_, rfl, rfl⟩
  body := ⟨_, _, _, _, _, _, _, _, _, rfl, ⟨⟨⟨_, _, _, _, rfl⟩, by decide, by decide⟩, trivial⟩, fun f cc cda L => ⟨_, rfl⟩⟩
  bind := fun cc cda doc pm ct us hl => match us, hl with | [_, _], _ => rfl
abbrev s_BadRule_init : Stmt := inClass (topS 6) 0
theorem tx_BadRule : ErrTx s_BadRule_init "BadRule.__init__" [("rule" : Str)] where
  nsc := nscope_by (by decide +kernel)
  hsup := rfl
  par := ⟨_, rfl, rfl⟩
  body := ⟨_, _, _, _, _, _, _, _, _, rfl, ⟨⟨⟨_, _, _, _, rfl⟩, by decide, by decide⟩, trivial⟩, fun f cc cda L => ⟨_, rfl⟩⟩
  bind := fun cc cda doc pm ct us hl => match us, hl with | [_, _], _ => rfl
abbrev s_UnknownCheck_init : Stmt := inClass (topS 7) 0
theorem tx_UnknownCheck : ErrTx s_UnknownCheck_init "UnknownCheck.__init__" [("check" : Str)] where
  nsc := nscope_by (by decide +kernel)
  hsup := rfl
  par := ⟨_, rfl, rfl⟩
  body := ⟨_, _, _, _, _, _, _, _, _, rfl, ⟨⟨⟨_, _, _, _, rfl⟩, by decide, by decide⟩, trivial⟩, fun f cc cda L => ⟨_, rfl⟩⟩
  bind := fun cc cda doc pm ct us hl => match us, hl with | [_, _], _ => rfl
abbrev s_UnlikeBooks_init : Stmt := inClass (topS 8) 0
theorem tx_UnlikeBooks : ErrTx s_UnlikeBooks_init "UnlikeBooks.__init__" [] where
  nsc := nscope_by (by decide +kernel)
  hsup := rfl
  par := ⟨_, rfl, rfl⟩
  body := ⟨_, _, _, _, _, _, _, _, _, rfl, trivial, fun f cc cda L => ⟨_, rfl⟩⟩
  bind := fun cc cda doc pm ct us hl => match us, hl with | [_], _ => rfl
end Ls
namespace Ls
open PySem PySem.Spec PyProof.Rows L2
/-! ### short steps -/
local macro_rules | `(tactic| walk_at "ls_ne") => `(tactic| first | assumption | exact Ne.symm (by assumption) | exact ne_of_none (by assumption) (by assumption) | exact Ne.symm (ne_of_none (by assumption) (by assumption)))
local macro_rules | `(tactic| walk_at "ls_hp") => `(tactic| first
  | with_reducible assumption
  | exact upd_same
  | exact Eq.trans (upd_ne (by walk_at "ls_ne")) (by walk_at "ls_hp"))
local macro_rules | `(tactic| walk_at "ls_st") => `(tactic| first
  | with_reducible assumption
  | exact Stm.upd (by walk_at "ls_st") (by first | walk_at "ls_ne" | exact (Stm.noneS (by assumption) (by assumption)).1) (by first | walk_at "ls_ne" | exact (Stm.noneS (by assumption) (by assumption)).2))
local macro_rules | `(tactic| walk_at "ls1") => `(tactic| first
  | refine ⟨_, rfl, ?_⟩
  | refine ⟨_, _, rfl, rfl, ?_⟩
  | refine ⟨_, _, _, _, rfl, rfl, .inl (.inl (by walk_at "ls_hp")), rfl, ?_⟩
  | refine ⟨_, _, _, _, rfl, rfl, (by walk_at "ls_hp"), rfl, ?_⟩
  | refine ⟨rfl, _, rfl, ?_⟩
  | refine ⟨.inl ⟨rfl, _, .inl (.inl (by walk_at "ls_hp"))⟩, ?_⟩)
local macro_rules | `(tactic| walk_at "ls") => `(tactic| repeat (walk_at "ls1"))

/-- what + and - are asked with, that is no check -/
inductive OddD (H : Hp) : V → PyData → Prop
  | str (z : Str) (h : okB 100 z = true) : OddD H (.str z) (.str z)
  | int (i : Int) (h : i.natAbs ≤ 100) : OddD H (.int i) (.int i)
  | non : OddD H .non .none
  | tup (t : Addr) (z : Str) (h : okB 100 z = true) (e : H t = some (.tup [.str z])) : OddD H (.ref t) (.tuple [.str z])
  | lst (t : Addr) (z : Str) (h : okB 100 z = true) (e : H t = some (.lst [.str z])) : OddD H (.ref t) (.list [.str z])
  | dct (t : Addr) (e : H t = some (.dK [])) : OddD H (.ref t) (.dict [])
theorem OddD.same {H H' : Hp} {v : V} {d : PyData} (h : OddD H v d) (s : Same H H') : OddD H' v d := by
  cases h with
  | str z h => exact .str z h
  | int i h => exact .int i h
  | non => exact .non
  | tup t z h e => exact .tup t z h (s _ _ e)
  | lst t z h e => exact .lst t z h (s _ _ e)
  | dct t e => exact .dct t (s _ _ e)
theorem OddD.dr {H : Hp} {v : V} {d : PyData} (h : OddD H v d) : DR H v d := by
  cases h with
  | str z h => exact .str z
  | int i h => exact .int i
  | non => exact .non
  | tup t z h e => exact .tup e (.cons (.str z) .nil)
  | lst t z h e => exact .lst e (.cons (.str z) .nil)
  | dct t e => exact .dct e rfl .nil
theorem OddD.dk {H : Hp} {v : V} {d : PyData} (h : OddD H v d) : DK 1 101 d := by
  have one : ∀ z : Str, okB 100 z = true → ∀ x ∈ [PyData.str z], DK 0 100 x := fun z h x hx => by
    rw [List.mem_singleton.mp hx]
    exact (DOk.str h).dk
  cases h with
  | str z h => exact (DOk.str h).dk.mono (by decide) (by decide)
  | int i h => exact (DOk.int (m := 0) (i := i) (by omega)).dk.mono (by decide) (by decide)
  | non => exact (DOk.none (m := 0)).dk.mono (by decide) (by decide)
  | tup t z h e => exact (DK.tuple (n := 1) (one z h) (Nat.le_refl _)).mono (by decide) (by decide)
  | lst t z h e => exact (DK.list (n := 1) (one z h) (Nat.le_refl _)).mono (by decide) (by decide)
  | dct t e => exact (DK.dict (k := 0) (m := 0) (n := 0) (fun p hp => by cases hp) (Nat.le_refl _)).mono (by decide) (by decide)
theorem OddD.thg {K : PySem.W.Frag} {H : Hp} {v : V} {d : PyData} (h : OddD H v d) : Thg K H v := by
  cases h with
  | str z h => exact .inl ⟨z, rfl, Nat.le_trans (okB_len h) (by decide)⟩
  | int i => exact .inr ⟨⟨_, .base (.int i), kit_ty (by decide +kernel)⟩, fun z e => nomatch e⟩
  | non => exact .inr ⟨⟨_, .base .non, kit_ty (by decide +kernel)⟩, fun z e => nomatch e⟩
  | tup t z h e => exact .inr ⟨⟨_, .base (.tup e), kit_ty (by decide +kernel)⟩, fun z e => nomatch e⟩
  | lst t z h e => exact .inr ⟨⟨_, .base (.lst e), kit_ty (by decide +kernel)⟩, fun z e => nomatch e⟩
  | dct t e => exact .inr ⟨⟨_, .base (.dK e), kit_ty (by decide +kernel)⟩, fun z e => nomatch e⟩
/-- the types of such things -/
def farTs : List String := ["str", "int", "NoneType", "tuple", "list", "dict"]
structure FarAll (K : PySem.W.Frag) (C : Addr) (nm : String) : Prop where
  all : ∀ T ∈ farTs, FarT K C nm T
theorem OddD.ty {K : PySem.W.Frag} {H : Hp} {v : V} {d : PyData} (h : OddD H v d) : ∃ T ∈ farTs, TyX K H v (.type T) := by
  unfold farTs
  cases h with
  | str z h => exact ⟨_, by simp, .base (.str z)⟩
  | int i => exact ⟨"int", by simp, .base (.int i)⟩
  | non => exact ⟨"NoneType", by simp, .base .non⟩
  | tup t z h e => exact ⟨"tuple", by simp, .base (.tup e)⟩
  | lst t z h e => exact ⟨"list", by simp, .base (.lst e)⟩
  | dct t e => exact ⟨"dict", by simp, .base (.dK e)⟩
section
variable {P : Program} {w : World} {K : PySem.W.Frag} {mg : Str → Option Value} {base : Heap}
abbrev s__law_joined : Stmt := topS 38
theorem sc__law_joined : FnScope ["_law_way", "_law_one", "_law_other", "_law_found", "e"] ["_law_way", "_law_one", "_law_other"] (defScope s__law_joined) := ⟨rfl, rfl, rfl, by decide +kernel, rfl, by decide +kernel, by decide +kernel⟩
abbrev N__law_joined : List Str := ["_law_way", "_law_one", "_law_other", "_law_found", "e"]
def spJoined (K : PySem.W.Frag) (C : Addr) : Sp := fun vs H Q _ => ∃ (o : Addr) (i : Int) (v : V) (A : Shp) (ck : List Str), vs = [.int i, .ref o, v] ∧ BookS C H o A ck ∧ A.Fin ∧ (∀ z ∈ ck, z ∈ menu A) ∧ ck.length ≤ 400 ∧
  ((∃ (u : Addr) (B : Shp) (dk : List Str), v = .ref u ∧ (i = 0 ∨ i = 1) ∧ BookS C H u B dk ∧ B.Fine ∧ (∀ z ∈ dk, z ∈ menu B) ∧ dk.length ≤ 400 ∧ A ≠ B ∧ ∀ (H' : Hp) (t : Addr), Same H H' → H' t = some (.tup [.str "unlike"]) → Q (.ref t) H') ∨
   (∃ d, (i = 2 ∨ i = 3) ∧ OddD H v d ∧ isWordV (menu A) v = false ∧ ∀ (H' : Hp) (t : Addr), Same H H' → H' t = some (.tup [.str "unknown", v]) → Q (.ref t) H'))
theorem ok_joined {C C_UnlikeBooks C_UnknownCheck : Addr} {f : Addr} {fd : FuncData} (F : Fun K "_law_joined" "_law_joined" s__law_joined f fd) (T : Bt mg) (TB : BkT K C) (CI : ClsI K C) (xE : exmB K [C_UnlikeBooks, C_UnknownCheck] = true) (fA : FarAll K C (Operator.info .Add).2) (fS : FarAll K C (Operator.info .Sub).2)
    (hsf : PySem.W.selfFirst K C = true) (hrr_or : PySem.W.findIn K (.ref C) (PySem.dunderR (Operator.info .BitOr).2) = some none) (hrr_and : PySem.W.findIn K (.ref C) (PySem.dunderR (Operator.info .BitAnd).2) = some none) (hrr_add : PySem.W.findIn K (.ref C) (PySem.dunderR (Operator.info .Add).2) = some none) (hrr_sub : PySem.W.findIn K (.ref C) (PySem.dunderR (Operator.info .Sub).2) = some none)
    (O_UnlikeBooks : OwnX P w K mg base "UnlikeBooks" [] (spI0 C_UnlikeBooks) C_UnlikeBooks) (O_UnknownCheck : OwnX P w K mg base "UnknownCheck" ["check"] (spI1 C_UnknownCheck "check") C_UnknownCheck)
    (O_Book_or : OwnMR P w K mg base 8 C "__or__" ["self", "other"] (spOr K C C_UnlikeBooks)) (O_Book_and : OwnMR P w K mg base 8 C "__and__" ["self", "other"] (spAnd K C C_UnlikeBooks))
    (O_Book_add : OwnMR P w K mg base 8 C "__add__" ["self", "check"] (spAdd K C C_UnknownCheck)) (O_Book_sub : OwnMR P w K mg base 8 C "__sub__" ["self", "check"] (spSub K C C_UnknownCheck)) :
    FnOk P w K mg base CX0 9 f fd ["_law_way", "_law_one", "_law_other"] (spJoined K C) := by
  refine F.ok sc__law_joined (fun vs H Q E h => ?_) (fun cdv A outer s H vs Q E hr h => ?_)
  · obtain ⟨o, i, v, A, ck, rfl, _⟩ := h
    rfl
  · obtain ⟨o, i, v, A', ck, rfl, hA, fnA, hck, lck, h⟩ := h
    have hu := hu_of hr
    refine ⟨_, (pss_cons (ps_try_mix rfl rfl sc__law_joined.nd L2.takes0 (fun W pn xe tk po => (pss_one (ps_if (pt_cmpR op_eq (pv 0) pe_int (nomark _)) (pss_one (ps_set (i := 3) sc__law_joined.nd rfl (Or.inl rfl) (own_binRK K (op := .BitOr) O_Book_or hr (by first | decide | omega) tk hsf hrr_or (pv 1) (pv 2)))) (pss_one (ps_if (pt_cmpR op_eq (pv 0) pe_int (nomark _)) (pss_one (ps_set (i := 3) sc__law_joined.nd rfl (Or.inl rfl) (own_binRK K (op := .BitAnd) O_Book_and hr (by first | decide | omega) tk hsf hrr_and (pv 1) (pv 2)))) (pss_one (ps_if (pt_cmpR op_eq (pv 0) pe_int (nomark _)) (pss_one (ps_set (i := 3) sc__law_joined.nd rfl (Or.inl rfl) (own_binRK K (op := .Add) O_Book_add hr (by first | decide | omega) tk hsf hrr_add (pv 1) (pv 2)))) (pss_one (ps_set (i := 3) sc__law_joined.nd rfl (Or.inl rfl) (own_binRK K (op := .Sub) O_Book_sub hr (by first | decide | omega) tk hsf hrr_sub (pv 1) (pv 2)))))))))))
        (.no (c := .ref C_UnlikeBooks) ⟨rfl, by decide, .inl O_UnlikeBooks.gl⟩ (fun a oe cls d pn hz hf => (pss_one (ps_set (i := 3) sc__law_joined.nd rfl (Or.inl rfl) (pe_tup (pa_cons pe_str pa_nil)))))
        (.as (q := ⟨.ref C_UnknownCheck, 4, _⟩) rfl rfl ⟨rfl, by decide, .inl O_UnknownCheck.gl⟩ (fun a oe cls d pn hz hf => (pss_one (ps_set (i := 3) sc__law_joined.nd rfl (Or.inl rfl) (pe_tup (pa_cons pe_str (pa_cons (pe_xf O_UnknownCheck.xf (O_UnknownCheck.nof _ (.head _)) hz hf (pv 4)) pa_nil))))))
        .nil)))
      (pss_one (ps_ret (pv 3)))), ?_⟩
    obtain ⟨dx, k, c, m, x, h1⟩ := hA.ins
    rcases h with ⟨u, B, dk, rfl, hi, hB, fB, hdk, ldk, hne, q⟩ | ⟨d, hi, hv, hw, q⟩
    · obtain ⟨dx', k', c', m', x', g1⟩ := hB.ins
      rcases hi with rfl | rfl
      · walk_at "ls"
        refine ⟨o, dx, _, rfl, h1, .inl (.base (.ins g1 TB.cl CI.ca CI.cn CI.ct CI.cm)), ?_⟩
        refine ⟨o, u, A', B, ck, dk, rfl, hA, hB, fnA, fB, hck, hdk, by omega, ?_⟩
        rw [decide_eq_false hne]
        intro H1 s1
        refine ⟨true, exm_self xE (.head _), fun _ a ha => ?_, fun z => nomatch z⟩
        refine ⟨(by show 1 ≤ sizeLine; decide), fun t ht => ?_⟩
        walk_at "ls"
        exact q _ t (s1.trans (same_new ht)) upd_same
      · walk_at "ls"
        refine ⟨o, dx, _, rfl, h1, .inl (.base (.ins g1 TB.cl CI.ca CI.cn CI.ct CI.cm)), ?_⟩
        refine ⟨o, u, A', B, ck, dk, rfl, hA, hB, fnA, fB, hck, hdk, by omega, ?_⟩
        rw [decide_eq_false hne]
        intro H1 s1
        refine ⟨true, exm_self xE (.head _), fun _ a ha => ?_, fun z => nomatch z⟩
        refine ⟨(by show 1 ≤ sizeLine; decide), fun t ht => ?_⟩
        walk_at "ls"
        exact q _ t (s1.trans (same_new ht)) upd_same
    · obtain ⟨T0, mT, hT⟩ := hv.ty (K := K)
      have hnd := (exmB_ok xE).2
      have hno : PySem.W.exmOne K (.ref C_UnknownCheck) (.ref C_UnlikeBooks) = some false := by
        have z := (exmB_ok xE).1 C_UnknownCheck (.tail _ (.head _)) C_UnlikeBooks (.head _)
        rw [decide_eq_false (fun e => (List.nodup_cons.mp hnd).1 (by rw [← e]; exact .head _))] at z
        exact z
      rcases hi with rfl | rfl
      · walk_at "ls"
        refine ⟨o, dx, _, rfl, h1, .inr ⟨_, hT, fA.all _ mT⟩, ?_⟩
        refine ⟨o, v, A', ck, rfl, hA, fnA, hck, by omega, hv.thg, ?_⟩
        rw [hw]
        intro H1 e1 s1 he1
        refine ⟨false, hno, (fun z => nomatch z), fun _ => ⟨true, exm_self xE (.tail _ (.head _)), fun _ a ha => ?_, fun z => nomatch z⟩⟩
        walk_at "ls"
        refine ⟨rfl, rfl, e1, _, v, rfl, upd_same, rfl, ?_⟩
        refine ⟨(by show 2 ≤ sizeLine; decide), fun t ht => ?_⟩
        walk_at "ls"
        exact q _ t ((s1.trans (same_new he1)).trans (same_new ht)) upd_same
      · walk_at "ls"
        refine ⟨o, dx, _, rfl, h1, .inr ⟨_, hT, fS.all _ mT⟩, ?_⟩
        refine ⟨o, v, A', ck, rfl, hA, fnA, hck, by omega, hv.thg, ?_⟩
        rw [hw]
        intro H1 e1 s1 he1
        refine ⟨false, hno, (fun z => nomatch z), fun _ => ⟨true, exm_self xE (.tail _ (.head _)), fun _ a ha => ?_, fun z => nomatch z⟩⟩
        walk_at "ls"
        refine ⟨rfl, rfl, e1, _, v, rfl, upd_same, rfl, ?_⟩
        refine ⟨(by show 2 ≤ sizeLine; decide), fun t ht => ?_⟩
        walk_at "ls"
        exact q _ t ((s1.trans (same_new he1)).trans (same_new ht)) upd_same
end
end Ls
namespace Ls
open PySem PySem.Spec PyProof.Rows L2
/-! ### comprehensions that make new tuples and leave all else -/
theorem same_at {H1 H : Hp} {D : Addr} {o : HO} (s : Same H1 H) (hD : H1 D = none) : Same H1 (upd H D o) := fun b u e => by
  rw [upd_ne (ne_of_none e hD)]
  exact s b u e
section
variable {J : It} {n : Nat} {G : Hp → Prop} {Y : Nat → Hp → V → Hp → Prop} {α : Type}
theorem lc_news (w : Walk J n G Y) (xs : List V) (l : List α) (f : α → Option (List V)) (hn : l.length = n) (hY : ∀ i H x H', i < n → Y i H x H' → H' = H ∧ xs[i]? = some x) {g : TG} {tt : TT} {te : TE} {vs : List Nat} {σ : L2.St} {H1 : Hp} {D : Addr} {Qd : Hp → Prop}
    (hz : n < sizeLine) (hD : H1 D = none) (hG : ∀ H', Same H1 H' → G H')
    (hs : ∀ i x a H2 (Yes : V → Hp → Prop) (No : Hp → Prop), i < n → xs[i]? = some x → l[i]? = some a → Same H1 H2 → (∀ y H4 zs, f a = some zs → Same H2 H4 → TupOf H4 y zs → Yes y H4) → (∀ H3, f a = none → Same H2 H3 → No H3) →
      g x (wipe σ vs) H2 fun σ2 H2' => wipe σ2 vs = wipe σ vs ∧ tt σ2 H2' fun b H3 => if b = true then te σ2 H3 Yes else No H3)
    (hd : ∀ H2 ys, Same H1 H2 → H2 D = some (.lst ys) → TupsAt H2 ys (l.filterMap f) → Qd H2) :
    ∃ W : Nat → Nat → Hp → Prop, (∃ m, W 0 m (upd H1 D (.lst []))) ∧ ∀ i m H, W i m H →
      (J.stop i H ∧ Qd H) ∨ (J.go i H ∧ ∃ Nx : Hp → Prop, (∀ H', Nx H' → ∃ m', m' < m ∧ W (i + 1) m' H') ∧ ∀ x H', J.yld i H x H' → g x (wipe σ vs) H' fun σ2 H2 => wipe σ2 vs = wipe σ vs ∧ tt σ2 H2 fun b H3 =>
        if b = true then te σ2 H3 fun y H4 => ∃ acc, H4 D = some (.lst acc) ∧ acc.length < sizeLine ∧ Nx (upd H4 D (.lst (acc ++ [y]))) else Nx H3) := by
  refine lc_it w (fun i H => ∃ acc, H D = some (.lst acc) ∧ TupsAt H acc ((l.take i).filterMap f) ∧ Same H1 H) ⟨[], upd_same, .nil, same_at (Same.refl H1) hD⟩ (fun i H _ ⟨_, _, _, s⟩ => hG H s) (fun i x H H' hi ⟨acc, h1, h2, s⟩ y => ?_) (fun H ⟨acc, h1, h2, s⟩ => ?_)
  · obtain ⟨rfl, hx⟩ := hY i H x H' hi y
    have hi2 : i < l.length := by omega
    have el := List.getElem?_eq_getElem hi2
    have lacc : acc.length ≤ i := by
      rw [h2.len]
      exact Nat.le_trans (List.length_filterMap_le _ _) (by rw [List.length_take]; exact Nat.min_le_left _ _)
    refine hs i x l[i] H' _ _ hi hx el s (fun y H4 zs hf s4 ht => ?_) (fun H3 hf s3 => ?_)
    · have h4 := s4 _ _ h1
      have k : TK H4 (upd H4 D (.lst (acc ++ [y]))) := .lst h4
      refine ⟨acc, h4, by omega, acc ++ [y], upd_same, ?_, same_at (s.trans s4) hD⟩
      rw [List.take_add_one, el, List.filterMap_append]
      simp only [Option.toList_some, List.filterMap_cons, hf, List.filterMap_nil]
      exact ((h2.keep (.same s4)).keep k).snoc (ht.keep k)
    · refine ⟨acc, s3 _ _ h1, ?_, s.trans s3⟩
      rw [List.take_add_one, el, List.filterMap_append]
      simp only [Option.toList_some, List.filterMap_cons, hf, List.filterMap_nil, List.append_nil]
      exact h2.keep (.same s3)
  · rw [← hn, List.take_length] at h2
    exact hd H acc s h1 h2
end
end Ls
namespace Ls
open PySem PySem.Spec PyProof.Rows L2
/-! ### short steps -/
local macro_rules | `(tactic| walk_at "ls_ne") => `(tactic| first | assumption | exact Ne.symm (by assumption) | exact ne_of_none (by assumption) (by assumption) | exact Ne.symm (ne_of_none (by assumption) (by assumption)))
local macro_rules | `(tactic| walk_at "ls_hp") => `(tactic| first
  | with_reducible assumption
  | exact upd_same
  | exact Eq.trans (upd_ne (by walk_at "ls_ne")) (by walk_at "ls_hp"))
local macro_rules | `(tactic| walk_at "ls_st") => `(tactic| first
  | with_reducible assumption
  | exact Stm.upd (by walk_at "ls_st") (by first | walk_at "ls_ne" | exact (Stm.noneS (by assumption) (by assumption)).1) (by first | walk_at "ls_ne" | exact (Stm.noneS (by assumption) (by assumption)).2))
local macro_rules | `(tactic| walk_at "ls1") => `(tactic| first
  | refine ⟨_, rfl, ?_⟩
  | refine ⟨_, _, rfl, rfl, ?_⟩
  | refine ⟨_, _, _, _, rfl, rfl, .inl (.inl (by walk_at "ls_hp")), rfl, ?_⟩
  | refine ⟨_, _, _, _, rfl, rfl, (by walk_at "ls_hp"), rfl, ?_⟩
  | refine ⟨rfl, _, rfl, ?_⟩
  | refine ⟨.inl ⟨rfl, _, .inl (.inl (by walk_at "ls_hp"))⟩, ?_⟩)
local macro_rules | `(tactic| walk_at "ls") => `(tactic| repeat (walk_at "ls1"))

/-! ### the law's record changed -/
def recK (x y z : V) : List (Key × V) := [(.inr "kinds", x), (.inr "columns", y), (.inr "checks", z)]
theorem put_kinds (x y z v : V) : putK (recK x y z) (.inr "kinds") v = recK v y z := by
  unfold putK recK
  have a := nkc
  have b := nkh
  simp [a, b, Ne.symm a, Ne.symm b]
theorem put_columns (x y z v : V) : putK (recK x y z) (.inr "columns") v = recK x v z := by
  unfold putK recK
  have a := nkc
  have b := nch
  simp [a, b, Ne.symm a, Ne.symm b]
theorem put_checks (x y z v : V) : putK (recK x y z) (.inr "checks") v = recK x y v := by
  unfold putK recK
  have a := nkh
  have b := nch
  simp [a, b, Ne.symm a, Ne.symm b]
theorem filterMap_some {α β : Type} (h : α → β) (l : List α) : l.filterMap (fun c => some (h c)) = l.map h := fm_some h l
theorem cut_drop1 (x : V) (xs : List V) : cutV (x :: xs) (some 1) none = xs := by
  have h := HT.sIx_nat
  unfold cutV
  rw [show (some (1 : Int)) = some ((1 : Nat) : Int) from rfl, HT.sIx_nat, HT.sIx_none]
  rw [Nat.min_eq_left (by rw [List.length_cons]; omega)]
  rw [List.drop_one, List.tail_cons, List.take_of_length_le (by rw [List.length_cons]; omega)]
theorem ShpAt.mk' {S L p ka ca ea : Addr} {H : Hp} {kx cx : List V} {B : Shp} {ck : List Str} {kvs : List (Key × V)} (hp : H p = some (.dK kvs)) (hk : H ka = some (.lst kx)) (hkt : TupsAt H kx (B.ks.map kindV)) (hc : H ca = some (.lst cx)) (hct : TupsAt H cx (B.cs.map colV)) (he : H ea = some (.lst (ck.map V.str)))
    (n1 : ka ≠ S ∧ ka ≠ L) (n2 : ca ≠ S ∧ ca ≠ L) (n3 : ea ≠ S ∧ ea ≠ L) : ShpAt S L (upd H p (.dK (recK (.ref ka) (.ref ca) (.ref ea)))) p B ck := by
  have k : TK H (upd H p (.dK (recK (.ref ka) (.ref ca) (.ref ea)))) := .dK hp
  have l : ∀ {a : Addr} {xs : List V}, H a = some (.lst xs) → (upd H p (.dK (recK (.ref ka) (.ref ca) (.ref ea)))) a = some (.lst xs) := fun {a xs} e => by
    rw [upd_ne (ne_of e hp fun z => nomatch z)]
    exact e
  exact ⟨ka, ca, ea, kx, cx, upd_same, l hk, hkt.keep k, l hc, hct.keep k, l he, n1, n2, n3⟩
theorem TupsAt.app {H : Hp} : ∀ {xs us : List V} {yss zss : List (List V)}, TupsAt H xs yss → TupsAt H us zss → TupsAt H (xs ++ us) (yss ++ zss)
  | _, _, _, _, .nil, h => h
  | _, _, _, _, .cons a r, h => .cons a (TupsAt.app r h)
theorem TupsAt.rev {H : Hp} : ∀ {xs : List V} {yss : List (List V)}, TupsAt H xs yss → TupsAt H xs.reverse yss.reverse
  | _, _, .nil => .nil
  | _, _, .cons a r => by
    rw [List.reverse_cons, List.reverse_cons]
    exact (TupsAt.rev r).snoc a
def flipK (k : Str × Bool) : Str × Bool := (k.1, !k.2)
theorem flip_names (l : List (Str × Bool)) : (l.map flipK).map (·.1) = l.map (·.1) := by rw [List.map_map]; rfl
theorem flip_ne {B : Shp} (hB : B.Ok) : B ≠ ⟨B.ks.map flipK, B.cs⟩ := fun e => by
  have h := congrArg Shp.ks e
  have nk := hB.nk
  cases hk : B.ks with
  | nil => rw [hk] at nk; exact absurd nk (by decide)
  | cons k r =>
    rw [hk] at h
    have := (List.cons.inj h).1
    have := congrArg Prod.snd this
    simp [flipK] at this
theorem flip_ok {B : Shp} (hB : B.Ok) : Shp.Ok ⟨B.ks.map flipK, B.cs⟩ := ⟨by show 0 < (B.ks.map flipK).length; rw [List.length_map]; exact hB.nk, by show (B.ks.map flipK).length ≤ 3; rw [List.length_map]; exact hB.nk3, hB.nc, by show ((B.ks.map flipK).map (·.1) ++ _).Nodup; rw [flip_names]; exact hB.nd,
  by show ∀ z ∈ (B.ks.map flipK).map (·.1) ++ _, Nm z; rw [flip_names]; exact hB.nm, by show ∀ c ∈ B.cs, c.2.1 ∈ (B.ks.map flipK).map (·.1); rw [flip_names]; exact hB.home, by show ∀ c ∈ B.cs, c.2.2.1 ∈ (B.ks.map flipK).map (·.1); rw [flip_names]; exact hB.goal, hB.nc0⟩
theorem turned_ne {B : Shp} (hB : B.Ok) (h2 : 1 < B.cs.length) : B ≠ ⟨B.ks, B.cs.reverse⟩ := fun e => by
  have h := congrArg Shp.cs e
  have nd := (List.nodup_append.mp hB.nd).2.1
  have e0 : B.cs[0]? = B.cs.reverse[0]? := congrArg (fun l => l[0]?) h
  rw [List.getElem?_reverse (by omega)] at e0
  have e1 := congrArg (Option.map (·.1)) e0
  rw [← List.getElem?_map, ← List.getElem?_map] at e1
  have hl : (B.cs.map (·.1)).length = B.cs.length := List.length_map ..
  rw [List.getElem?_eq_getElem (by omega), List.getElem?_eq_getElem (by omega)] at e1
  have := (List.getElem_inj nd).mp (Option.some.inj e1)
  omega
theorem turned_ok {B : Shp} (hB : B.Ok) : Shp.Ok ⟨B.ks, B.cs.reverse⟩ := by
  have nd := List.nodup_append.mp hB.nd
  refine ⟨hB.nk, hB.nk3, by show B.cs.reverse.length ≤ 8; rw [List.length_reverse]; exact hB.nc, ?_, fun z hz => hB.nm z ?_, fun c hc => hB.home c (List.mem_reverse.mp hc), fun c hc => hB.goal c (List.mem_reverse.mp hc), by show 0 < B.cs.reverse.length; rw [List.length_reverse]; exact hB.nc0⟩
  · show (B.ks.map (·.1) ++ B.cs.reverse.map (·.1)).Nodup
    rw [List.map_reverse]
    exact List.nodup_append.mpr ⟨nd.1, (List.reverse_perm _).nodup_iff.mpr nd.2.1, fun x hx y hy => nd.2.2 x hx y (List.mem_reverse.mp hy)⟩
  · have hz' : z ∈ B.ks.map (·.1) ++ B.cs.reverse.map (·.1) := hz
    rw [List.map_reverse] at hz'
    rcases List.mem_append.mp hz' with h | h
    · exact List.mem_append_left _ h
    · exact List.mem_append_right _ (List.mem_reverse.mp h)
theorem ruled_ne {B : Shp} {c : Str × Str × Str × Bool} {r : List (Str × Str × Str × Bool)} (e : B.cs = c :: r) : B ≠ ⟨B.ks, (c.1, c.2.1, c.2.2.1, !c.2.2.2) :: r⟩ := fun h => by
  have h := congrArg Shp.cs h
  rw [e] at h
  have := (List.cons.inj h).1
  have := congrArg (fun c : Str × Str × Str × Bool => c.2.2.2) this
  simp at this
theorem ruled_ok {B : Shp} (hB : B.Ok) {c : Str × Str × Str × Bool} {r : List (Str × Str × Str × Bool)} (e : B.cs = c :: r) : Shp.Ok ⟨B.ks, (c.1, c.2.1, c.2.2.1, !c.2.2.2) :: r⟩ := by
  have nd := hB.nd
  have nm := hB.nm
  have ho := hB.home
  have go := hB.goal
  have nc := hB.nc
  rw [e] at nd nm ho go nc
  refine ⟨hB.nk, hB.nk3, nc, nd, nm, fun d hd => ?_, fun d hd => ?_, Nat.succ_pos _⟩
  · rcases List.mem_cons.mp hd with rfl | hd
    · exact ho c (.head _)
    · exact ho d (.tail _ hd)
  · rcases List.mem_cons.mp hd with rfl | hd
    · exact go c (.head _)
    · exact go d (.tail _ hd)
theorem more_ne {B : Shp} {z : Str} : B ≠ ⟨B.ks ++ [(z, true)], B.cs⟩ := fun h => by
  have h := congrArg (fun B : Shp => B.ks.length) h
  simp at h
theorem more_ok {B : Shp} (hB : B.Ok) (h2 : B.ks.length ≤ 2) {z : Str} (hz : Nm z) (hn : z ∉ B.ks.map (·.1) ++ B.cs.map (·.1)) : Shp.Ok ⟨B.ks ++ [(z, true)], B.cs⟩ := by
  have em : (B.ks ++ [(z, true)]).map (·.1) = B.ks.map (·.1) ++ [z] := by rw [List.map_append]; rfl
  have nd := List.nodup_append.mp hB.nd
  refine ⟨by show 0 < (B.ks ++ [(z, true)]).length; rw [List.length_append]; exact Nat.succ_pos _, by show (B.ks ++ [(z, true)]).length ≤ 3; rw [List.length_append]; show B.ks.length + 1 ≤ 3; omega, hB.nc, ?_, ?_, ?_, ?_, hB.nc0⟩
  · show ((B.ks ++ [(z, true)]).map (·.1) ++ B.cs.map (·.1)).Nodup
    rw [em]
    refine List.nodup_append.mpr ⟨nodup_snoc nd.1 fun h => hn (List.mem_append_left _ h), nd.2.1, fun x hx y hy e => ?_⟩
    rcases List.mem_append.mp hx with h | h
    · exact nd.2.2 x h y hy e
    · rw [List.mem_singleton.mp h] at e
      exact hn (List.mem_append_right _ (e ▸ hy))
  · show ∀ x ∈ (B.ks ++ [(z, true)]).map (·.1) ++ B.cs.map (·.1), Nm x
    rw [em]
    intro x hx
    rcases List.mem_append.mp hx with h | h
    · rcases List.mem_append.mp h with h | h
      · exact hB.nm x (List.mem_append_left _ h)
      · rw [List.mem_singleton.mp h]
        exact hz
    · exact hB.nm x (List.mem_append_right _ h)
  · show ∀ c ∈ B.cs, c.2.1 ∈ (B.ks ++ [(z, true)]).map (·.1)
    rw [em]
    exact fun c hc => List.mem_append_left _ (hB.home c hc)
  · show ∀ c ∈ B.cs, c.2.2.1 ∈ (B.ks ++ [(z, true)]).map (·.1)
    rw [em]
    exact fun c hc => List.mem_append_left _ (hB.goal c hc)
section
variable {P : Program} {w : World} {K : PySem.W.Frag} {mg : Str → Option Value} {base : Heap}
abbrev s__law_varied : Stmt := topS 40
theorem sc__law_varied : FnScope ["_law_stream", "_law_b", "_law_other", "_law_way", "_law_name", "_law_home", "_law_goal", "_law_rule", "_law_taken", "_law_check", "_law_is_open", "_law_kind", "_law_column"] ["_law_stream", "_law_b"] (defScope s__law_varied) := ⟨rfl, rfl, rfl, by decide +kernel, rfl, by decide +kernel, by decide +kernel⟩
abbrev N__law_varied : List Str := ["_law_stream", "_law_b", "_law_other", "_law_way", "_law_name", "_law_home", "_law_goal", "_law_rule", "_law_taken", "_law_check", "_law_is_open", "_law_kind", "_law_column"]
def spVaried : Sp := fun vs H Q _ => ∃ (S L b : Addr) (n : Nat) (B : Shp) (ck : List Str), vs = [.ref S, .ref b] ∧ Stm H S L n ∧ n ≤ 9900000 ∧ ShpAt S L H b B ck ∧ B.Ok ∧ B.ks.length ≤ 2 ∧ (∀ z ∈ ck, z ∈ menu B) ∧ ck.length ≤ 60 ∧
  ∀ (H' : Hp) (p : Addr) (B' : Shp) (ck' : List Str), ShpAt S L H' p B' ck' → B'.Ok → B ≠ B' → (∀ z ∈ ck', z ∈ menu B') → ck'.length ≤ 60 → Stm H' S L (n + 80) → Old S L H H' → Q (.ref p) H'
theorem ok_varied {f : Addr} {fd : FuncData} (F : Fun K "_law_varied" "_law_varied" s__law_varied f fd) (T : Bt mg) (O__law_draw : Own P w K mg base CX0 1 "_law_draw" ["_law_stream", "_law_many"] spDraw) (O__law_fresh : Own P w K mg base CX0 2 "_law_fresh" ["_law_stream", "_law_taken"] spFresh)
    (O__law_all_checks : Own P w K mg base CX0 1 "_law_all_checks" ["_law_b"] spAll) : FnOk P w K mg base CX0 3 f fd ["_law_stream", "_law_b"] spVaried := by
  refine F.ok sc__law_varied (fun vs H Q E h => ?_) (fun cdv A outer s H vs Q E hr h => ?_)
  · obtain ⟨S, L, b, n, B, ck, rfl, _⟩ := h
    rfl
  · obtain ⟨S, L, b, n, B, ck, rfl, st, hn, hs, hB, hk2', hck, lck, q⟩ := h
    have hu := hu_of hr
    refine ⟨_, (pss_cons (ps_asg (pe_tup (pa_cons (pe_callTy call_dictD (by rfl) T.m_dict (by decide +kernel) (pa_cons (pv 1) pa_nil)) (pa_cons (own_call O__law_draw hr (by first | decide | omega) (pa_cons (pv 0) (pa_cons pe_int pa_nil))) pa_nil))) (pg_tup rfl (pgs_cons (pg_name (i := 2) sc__law_varied.nd rfl (Or.inr rfl)) (pgs_cons (pg_name (i := 3) sc__law_varied.nd rfl (Or.inl rfl)) pgs_nil))))
      (C8.pss_cut (ps_if (pt_cmpR op_eq (pv 3) pe_int (nomark _)) (pss_one (ps_dput hu (pv 2) pe_str (pe_lc (own := [("_law_name", 4), ("_law_is_open", 10)]) (g := gTup K 2 (gCons (gName 4) (gCons (gName 10) gNil))) (by rfl) sc__law_varied.nd (pi_list (pe_dget hu (pv 1) pe_str (fun _ _ => rfl))) (blkOk_by (own := [("_law_name", 4), ("_law_is_open", 10)]) (N := N__law_varied) (sc := defScope s__law_varied) (by decide +kernel)) (fun _ _ _ _ _ => (pg_tup rfl (pgs_cons (pg_name (i := 4) sc__law_varied.nd rfl (Or.inl rfl) (Or.inr rfl)) (pgs_cons (pg_name (i := 10) sc__law_varied.nd rfl (Or.inl rfl) (Or.inr rfl)) pgs_nil)))) (fun _ _ _ _ _ => pts_nil) (fun _ _ _ _ _ => (pe_tup (pa_cons (pv 4) (pa_cons (pe_not (pv 10)) pa_nil))))) rfl)) (pss_one (ps_if (PW.pt (pw_and (pt_cmpR op_eq (pv 3) pe_int (nomark _)) (pw_and1 (pt_cmpR op_gt (pe_callB (len_seq K) (by rfl) T.m_len (by decide +kernel) (pa_cons (pe_dget hu (pv 1) pe_str (fun _ _ => rfl)) pa_nil)) pe_int (nomark _))))) (pss_one (ps_dput hu (pv 2) pe_str (pe_revL (pe_dget hu (pv 1) pe_str (fun _ _ => rfl))) rfl)) (pss_one (ps_if (PW.pt (pw_and (pt_cmpR op_eq (pv 3) pe_int (nomark _)) (pw_and1 (pt_cmpR (neE K hr) (pe_dget hu (pv 1) pe_str (fun _ _ => rfl)) (pe_lst pa_nil) (nomark _))))) (pss_cons (ps_asg (pe_ix (ixL K) (pe_dget hu (pv 1) pe_str (fun _ _ => rfl)) pe_int (fun _ _ => rfl)) (pg_tup rfl (pgs_cons (pg_name (i := 4) sc__law_varied.nd rfl (Or.inl rfl)) (pgs_cons (pg_name (i := 5) sc__law_varied.nd rfl (Or.inl rfl)) (pgs_cons (pg_name (i := 6) sc__law_varied.nd rfl (Or.inl rfl)) (pgs_cons (pg_name (i := 7) sc__law_varied.nd rfl (Or.inl rfl)) pgs_nil))))))
      (pss_one (ps_dput hu (pv 2) pe_str (pe_op op_cat (pe_lst (pa_cons (pe_tup (pa_cons (pv 4) (pa_cons (pv 5) (pa_cons (pv 6) (pa_cons (pe_ifExp (pt_cmpR op_eq (pv 7) pe_str (nomark _)) pe_str pe_str) pa_nil))))) pa_nil)) (pe_slice sl_list (pe_dget hu (pv 1) pe_str (fun _ _ => rfl)) (po_some pe_int) po_none)) rfl))) (pss_cons (ps_set (i := 8) sc__law_varied.nd rfl (Or.inl rfl) (pe_op op_cat (pe_lc (own := [("_law_kind", 11)]) (g := gName 11) (by rfl) sc__law_varied.nd (pi_list (pe_dget hu (pv 1) pe_str (fun _ _ => rfl))) (blkOk_by (own := [("_law_kind", 11)]) (N := N__law_varied) (sc := defScope s__law_varied) (by decide +kernel)) (fun _ _ _ _ _ => (pg_name (i := 11) sc__law_varied.nd rfl (Or.inl rfl) (Or.inr rfl))) (fun _ _ _ _ _ => pts_nil) (fun _ _ _ _ _ => (pe_ix (ixT K) (pv 11) pe_int (fun _ _ => rfl)))) (pe_lc (own := [("_law_column", 12)]) (g := gName 12) (by rfl) sc__law_varied.nd (pi_list (pe_dget hu (pv 1) pe_str (fun _ _ => rfl))) (blkOk_by (own := [("_law_column", 12)]) (N := N__law_varied) (sc := defScope s__law_varied) (by decide +kernel)) (fun _ _ _ _ _ => (pg_name (i := 12) sc__law_varied.nd rfl (Or.inl rfl) (Or.inr rfl))) (fun _ _ _ _ _ => pts_nil) (fun _ _ _ _ _ => (pe_ix (ixT K) (pv 12) pe_int (fun _ _ => rfl))))))
      (pss_one (ps_dput hu (pv 2) pe_str (pe_op op_cat (pe_dget hu (pv 1) pe_str (fun _ _ => rfl)) (pe_lst (pa_cons (pe_tup (pa_cons (own_call O__law_fresh hr (by first | decide | omega) (pa_cons (pv 0) (pa_cons (pv 8) pa_nil))) (pa_cons pe_bl pa_nil))) pa_nil))) rfl))))))))
      (pss_cons (ps_dput hu (pv 2) pe_str (pe_lc (own := [("_law_check", 9)]) (g := gName 9) (by rfl) sc__law_varied.nd (pi_list (pe_dget hu (pv 1) pe_str (fun _ _ => rfl))) (blkOk_by (own := [("_law_check", 9)]) (N := N__law_varied) (sc := defScope s__law_varied) (by decide +kernel)) (fun _ _ _ _ _ => (pg_name (i := 9) sc__law_varied.nd rfl (Or.inl rfl) (Or.inr rfl))) (fun _ _ _ _ _ => (pts_one (PW.pt (pw_and (pt_cmpR (in_seq K) (pv 9) (own_call O__law_all_checks hr (by first | decide | omega) (pa_cons (pv 2) pa_nil)) (by rfl)) (pw_and1 (pt_cmpR op_gt (own_call O__law_draw hr (by first | decide | omega) (pa_cons (pv 0) (pa_cons pe_int pa_nil))) pe_int (nomark _))))))) (fun _ _ _ _ _ => (pv 9))) rfl)
      (pss_one (ps_ret (pv 2)))))), ?_⟩
    obtain ⟨ka, ca, ea, kx, cx, hb, hk, hkt, hc, hct, he, n1, n2, n3⟩ := id hs
    walk_at "ls"
    refine ⟨b, _, rfl, .inl hb, fun p hp => ?_⟩
    have np := st.noneS hp
    have s1 := same_new (o := .dK (recK (.ref ka) (.ref ca) (.ref ea))) hp
    walk_at "ls"
    refine ⟨S, L, n, 4, rfl, st.keep s1, by omega, by decide, by decide, fun H1 r r0 r1 st1 od1 => ?_⟩
    have od1' : Old S L H H1 := (Old.same s1).trans od1
    have h1p : H1 p = some (.dK (recK (.ref ka) (.ref ca) (.ref ea))) := od1 _ _ np.1 np.2 upd_same
    refine ⟨(by show 2 ≤ sizeLine; decide), fun t ht => ?_⟩
    have s2 := same_new (o := .tup [.ref p, .int r]) ht
    refine ⟨t, _, rfl, .inl (.inl upd_same), rfl, _, _, rfl, _, _, rfl, rfl, ?_⟩
    have od2 : Old S L H (upd H1 t (.tup [.ref p, .int r])) := od1'.trans (.same s2)
    have st2 := st1.keep s2
    have h2p := s2 _ _ h1p

    generalize upd H1 t (.tup [.ref p, .int r]) = H2 at *
    clear s2 ht h1p st1 od1 od1'
    have hs2 : ShpAt S L H2 b B ck := hs.old st od2
    refine ⟨fun σ' H' => ∃ (B' : Shp) (v4 v5 v6 v7 v8 v9 v10 v11 v12 : Option V), σ' = [some (.ref S), some (.ref b), some (.ref p), some (.int r), v4, v5, v6, v7, v8, v9, v10, v11, v12] ∧ ShpAt S L H' p B' ck ∧ B'.Ok ∧ B ≠ B' ∧ Stm H' S L (n + 15) ∧ Old S L H H', ?_, ?_⟩
    · walk_at "ls"
      have g : ∀ {a : Addr} {o : HO}, a ≠ S ∧ a ≠ L → H a = some o → H2 a = some o := fun {a o} n e => od2 a o n.1 n.2 e
      have nb := (show b ≠ S ∧ b ≠ L by
        obtain ⟨ns, d, c, k, h1, h2, _⟩ := st
        exact ⟨ne_of hb h1 (fun z => nomatch z), ne_of hb h2 (fun z => nomatch z)⟩)
      have hb2 := g nb hb
      have hk2 := g n1 hk
      have hc2 := g n2 hc
      have he2 := g n3 he
      have kt2 := hkt.keep (TK.old st od2)
      have ct2 := hct.keep (TK.old st od2)
      have lkx : kx.length = B.ks.length := by rw [hkt.len, List.length_map]
      have lcx : cx.length = B.cs.length := by rw [hct.len, List.length_map]
      have nk3 := hB.nk3
      have nc8 := hB.nc
      have odp : ∀ {H3 : Hp} {o : HO}, Same H2 H3 → Old S L H (upd H3 p o) := fun {H3 o} s => (od2.trans (.same s)).set hp
      have stp : ∀ {H3 : Hp} {o : HO}, Same H2 H3 → Stm (upd H3 p o) S L (n + 15) := fun {H3 o} s => ((st2.keep s).upd np.1 np.2).mono (by omega)
      refine ite2 (fun e => ?_) (fun e => ?_)
      · walk_at "ls"
        refine ⟨b, _, rfl, dg_kinds hb2, ka, rfl, ⟨_, .inl (.inl hk2)⟩, fun D hD => ?_⟩
        have nD := st2.noneS hD
        refine lc_news (walk_list (xs := kx)) kx B.ks (fun k => some [V.str k.1, V.bl (!k.2)]) lkx.symm (fun i H x H' hi hy => hy) (Nat.lt_of_le_of_lt (show kx.length ≤ 3 by omega) (by decide)) hD (fun H' s => .inl (.inl (s _ _ hk2))) (fun i x k H3 Yes No hi hx hk0 s yes no => ?_) (fun H3 ys s h3 ht3 => ?_)
        · obtain ⟨ys, hys, t, rfl, ht⟩ := TupsAt.get (kt2.keep (.same s)) hx
          obtain ⟨k', hk', rfl⟩ := map_get hys
          rw [hk0] at hk'
          cases hk'
          refine ⟨t, _, rfl, .inl (.inl ht), rfl, _, _, rfl, _, _, rfl, rfl, ?_⟩
          refine ⟨rfl, ?_⟩
          walk_at "ls"
          refine ⟨(by show 2 ≤ sizeLine; decide), fun t2 ht2 => ?_⟩
          exact yes _ _ _ rfl (same_new ht2) ⟨t2, rfl, upd_same⟩
        · rw [filterMap_some (fun k : Str × Bool => [V.str k.1, V.bl (!k.2)])] at ht3
          walk_at "ls"
          refine ⟨p, _, rfl, DPut.k (k := .inr "kinds") (s _ _ h2p) (by show 3 < sizeLine; decide), ?_⟩
          rw [put_kinds]
          have ht4 : TupsAt H3 ys ((B.ks.map flipK).map kindV) := by rw [List.map_map]; exact ht3
          exact ⟨⟨B.ks.map flipK, B.cs⟩, _, _, _, _, _, _, _, _, _, rfl, ShpAt.mk' (s _ _ h2p) h3 ht4 (s _ _ hc2) (ct2.keep (.same s)) (s _ _ he2) nD n2 n3, flip_ok hB, flip_ne hB, stp s, odp s⟩
      · refine and2 (decide (V.int r = V.int 1)) (decide (1 < (B.cs.length : Int))) (fun Q' q' => ?_) (fun _ Q' q' => ?_) ?_
        · walk_at "ls"
          exact q'
        · walk_at "ls"
          refine ⟨b, _, rfl, dg_columns hb2, ?_⟩
          refine ⟨ca, _, rfl, .inl (.inl (.inl hc2)), ?_⟩
          refine ⟨_, _, rfl, rfl, ?_⟩
          rw [lcx]
          exact ⟨_, rfl, q'⟩
        refine ite2 (fun e1 => ?_) (fun e1 => ?_)
        · have e2 : 1 < B.cs.length := by
            have := of_decide_eq_true (Bool.and_eq_true_iff.mp e1).2
            omega
          walk_at "ls"
          refine ⟨b, _, rfl, dg_columns hb2, ?_⟩
          refine ⟨ca, cx, rfl, .inl (.inl hc2), fun D hD => ?_⟩
          have nD := st2.noneS hD
          have s := same_new (o := .lst cx.reverse) hD
          walk_at "ls"
          refine ⟨p, _, rfl, DPut.k (k := .inr "columns") (s _ _ h2p) (by show 3 < sizeLine; decide), ?_⟩
          rw [put_columns]
          have ct3 : TupsAt (upd H2 D (.lst cx.reverse)) cx.reverse (B.cs.reverse.map colV) := by rw [List.map_reverse]; exact (ct2.keep (.same s)).rev
          exact ⟨⟨B.ks, B.cs.reverse⟩, _, _, _, _, _, _, _, _, _, rfl, ShpAt.mk' (s _ _ h2p) (s _ _ hk2) (kt2.keep (.same s)) upd_same ct3 (s _ _ he2) n1 nD n3, turned_ok hB, turned_ne hB e2, stp s, odp s⟩
        · have more : ∀ {H2' : Hp}, Same H2 H2' → True := fun _ => trivial
          obtain ⟨c, cr, ecs⟩ : ∃ c cr, B.cs = c :: cr := by
            have := hB.nc0
            cases e : B.cs with
            | nil => rw [e] at this; exact absurd this (by decide)
            | cons c r => exact ⟨c, r, rfl⟩
          walk_at "ls"
          refine ite2 (fun e2 => ?_) (fun e2 => ?_)
          · walk_at "ls"
            refine ⟨b, _, rfl, dg_columns hb2, ?_⟩
            refine ⟨Nat.zero_le _, fun q0 hq0 => ?_⟩
            have s0 := same_new (o := .lst []) hq0
            refine ⟨ca, q0, cx, rfl, rfl, .inl (.inl (s0 _ _ hc2)), .inl (.inl upd_same), ?_⟩
            obtain ⟨x0, xr, rfl⟩ : ∃ x0 xr, cx = x0 :: xr := by
              cases cx with
              | nil => rw [ecs] at lcx; cases lcx
              | cons x r => exact ⟨x, r, rfl⟩
            refine ⟨_, rfl, iteT ?_⟩
            walk_at "ls"
            refine ⟨b, _, rfl, dg_columns (s0 _ _ hb2), ?_⟩
            rw [ecs] at ct2
            obtain ⟨x0', hx0⟩ : ∃ v, atI (x0 :: xr) 0 = some v ∧ v = x0 := ⟨x0, atI_nat (j := 0) rfl, rfl⟩
            obtain ⟨hx0, rfl⟩ := hx0
            refine ⟨_, _, _, x0', rfl, rfl, .inl (.inl (s0 _ _ hc2)), hx0, ?_⟩
            cases ct2 with
            | cons h0 hr2 =>
            have hr2 : TupsAt H2 xr (cr.map colV) := hr2
            obtain ⟨t0, rfl, ht0⟩ := h0
            refine ⟨t0, _, rfl, .inl (.inl (s0 _ _ ht0)), rfl, _, _, rfl, _, _, rfl, _, _, rfl, _, _, rfl, rfl, ?_⟩
            refine ⟨_, rfl, _, rfl, _, rfl, ?_⟩
            refine tIf_to (V.str (ruleS (!c.2.2.2))) (fun Q' q' => ?_) ?_
            · walk_at "ls"
              cases hr : c.2.2.2 with
              | true =>
                rw [hr] at q'
                exact iteT q'
              | false =>
                rw [hr] at q'
                exact iteF q'
            refine ⟨(by show 4 ≤ sizeLine; decide), fun t2 ht2 => ?_⟩
            have s1 := s0.trans (same_new (o := .tup [V.str c.1, V.str c.2.1, V.str c.2.2.1, V.str (ruleS (!c.2.2.2))]) ht2)
            refine ⟨(by show 1 ≤ sizeLine; decide), fun l1 hl1 => ?_⟩
            have s2 := s1.trans (same_new (o := .lst [.ref t2]) hl1)
            walk_at "ls"
            refine ⟨b, _, rfl, dg_columns (s2 _ _ hb2), ?_⟩
            refine ⟨1, rfl, ca, _, rfl, .inl (.inl (s2 _ _ hc2)), fun sk hsk => ?_⟩
            rw [show cutV (V.ref t0 :: xr) (some 1) none = xr from cut_drop1 _ _] at *
            have s3 := s2.trans (same_new (o := .lst xr) hsk)
            have hl1' : (upd (upd (upd (upd H2 q0 (.lst [])) t2 (.tup [V.str c.1, V.str c.2.1, V.str c.2.2.1, V.str (ruleS (!c.2.2.2))])) l1 (.lst [.ref t2])) sk (.lst xr)) l1 = some (.lst [.ref t2]) := by
              rw [upd_ne (ne_of_none upd_same hsk)]
              exact upd_same
            refine ⟨l1, sk, _, _, rfl, rfl, hl1', upd_same, Nat.le_trans (show _ ≤ 1000 by show 1 + xr.length ≤ 1000; rw [show xr.length = cr.length by rw [hr2.len, List.length_map]]; rw [ecs] at nc8; rw [List.length_cons] at nc8; omega) (by decide), fun D hD => ?_⟩
            have ht2' : TupOf (upd (upd (upd (upd H2 q0 (.lst [])) t2 (.tup [V.str c.1, V.str c.2.1, V.str c.2.2.1, V.str (ruleS (!c.2.2.2))])) l1 (.lst [.ref t2])) sk (.lst xr)) (.ref t2) (colV (c.1, c.2.1, c.2.2.1, !c.2.2.2)) := by
              refine ⟨t2, rfl, ?_⟩
              have := ((same_new hl1).trans (same_new (o := .lst xr) hsk)) _ _ (upd_same (a := t2))
              exact this
            have nD := (st2.keep s3).noneS hD
            have s4 := s3.trans (same_new (o := .lst ([.ref t2] ++ xr)) hD)
            have ct3 : TupsAt (upd (upd (upd (upd (upd H2 q0 (.lst [])) t2 (.tup [V.str c.1, V.str c.2.1, V.str c.2.2.1, V.str (ruleS (!c.2.2.2))])) l1 (.lst [.ref t2])) sk (.lst xr)) D (.lst ([.ref t2] ++ xr))) ([.ref t2] ++ xr) (((c.1, c.2.1, c.2.2.1, !c.2.2.2) :: cr).map colV) := .cons (ht2'.keep (.new hD)) (hr2.keep (.same s4))
            walk_at "ls"
            refine ⟨p, _, rfl, DPut.k (k := .inr "columns") (s4 _ _ h2p) (by show 3 < sizeLine; decide), ?_⟩
            rw [put_columns]
            exact ⟨⟨B.ks, (c.1, c.2.1, c.2.2.1, !c.2.2.2) :: cr⟩, _, _, _, _, _, _, _, _, _, rfl, ShpAt.mk' (s4 _ _ h2p) (s4 _ _ hk2) (kt2.keep (.same s4)) upd_same ct3 (s4 _ _ he2) n1 nD n3, ruled_ok hB ecs, ruled_ne ecs, stp s4, odp s4⟩
          · walk_at "ls"
            refine ⟨b, _, rfl, dg_kinds hb2, ka, rfl, ⟨_, .inl (.inl hk2)⟩, fun D hD => ?_⟩
            refine lc_rows (walk_list (xs := kx)) kx B.ks (fun k => some (V.str k.1)) lkx.symm (fun i H x H' hi hy => hy) (Nat.lt_of_le_of_lt (show kx.length ≤ 3 by omega) (by decide)) (fun acc => .inl (.inl (by rw [upd_ne (ne_of_none hk2 hD)]; exact hk2))) (fun i x k hi hx hk0 => ?_) ?_
            · obtain ⟨ys, hys, t, rfl, ht⟩ := TupsAt.get kt2 hx
              obtain ⟨k', hk', rfl⟩ := map_get hys
              rw [hk0] at hk'
              cases hk'
              refine ⟨rfl, ?_⟩
              walk_at "ls"
              exact lr_yes hk0 hi (Nat.lt_of_le_of_lt (show kx.length ≤ 3 by omega) (by decide)) rfl
            have s0 := same_new (o := .lst (B.ks.filterMap fun k => some (V.str k.1))) hD
            walk_at "ls"
            refine ⟨b, _, rfl, dg_columns (s0 _ _ hb2), ca, rfl, ⟨_, .inl (.inl (s0 _ _ hc2))⟩, fun D2 hD2 => ?_⟩
            refine lc_rows (walk_list (xs := cx)) cx B.cs (fun k => some (V.str k.1)) lcx.symm (fun i H x H' hi hy => hy) (Nat.lt_of_le_of_lt (show cx.length ≤ 8 by omega) (by decide)) (fun acc => .inl (.inl (by rw [upd_ne (ne_of_none (s0 _ _ hc2) hD2)]; exact s0 _ _ hc2))) (fun i x k hi hx hk0 => ?_) ?_
            · obtain ⟨ys, hys, t, rfl, ht⟩ := TupsAt.get (ct2.keep (.same s0)) hx
              obtain ⟨k', hk', rfl⟩ := map_get hys
              rw [hk0] at hk'
              cases hk'
              refine ⟨rfl, ?_⟩
              walk_at "ls"
              exact lr_yes hk0 hi (Nat.lt_of_le_of_lt (show cx.length ≤ 8 by omega) (by decide)) rfl
            rw [filterMap_some (fun k : Str × Bool => V.str k.1), filterMap_some (fun k : Str × Str × Str × Bool => V.str k.1)] at *
            have hD1 := (same_new (o := .lst (B.cs.map fun k => V.str k.1)) hD2) _ _ (upd_same (H := H2) (a := D) (o := .lst (B.ks.map fun k => V.str k.1)))
            refine ⟨D, D2, _, _, rfl, rfl, hD1, upd_same, Nat.le_trans (show _ ≤ 1000 by rw [List.length_map, List.length_map]; omega) (by decide), fun p3 hp3 => ?_⟩
            have s2 := (s0.trans (same_new (o := .lst (B.cs.map fun k => V.str k.1)) hD2)).trans (same_new (o := .lst ((B.ks.map fun k => V.str k.1) ++ B.cs.map fun k => V.str k.1)) hp3)
            have n3' := (st2.keep (s0.trans (same_new (o := .lst (B.cs.map fun k => V.str k.1)) hD2))).noneS hp3
            have et : (B.ks.map fun k => V.str k.1) ++ (B.cs.map fun k => V.str k.1) = (B.ks.map (·.1) ++ B.cs.map (·.1)).map V.str := by
              rw [List.map_append, List.map_map, List.map_map]
              rfl
            rw [et] at s2 ⊢
            have h3 : (upd (upd (upd H2 D (.lst (B.ks.map fun k => V.str k.1))) D2 (.lst (B.cs.map fun k => V.str k.1))) p3 (.lst ((B.ks.map (·.1) ++ B.cs.map (·.1)).map V.str))) p3 = some (.lst ((B.ks.map (·.1) ++ B.cs.map (·.1)).map V.str)) := upd_same
            generalize upd (upd (upd H2 D (.lst (B.ks.map fun k => V.str k.1))) D2 (.lst (B.cs.map fun k => V.str k.1))) p3 (.lst ((B.ks.map (·.1) ++ B.cs.map (·.1)).map V.str)) = H3 at *
            walk_at "ls"
            refine ⟨b, _, rfl, dg_kinds (s2 _ _ hb2), ?_⟩
            walk_at "ls"
            refine ⟨S, L, p3, n + 1, B.ks.map (·.1) ++ B.cs.map (·.1), rfl, st2.keep s2, by omega, h3, n3'.1, n3'.2, by rw [List.length_append, List.length_map, List.length_map]; omega, fun H4 z hz hzn st4 od4 => ?_⟩
            refine ⟨(by show 2 ≤ sizeLine; decide), fun t5 ht5 => ⟨(by show 1 ≤ sizeLine; decide), fun l5 hl5 => ?_⟩⟩
            have g4 : ∀ {a : Addr} {o : HO}, a ≠ S ∧ a ≠ L → H2 a = some o → H4 a = some o := fun {a o} n e => od4 a o n.1 n.2 (s2 _ _ e)
            have s5 := (same_new (o := .tup [V.str z, V.bl true]) ht5).trans (same_new (o := .lst [V.ref t5]) hl5)
            have h5k := s5 _ _ (g4 n1 hk2)
            refine ⟨ka, l5, _, _, rfl, rfl, h5k, upd_same, Nat.le_trans (show _ ≤ 1000 by show kx.length + 1 ≤ 1000; omega) (by decide), fun D6 hD6 => ?_⟩
            have nD6 := (st4.keep s5).noneS hD6
            have s6 := same_new (o := .lst (kx ++ [V.ref t5])) hD6
            have s56 := s5.trans s6
            have odA : Old S L H2 H4 := (Old.same s2).trans od4
            have kt6 : TupsAt (upd (upd (upd H4 t5 (.tup [V.str z, V.bl true])) l5 (.lst [V.ref t5])) D6 (.lst (kx ++ [V.ref t5]))) (kx ++ [V.ref t5]) ((B.ks ++ [(z, true)]).map kindV) := by
              rw [List.map_append]
              exact ((kt2.keep (TK.old st2 odA)).keep (.same s56)).snoc ⟨t5, rfl, s6 _ _ ((same_new (o := .lst [V.ref t5]) hl5) _ _ upd_same)⟩
            walk_at "ls"
            refine ⟨p, _, rfl, DPut.k (k := .inr "kinds") (s56 _ _ (g4 np h2p)) (by show 3 < sizeLine; decide), ?_⟩
            rw [put_kinds]
            refine ⟨⟨B.ks ++ [(z, true)], B.cs⟩, _, _, _, _, _, _, _, _, _, rfl, ShpAt.mk' (s56 _ _ (g4 np h2p)) upd_same kt6 (s56 _ _ (g4 n2 hc2)) ((ct2.keep (TK.old st2 odA)).keep (.same s56)) (s56 _ _ (g4 n3 he2)) nD6 n2 n3, more_ok hB hk2' hz hzn, more_ne, ((st4.keep s56).mono (by omega)).upd np.1 np.2, ?_⟩
            exact ((od2.trans odA).trans (.same s56)).set hp
    · rintro σ' H3 ⟨B', v4, v5, v6, v7, v8, v9, v10, v11, v12, rfl, hs3, hB', hne, st3, od3⟩
      have hsb := hs.old st od3
      obtain ⟨_, _, ea3, _, _, hb3, _, _, _, _, he3, _, _, n33⟩ := id hsb
      walk_at "ls"
      refine ⟨b, _, rfl, dg_checks hb3, ea3, rfl, ⟨_, .inl (.inl he3)⟩, fun D hD => ?_⟩
      have nD := st3.noneS hD
      refine lc_it (walk_list (xs := ck.map V.str)) (fun i H4 => ∃ cs : List Str, cs.length ≤ i ∧ (∀ z ∈ cs, z ∈ menu B') ∧ H4 D = some (.lst (cs.map V.str)) ∧ Stm H4 S L (n + 15 + i) ∧ Old S L H3 H4)
        ⟨[], Nat.le_refl _, (fun _ h => by cases h), upd_same, st3.upd nD.1 nD.2, .new hD⟩ (fun i H4 _ ⟨_, _, _, _, _, od⟩ => .inl (.inl (od _ _ n33.1 n33.2 he3))) ?_ ?_
      · rintro i x Hz H4 hi ⟨cs, lcs, hcs, h4D, st4, od4⟩ ⟨rfl, hx⟩
        obtain ⟨z, hz, rfl⟩ := map_get hx
        rw [List.length_map] at hi
        refine ⟨rfl, ?_⟩
        walk_at "ls"
        refine ⟨S, L, p, B', ck, rfl, hs3.old st3 od4, hB', fun H5 pm hpm h5 s5 => ?_⟩
        refine ⟨pm, _, rfl, .inl (.inl (.inl h5)), rfl, all_flat _, ?_⟩
        rw [in_strs]
        refine ⟨_, rfl, ?_⟩
        refine ite2 (fun e => ?_) (fun e => ?_)
        · walk_at "ls"
          refine ⟨S, L, _, 4, rfl, st4.keep s5, by omega, by decide, by decide, fun H6 u u0 u1 st6 od6 => ?_⟩
          have od46 : Old S L H4 H6 := (Old.same s5).trans od6
          have h6D := od46 _ _ nD.1 nD.2 h4D
          walk_at "ls"
          refine ite2 (fun e6 => ?_) (fun e6 => ?_)
          · walk_at "ls"
            exact ⟨_, h6D, by rw [List.length_map]; exact small1000 (by omega), cs ++ [z], by rw [List.length_append]; show cs.length + 1 ≤ i + 1; omega, all_snoc hcs (of_decide_eq_true e), by rw [upd_same, List.map_append]; rfl, (st6.mono (by omega)).upd nD.1 nD.2, (od4.trans od46).set hD⟩
          · exact ⟨cs, by omega, hcs, h6D, st6.mono (by omega), od4.trans od46⟩
        · exact ⟨cs, by omega, hcs, s5 _ _ h4D, (st4.keep s5).mono (by omega), od4.trans (.same s5)⟩
      · rintro H4 ⟨cs, lcs, hcs, h4D, st4, od4⟩
        obtain ⟨kb, cb, eb, kxb, cxb, g1, g2, g3, g4, g5, g6, g7, g8, g9⟩ := hs3.old st3 od4
        walk_at "ls"
        refine ⟨p, _, rfl, DPut.k (k := .inr "checks") (kvs := recK (.ref kb) (.ref cb) (.ref eb)) g1 (by show 3 < sizeLine; decide), ?_⟩
        rw [put_checks]
        rw [List.length_map] at lcs st4
        walk_at "ls"
        exact q _ p B' cs (ShpAt.mk' g1 g2 g3 g4 g5 h4D g7 g8 nD) hB' hne hcs (by omega) ((st4.mono (by omega)).upd np.1 np.2) ((od3.trans od4).set hp)
end
end Ls
namespace Ls
open PySem PySem.Spec PyProof.Rows L2
/-! ### short steps -/
local macro_rules | `(tactic| walk_at "ls_ne") => `(tactic| first | assumption | exact Ne.symm (by assumption) | exact ne_of_none (by assumption) (by assumption) | exact Ne.symm (ne_of_none (by assumption) (by assumption)))
local macro_rules | `(tactic| walk_at "ls_hp") => `(tactic| first
  | with_reducible assumption
  | exact upd_same
  | exact Eq.trans (upd_ne (by walk_at "ls_ne")) (by walk_at "ls_hp"))
local macro_rules | `(tactic| walk_at "ls_st") => `(tactic| first
  | with_reducible assumption
  | exact Stm.upd (by walk_at "ls_st") (by first | walk_at "ls_ne" | exact (Stm.noneS (by assumption) (by assumption)).1) (by first | walk_at "ls_ne" | exact (Stm.noneS (by assumption) (by assumption)).2))
local macro_rules | `(tactic| walk_at "ls1") => `(tactic| first
  | refine ⟨_, rfl, ?_⟩
  | refine ⟨_, _, rfl, rfl, ?_⟩
  | refine ⟨_, _, _, _, rfl, rfl, .inl (.inl (by walk_at "ls_hp")), rfl, ?_⟩
  | refine ⟨_, _, _, _, rfl, rfl, (by walk_at "ls_hp"), rfl, ?_⟩
  | refine ⟨rfl, _, rfl, ?_⟩
  | refine ⟨.inl ⟨rfl, _, .inl (.inl (by walk_at "ls_hp"))⟩, ?_⟩)
local macro_rules | `(tactic| walk_at "ls") => `(tactic| repeat (walk_at "ls1"))

/-! ### what is asked of right operands, as one test -/
def farB (K : PySem.W.Frag) (C : Addr) (nm T : String) : Bool := (PySem.W.findIn K (.type T) (PySem.dunder nm)).isSome && ((PySem.W.findIn K (.type T) (PySem.dunderR nm)).isSome && decide (PySem.W.subIn K (.type T) (.ref C) = some false))
theorem farB_ok {K : PySem.W.Frag} {C : Addr} {nm T : String} (h : farB K C nm T = true) : FarT K C nm T := by
  unfold farB at h
  obtain ⟨h1, h⟩ := Bool.and_eq_true_iff.mp h
  obtain ⟨h2, h3⟩ := Bool.and_eq_true_iff.mp h
  obtain ⟨a, ha⟩ := Option.isSome_iff_exists.mp h1
  obtain ⟨r, hr⟩ := Option.isSome_iff_exists.mp h2
  exact ⟨⟨a, r, ha, hr⟩, of_decide_eq_true h3⟩
def farAllB (K : PySem.W.Frag) (C : Addr) (nm : String) : Bool := farTs.all (farB K C nm)
theorem farAll_ok {K : PySem.W.Frag} {C : Addr} {nm : String} (h : farAllB K C nm = true) : FarAll K C nm := ⟨fun T hT => farB_ok (List.all_eq_true.mp h T hT)⟩
section
variable {P : Program} {w : World} {K : PySem.W.Frag} {mg : Str → Option Value} {base : Heap}
/-! ### _law_same of data with dicts in it -/
def spSameD : Sp := fun vs H Q _ => ∃ (a b : Addr) (d : PyData), vs = [.ref a, .ref b] ∧ DR H (.ref a) d ∧ DR H (.ref b) d ∧ (d.showable = true ∧ d.depth ≤ 60 ∧ d.shown.length ≤ sizeLine) ∧ Q (.bl true) H
theorem ok_sameD {f : Addr} {fd : FuncData} (F : Fun K "_law_same" "_law_same" s__law_same f fd) (T : Bt mg) : FnG P w K mg base CX0 1 f fd ["_law_found", "_law_due"] spSameD := by
  refine fun_okG F sc__law_same (fun vs H Q E h => ?_) (fun cdv A outer s H vs Q E hgd hr h => ?_)
  · obtain ⟨a, b, d, rfl, _⟩ := h
    rfl
  · obtain ⟨a, b, d, rfl, ha, hb, ⟨h1, h3, h4⟩, q⟩ := h
    have hu := hu_of hr
    refine ⟨_, (pss_one (ps_ret (pe_cmpR op_eq (pe_callB (call_repr_E hgd hr) (by rfl) T.m_repr (by decide +kernel) (pa_cons (pv 0) pa_nil)) (pe_callB (call_repr_E hgd hr) (by rfl) T.m_repr (by decide +kernel) (pa_cons (pv 1) pa_nil)) (nomark _)))), ?_⟩
    walk_at "ls"
    refine .inl ⟨a, d, rfl, ha, h1, h3, h4, ?_⟩
    walk_at "ls"
    refine .inl ⟨b, d, rfl, hb, h1, h3, h4, ?_⟩
    refine ⟨rfl, ?_⟩
    rw [decide_eq_true rfl]
    exact q
/-! ### _law_made -/
abbrev s__law_made : Stmt := topS 37
theorem sc__law_made : FnScope ["_law_b"] ["_law_b"] (defScope s__law_made) := ⟨rfl, rfl, rfl, by decide +kernel, rfl, by decide +kernel, by decide +kernel⟩
abbrev N__law_made : List Str := ["_law_b"]
def spMadeL (C : Addr) : Sp := fun vs H Q _ => ∃ (S L b : Addr) (B : Shp) (ck : List Str), vs = [.ref b] ∧ ShpAt S L H b B ck ∧ B.Ok ∧ (∀ z ∈ ck, z ∈ menu B) ∧ ck.length ≤ 1000 ∧
  ∀ (H' : Hp) (o : Addr), BookS C H' o B ((menu B).filter fun z => decide (z ∈ ck)) → Same H H' → Q (.ref o) H'
theorem ok_madeL {C : Addr} {A : ErrA} {f : Addr} {fd : FuncData} (F : Fun K "_law_made" "_law_made" s__law_made f fd) (O_Book : OwnCR P w K mg base 5 C "Book" ["self", "kinds", "columns", "checks"] (spInit K C A)) : FnOk P w K mg base CX0 7 f fd ["_law_b"] (spMadeL C) := by
  refine F.ok sc__law_made (fun vs H Q E h => ?_) (fun cdv A' outer s H vs Q E hr h => ?_)
  · obtain ⟨S, L, b, B, ck, rfl, _⟩ := h
    rfl
  · obtain ⟨S, L, b, B, ck, rfl, ⟨ka, ca, ea, kx, cx, hb, hk, hkt, hc, hct, he, n1, n2, n3⟩, hB, hck, lck, q⟩ := h
    have hu := hu_of hr
    refine ⟨_, (pss_one (ps_ret (own_makeR O_Book hr (by first | decide | omega) L2.takes0 (pa_cons (pe_dget hu (pv 0) pe_str (fun _ _ => rfl)) (pa_cons (pe_dget hu (pv 0) pe_str (fun _ _ => rfl)) (pa_cons (pe_dget hu (pv 0) pe_str (fun _ _ => rfl)) pa_nil)))))), ?_⟩
    walk_at "ls"
    refine ⟨b, _, rfl, dg_kinds hb, ?_⟩
    walk_at "ls"
    refine ⟨b, _, rfl, dg_columns hb, ?_⟩
    walk_at "ls"
    refine ⟨b, _, rfl, dg_checks hb, ?_⟩
    intro o dx ho hdx hne
    have s0 : Same H (upd (upd H dx (.own o)) o (.ins C dx [])) := (same_new hdx).trans (same_new (by rw [upd_ne (Ne.symm hne)]; exact ho))
    have nk3 := hB.nk3
    have nc8 := hB.nc
    have berr : bookErr (ksU B) (csU B) (ck.map V.str) = none := book_fine hB.fine hck
    refine ⟨o, dx, ka, ca, ea, kx, cx, ck.map V.str, ksU B, csU B, rfl, upd_same, .inl (.inl (.inl (s0 _ _ hk))), ?_, .inl (.inl (.inl (s0 _ _ hc))), ?_, .inl (.inl (.inl (s0 _ _ he))), fun k hk => ?_, fun c hc => ?_, fun v hv => ?_, ?_, ?_, ?_, ?_⟩
    · rw [ksU_rows]
      exact RowsAt.same (tups_rows hkt) s0
    · rw [csU_rows]
      exact RowsAt.same (tups_rows hct) s0
    · obtain ⟨k0, hk0, rfl⟩ := List.mem_map.mp hk
      exact .inl ⟨_, rfl, Nat.le_trans (hB.nm _ (List.mem_append_left _ (List.mem_map_of_mem hk0))).1.2.1 (by decide)⟩
    · obtain ⟨c0, hc0, rfl⟩ := List.mem_map.mp hc
      refine ⟨.inl ⟨_, rfl, Nat.le_trans (hB.nm _ (List.mem_append_right _ (List.mem_map_of_mem hc0))).1.2.1 (by decide)⟩, .inl ⟨_, rfl, Nat.le_trans (hB.nm _ (List.mem_append_left _ (hB.home c0 hc0))).1.2.1 (by decide)⟩, .inl ⟨_, rfl, Nat.le_trans (hB.nm _ (List.mem_append_left _ (hB.goal c0 hc0))).1.2.1 (by decide)⟩, .inl ⟨_, rfl, ?_⟩⟩
      cases c0.2.2.2 <;> decide
    · obtain ⟨z, hz, rfl⟩ := List.mem_map.mp hv
      exact .inl ⟨_, rfl, Nat.le_trans (okB_len (menu_ok hB z (hck z hz))) (by decide)⟩
    · unfold ksU
      rw [List.length_map]
      omega
    · unfold csU
      rw [List.length_map]
      omega
    · rw [List.length_map]
      exact lck
    · rw [berr]
      intro H2 hb2 bt
      rw [menuU_is, show (ck.map V.str).map strOf = ck by rw [List.map_map]; exact List.map_id ck] at hb2
      exact ⟨rfl, q H2 o hb2 fun b u e => bt b u (ne_of_none e ho) (s0 _ _ e)⟩
end
end Ls
namespace Ls
open PySem PySem.Spec PyProof.Rows L2
/-! ### lists of their own -/
def LstOf (H : Hp) (v : V) (ys : List V) : Prop := ∃ t, v = .ref t ∧ H t = some (.lst ys)
def LstsAt (H : Hp) (xs : List V) (yss : List (List V)) : Prop := Paired (LstOf H) xs yss
theorem LstsAt.len {H : Hp} {xs : List V} {yss : List (List V)} (h : LstsAt H xs yss) : xs.length = yss.length := Paired.length h
theorem LstsAt.get {H : Hp} : ∀ {xs : List V} {yss : List (List V)} {i : Nat} {x : V}, LstsAt H xs yss → xs[i]? = some x → ∃ ys, yss[i]? = some ys ∧ LstOf H x ys
  | _ :: _, _ :: _, 0, x, .cons h r, e => ⟨_, rfl, by cases e; exact h⟩
  | _ :: xs, _ :: yss, i + 1, x, .cons h r, e => LstsAt.get (xs := xs) (yss := yss) (i := i) r e
theorem LstsAt.mem {H : Hp} {xs : List V} {yss : List (List V)} {x : V} (h : LstsAt H xs yss) (hx : x ∈ xs) : ∃ t ys, x = .ref t ∧ H t = some (.lst ys) ∧ ys ∈ yss := by
  obtain ⟨i, hi⟩ := List.mem_iff_getElem?.mp hx
  obtain ⟨ys, hy, t, e, ht⟩ := h.get hi
  exact ⟨t, ys, e, ht, List.mem_of_getElem? hy⟩
/-- what holds of all that stand there -/
theorem LstsAt.imp {H H' : Hp} : ∀ {xs : List V} {yss : List (List V)}, LstsAt H xs yss → (∀ t ys, V.ref t ∈ xs → H t = some (.lst ys) → H' t = some (.lst ys)) → LstsAt H' xs yss
  | _, _, .nil, _ => .nil
  | _, _, .cons ⟨t, e, ht⟩ r, k => .cons ⟨t, e, k t _ (by rw [← e]; exact .head _) ht⟩ (LstsAt.imp r fun t ys hm h => k t ys (.tail _ hm) h)
theorem LstsAt.same {H H' : Hp} {xs : List V} {yss : List (List V)} (h : LstsAt H xs yss) (s : Same H H') : LstsAt H' xs yss := h.imp fun _ _ _ e => s _ _ e
theorem LstsAt.snoc {H : Hp} : ∀ {xs : List V} {yss : List (List V)} {v : V} {ys : List V}, LstsAt H xs yss → LstOf H v ys → LstsAt H (xs ++ [v]) (yss ++ [ys])
  | _, _, _, _, .nil, r => .cons r .nil
  | _, _, _, _, .cons a t, r => .cons a (LstsAt.snoc t r)
theorem LstsAt.set {H : Hp} : ∀ {xs : List V} {yss : List (List V)} {i : Nat} {t : Addr} {zs : List V}, LstsAt H xs yss → xs.Nodup → xs[i]? = some (.ref t) → LstsAt (upd H t (.lst zs)) xs (yss.set i zs)
  | _ :: xs, _ :: yss, 0, t, zs, .cons h r, nd, e => by
    have ht := Option.some.inj e
    refine .cons ⟨t, ht, upd_same⟩ (LstsAt.imp r fun t2 ys hm h2 => ?_)
    rw [upd_ne (fun z => (List.nodup_cons.mp nd).1 (by rw [show _ = V.ref t from ht, ← z]; exact hm))]
    exact h2
  | x :: xs, _ :: yss, i + 1, t, zs, .cons ⟨t2, e2, h2⟩ r, nd, e => by
    have nd' := List.nodup_cons.mp nd
    have e' : xs[i]? = some (.ref t) := e
    refine .cons ⟨t2, e2, ?_⟩ (LstsAt.set r nd'.2 e')
    rw [upd_ne (fun z => nd'.1 (by rw [e2, z]; exact List.mem_of_getElem? e'))]
    exact h2
theorem LstsAt.rows {K : PySem.W.Frag} {H : Hp} : ∀ {xs : List V} {yss : List (List V)}, LstsAt H xs yss → RowsAt K H xs yss
  | _, _, .nil => .nil
  | _, _, .cons ⟨t, e, h⟩ r => .cons ⟨t, e, .inl (.inl (.inl h))⟩ (LstsAt.rows r)
theorem fst_lst {H : Hp} {v y : V} {ys : List V} (h : LstOf H v (y :: ys)) : ∃ t, v = .ref t ∧ H t = some (.lst (y :: ys)) := h
def fstL (H : Hp) : V → Option V
  | .ref t => match H t with
    | some (.lst (y :: _)) => some y
    | _ => none
  | _ => none
theorem fstL_of {H : Hp} {v y : V} {ys : List V} (h : LstOf H v (y :: ys)) : fstL H v = some y := by
  obtain ⟨t, rfl, h⟩ := h
  show (match H t with | some (.lst (y :: _)) => some y | _ => none) = some y
  rw [h]
theorem fstL_all {α : Type} {H : Hp} (g : α → V) (r : α → List V) : ∀ {xs : List V} {l : List α}, LstsAt H xs (l.map fun a => g a :: r a) → xs.filterMap (fstL H) = l.map g
  | [], [], _ => rfl
  | x :: xs, a :: l, h => by
    cases h with
    | cons h1 h2 =>
      rw [List.filterMap_cons, fstL_of h1, fstL_all g r h2]
      rfl
  | [], a :: l, h => by cases h
  | x :: xs, [], h => by cases h
/-! ### a sublist by its members -/
theorem sub_filter {α : Type} [DecidableEq α] {l m : List α} (h : l.Sublist m) (nd : m.Nodup) : m.filter (fun z => decide (z ∈ l)) = l := by
  induction h with
  | slnil => rfl
  | @cons l m a h ih =>
    obtain ⟨n1, n2⟩ := List.nodup_cons.mp nd
    rw [List.filter_cons, decide_eq_false (fun z => n1 (h.subset z)), if_neg (by decide), ih n2]
  | @cons_cons l m a h ih =>
    obtain ⟨n1, n2⟩ := List.nodup_cons.mp nd
    rw [List.filter_cons, decide_eq_true (List.mem_cons_self ..), if_pos rfl]
    congr 1
    refine Eq.trans (List.filter_congr fun z hz => ?_) (ih n2)
    have hne : z ≠ a := fun e => n1 (e ▸ hz)
    simp [hne]
/-! ### the menu has nothing twice -/
theorem cps_inj {a b : Str} (h : a.cps.toList = b.cps.toList) : a = b := by
  obtain ⟨⟨x⟩⟩ := a
  obtain ⟨⟨y⟩⟩ := b
  simp only at h
  rw [h]
theorem cut_32 : ∀ {a b n m : List Nat}, 32 ∉ a → 32 ∉ b → a ++ 32 :: n = b ++ 32 :: m → a = b ∧ n = m
  | [], [], n, m, _, _, h => ⟨rfl, by simpa using h⟩
  | [], b :: r, n, m, _, hb, h => by
    have : 32 = b := by simpa using (List.cons.inj h).1
    exact absurd (this ▸ List.mem_cons_self ..) hb
  | a :: r, [], n, m, ha, _, h => by
    have : a = 32 := by simpa using (List.cons.inj h).1
    exact absurd (this ▸ List.mem_cons_self ..) ha
  | a :: r, b :: r2, n, m, ha, hb, h => by
    obtain ⟨h1, h2⟩ := List.cons.inj h
    obtain ⟨e1, e2⟩ := cut_32 (fun z => ha (.tail _ z)) (fun z => hb (.tail _ z)) h2
    exact ⟨by rw [h1, e1], e2⟩
theorem form_cps (a n : Str) : (a ++ " " ++ n).cps.toList = a.cps.toList ++ 32 :: n.cps.toList := by
  have e : ∀ a b : Str, (a ++ b).cps.toList = a.cps.toList ++ b.cps.toList := fun a b => by rw [PySem.Str.cps_append, Array.toList_append]
  rw [e, e, show (" " : Str).cps.toList = [32] by decide +kernel]
  simp
theorem form_inj {a b n m : Str} (ha : 32 ∉ a.cps.toList) (hb : 32 ∉ b.cps.toList) (h : a ++ " " ++ n = b ++ " " ++ m) : a = b ∧ n = m := by
  have e := congrArg (fun z : Str => z.cps.toList) h
  simp only [form_cps] at e
  obtain ⟨e1, e2⟩ := cut_32 ha hb e
  exact ⟨cps_inj e1, cps_inj e2⟩
theorem with_nodup {ws : List Str} (h : ws.Nodup) (h32 : ∀ a ∈ ws, 32 ∉ a.cps.toList) (n : Str) : (withN ws n).Nodup := by
  unfold withN
  refine List.pairwise_map.mpr (List.Pairwise.imp_of_mem (fun {a b} ha hb hne e => hne (form_inj (h32 a ha) (h32 b hb) e).1) h)
theorem flat_nodup {α : Type} {ws : List Str} (h : ws.Nodup) (h32 : ∀ a ∈ ws, 32 ∉ a.cps.toList) (g : α → Str) : ∀ {l : List α}, (l.map g).Nodup → (l.flatMap fun c => withN ws (g c)).Nodup
  | [], _ => List.nodup_nil
  | c :: r, nd => by
    rw [List.map_cons] at nd
    obtain ⟨n1, n2⟩ := List.nodup_cons.mp nd
    rw [List.flatMap_cons]
    refine List.nodup_append.mpr ⟨with_nodup h h32 _, flat_nodup h h32 g n2, fun x hx y hy e => ?_⟩
    subst e
    obtain ⟨a, ha, rfl⟩ := List.mem_map.mp hx
    obtain ⟨d, hd, h2⟩ := List.mem_flatMap.mp hy
    obtain ⟨b, hb, e⟩ := List.mem_map.mp h2
    have e2 := (form_inj (h32 b hb) (h32 a ha) e).2
    exact n1 (by rw [← e2]; exact List.mem_map_of_mem hd)
theorem col32 : ∀ a ∈ colW, 32 ∉ a.cps.toList := by decide +kernel
theorem kind32 : ∀ a ∈ kindW, 32 ∉ a.cps.toList := by decide +kernel
theorem menu_nodup {B : Shp} (nd : (B.ks.map (·.1) ++ B.cs.map (·.1)).Nodup) : (menu B).Nodup := by
  obtain ⟨d1, d2, d3⟩ := List.nodup_append.mp nd
  unfold menu
  refine List.nodup_append.mpr ⟨List.nodup_append.mpr ⟨flat_nodup (by decide +kernel) col32 _ d2, flat_nodup (by decide +kernel) kind32 _ d1, fun x hx y hy e => ?_⟩, by decide +kernel, fun x hx y hy e => ?_⟩
  · subst e
    obtain ⟨c, hc, h1⟩ := List.mem_flatMap.mp hx
    obtain ⟨a, ha, rfl⟩ := List.mem_map.mp h1
    obtain ⟨d, hd, h2⟩ := List.mem_flatMap.mp hy
    obtain ⟨b, hb, e⟩ := List.mem_map.mp h2
    have e2 := (form_inj (kind32 b hb) (col32 a ha) e).2
    exact d3 d.1 (List.mem_map_of_mem hd) c.1 (List.mem_map_of_mem hc) e2
  · subst e
    have h32 : 32 ∈ x.cps.toList := by
      rcases List.mem_append.mp hx with h | h
      · obtain ⟨c, hc, h1⟩ := List.mem_flatMap.mp h
        obtain ⟨a, ha, rfl⟩ := List.mem_map.mp h1
        rw [form_cps]
        exact List.mem_append_right _ (List.mem_cons_self ..)
      · obtain ⟨c, hc, h1⟩ := List.mem_flatMap.mp h
        obtain ⟨a, ha, rfl⟩ := List.mem_map.mp h1
        rw [form_cps]
        exact List.mem_append_right _ (List.mem_cons_self ..)
    exact (show ∀ y ∈ bookW, 32 ∉ y.cps.toList by decide +kernel) x hy h32
end Ls
namespace Ls
open PySem PySem.Spec PyProof.Rows L2
/-! ### short steps -/
local macro_rules | `(tactic| walk_at "ls_ne") => `(tactic| first | assumption | exact Ne.symm (by assumption) | exact ne_of_none (by assumption) (by assumption) | exact Ne.symm (ne_of_none (by assumption) (by assumption)))
local macro_rules | `(tactic| walk_at "ls_hp") => `(tactic| first
  | with_reducible assumption
  | exact upd_same
  | exact Eq.trans (upd_ne (by walk_at "ls_ne")) (by walk_at "ls_hp"))
local macro_rules | `(tactic| walk_at "ls_st") => `(tactic| first
  | with_reducible assumption
  | exact Stm.upd (by walk_at "ls_st") (by first | walk_at "ls_ne" | exact (Stm.noneS (by assumption) (by assumption)).1) (by first | walk_at "ls_ne" | exact (Stm.noneS (by assumption) (by assumption)).2))
local macro_rules | `(tactic| walk_at "ls1") => `(tactic| first
  | refine ⟨_, rfl, ?_⟩
  | refine ⟨_, _, rfl, rfl, ?_⟩
  | refine ⟨_, _, _, _, rfl, rfl, .inl (.inl (by walk_at "ls_hp")), rfl, ?_⟩
  | refine ⟨_, _, _, _, rfl, rfl, (by walk_at "ls_hp"), rfl, ?_⟩
  | refine ⟨rfl, _, rfl, ?_⟩
  | refine ⟨.inl ⟨rfl, _, .inl (.inl (by walk_at "ls_hp"))⟩, ?_⟩)
local macro_rules | `(tactic| walk_at "ls") => `(tactic| repeat (walk_at "ls1"))

theorem cut_drop1' (xs : List V) : cutV xs (some 1) none = xs.drop 1 := by
  cases xs with
  | nil => rfl
  | cons x r => exact cut_drop1 x r
theorem menu_form {B : Shp} (hB : B.Ok) {z : Str} (h : z ∈ menu B) : z ∈ bookW ∨ ∃ a n : List Nat, z.cps.toList = a ++ 32 :: n ∧ 32 ∉ a ∧ 1 ≤ n.length ∧ ∀ c ∈ n, 97 ≤ c ∧ c ≤ 122 := by
  unfold menu at h
  rcases List.mem_append.mp h with h | h
  · refine .inr ?_
    have go : ∀ {ws : List Str} {n : Str}, (∀ a ∈ ws, 32 ∉ a.cps.toList) → Nm n → z ∈ withN ws n → ∃ a n : List Nat, z.cps.toList = a ++ 32 :: n ∧ 32 ∉ a ∧ 1 ≤ n.length ∧ ∀ c ∈ n, 97 ≤ c ∧ c ≤ 122 := fun {ws n} h32 hn hz => by
      obtain ⟨a, ha, rfl⟩ := List.mem_map.mp hz
      refine ⟨a.cps.toList, n.cps.toList, form_cps a n, h32 a ha, ?_, hn.1.2.2⟩
      have := hn.1.1
      rw [Array.length_toList]
      exact this
    rcases List.mem_append.mp h with h | h
    · obtain ⟨c, hc, h2⟩ := List.mem_flatMap.mp h
      exact go col32 (hB.nm _ (List.mem_append_right _ (List.mem_map_of_mem hc))) h2
    · obtain ⟨c, hc, h2⟩ := List.mem_flatMap.mp h
      exact go kind32 (hB.nm _ (List.mem_append_left _ (List.mem_map_of_mem hc))) h2
  · exact .inl h
theorem no_sp {B : Shp} (hB : B.Ok) {z : Str} (h1 : z ∉ bookW) (h2 : 32 ∉ z.cps.toList) : isWordV (menu B) (.str z) = false := decide_eq_false fun h => by
  rcases menu_form hB h with h | ⟨a, n, e, _⟩
  · exact h1 h
  · exact h2 (by rw [e]; exact List.mem_append_right _ (.head _))
theorem bad_sp {B : Shp} (hB : B.Ok) {z : Str} (h1 : z ∉ bookW) {a n : List Nat} (h2 : z.cps.toList = a ++ 32 :: n) (h3 : 32 ∉ a) (h4 : n = [] ∨ 32 ∈ n) : isWordV (menu B) (.str z) = false := decide_eq_false fun h => by
  rcases menu_form hB h with h | ⟨a', n', e, g, g1, g2⟩
  · exact h1 h
  · obtain ⟨e1, e2⟩ := cut_32 h3 g (h2.symm.trans e)
    subst e2
    rcases h4 with h4 | h4
    · rw [h4] at g1
      exact absurd g1 (by decide)
    · exact absurd (g2 32 h4).1 (by decide)
def oddItems (l1 l2 d : Addr) : List V := [.str "put", .str "lone ", .int 5, .non, .ref l1, .ref l2, .str "bare zz zz", .ref d, .str ""]
theorem odd_items {B : Shp} (hB : B.Ok) {H : Hp} {l1 l2 d : Addr} (h1 : H l1 = some (.lst [.str "lone"])) (h2 : H l2 = some (.tup [.str "lone"])) (h3 : H d = some (.dK [])) {i : Nat} {x : V} (hx : (oddItems l1 l2 d)[i]? = some x) : ∃ y, OddD H x y ∧ isWordV (menu B) x = false := by
  have hm := List.mem_of_getElem? hx
  unfold oddItems at hm
  simp only [List.mem_cons, List.not_mem_nil, or_false] at hm
  rcases hm with rfl | rfl | rfl | rfl | rfl | rfl | rfl | rfl | rfl
  · exact ⟨_, .str _ (by decide +kernel), no_sp hB (by decide +kernel) (by decide +kernel)⟩
  · exact ⟨_, .str _ (by decide +kernel), bad_sp hB (a := [108, 111, 110, 101]) (n := []) (by decide +kernel) (by decide +kernel) (by decide +kernel) (.inl rfl)⟩
  · exact ⟨_, .int 5 (by decide), rfl⟩
  · exact ⟨_, .non, rfl⟩
  · exact ⟨_, .lst l1 "lone" (by decide +kernel) h1, rfl⟩
  · exact ⟨_, .tup l2 "lone" (by decide +kernel) h2, rfl⟩
  · exact ⟨_, .str _ (by decide +kernel), bad_sp hB (a := [98, 97, 114, 101]) (n := [122, 122, 32, 122, 122]) (by decide +kernel) (by decide +kernel) (by decide +kernel) (.inr (by decide))⟩
  · exact ⟨_, .dct d h3, rfl⟩
  · exact ⟨_, .str _ (by decide +kernel), no_sp hB (by decide +kernel) (by decide +kernel)⟩
section
variable {P : Program} {w : World} {K : PySem.W.Frag} {mg : Str → Option Value} {base : Heap}
abbrev s_law : Stmt := topS 42
theorem sc_law : FnScope ["_law_script", "_law_stream", "_law_turn", "_law_b", "_law_c", "_law_far", "_law_one", "_law_other", "_law_strange", "_law_check", "_law_shared_checks", "_law_odd", "_law_way", "_law_x"] ["_law_script"] (defScope s_law) := ⟨rfl, rfl, rfl, by decide +kernel, rfl, by decide +kernel, by decide +kernel⟩
abbrev N_law : List Str := ["_law_script", "_law_stream", "_law_turn", "_law_b", "_law_c", "_law_far", "_law_one", "_law_other", "_law_strange", "_law_check", "_law_shared_checks", "_law_odd", "_law_way", "_law_x"]
def spLaw (K : PySem.W.Frag) : Sp := fun vs H Q _ => ∃ (a : Addr) (ns : List Int), vs = [.ref a] ∧ SqL K H a (ns.map V.int) ∧ ns.length ≤ 63 ∧ ∀ H', Q (.bl true) H'
theorem ok_law {C C_UnlikeBooks C_UnknownCheck : Addr} {A : ErrA} {f : Addr} {fd : FuncData} (F : Fun K "law" "law" s_law f fd) (T : Bt mg) (TB : BkT K C) (CI : ClsI K C) (fA : FarAll K C (Operator.info .Add).2) (fS : FarAll K C (Operator.info .Sub).2)
    (nf_int : PySem.W.notFirst K C (.type "int") = true) (nf_list : PySem.W.notFirst K C (.type "list") = true) (kt_int : PySem.W.kitOne K (.type "int") (.ref C) = some false) (kt_list : PySem.W.kitOne K (.type "list") (.ref C) = some false)
    (hsf : PySem.W.selfFirst K C = true) (hrr_or : PySem.W.findIn K (.ref C) (PySem.dunderR (Operator.info .BitOr).2) = some none) (hrr_and : PySem.W.findIn K (.ref C) (PySem.dunderR (Operator.info .BitAnd).2) = some none) (hrr_add : PySem.W.findIn K (.ref C) (PySem.dunderR (Operator.info .Add).2) = some none) (hrr_sub : PySem.W.findIn K (.ref C) (PySem.dunderR (Operator.info .Sub).2) = some none)
    (O__law_draw : Own P w K mg base CX0 1 "_law_draw" ["_law_stream", "_law_many"] spDraw) (O__law_rules : Own P w K mg base CX0 5 "_law_rules" ["_law_stream", "_law_many", "_law_most"] spRules) (O__law_checked : Own P w K mg base CX0 2 "_law_checked" ["_law_stream", "_law_b"] spChecked)
    (O__law_all_checks : Own P w K mg base CX0 1 "_law_all_checks" ["_law_b"] spAll) (O__law_varied : Own P w K mg base CX0 3 "_law_varied" ["_law_stream", "_law_b"] spVaried) (O__law_made : Own P w K mg base CX0 7 "_law_made" ["_law_b"] (spMadeL C)) (O_Book : OwnCR P w K mg base 5 C "Book" ["self", "kinds", "columns", "checks"] (spInit K C A))
    (O_Book_or : OwnMR P w K mg base 8 C "__or__" ["self", "other"] (spOr K C C_UnlikeBooks)) (O_Book_and : OwnMR P w K mg base 8 C "__and__" ["self", "other"] (spAnd K C C_UnlikeBooks))
    (O_Book_add : OwnMR P w K mg base 8 C "__add__" ["self", "check"] (spAdd K C C_UnknownCheck)) (O_Book_sub : OwnMR P w K mg base 8 C "__sub__" ["self", "check"] (spSub K C C_UnknownCheck)) (O_Book_eq : OwnM P w K mg base CX0 2 C "__eq__" ["self", "other"] (spEqB K C)) (O_Book_checks : OwnM P w K mg base CX0 1 C "checks" ["self"] (spChecksB C))
    (O__law_is : OwnG P w K mg base CX0 3 "_law_is" ["_law_book", "_law_b", "_law_checks"] (spIs C)) (O__law_compared : OwnG P w K mg base CX0 5 "_law_compared" ["_law_one", "_law_other", "_law_c", "_law_d", "_law_alike"] (spComp C)) (O__law_joined : Own P w K mg base CX0 9 "_law_joined" ["_law_way", "_law_one", "_law_other"] (spJoined K C)) (O__law_same : OwnG P w K mg base CX0 1 "_law_same" ["_law_found", "_law_due"] spSameD) :
    FnG P w K mg base CX0 10 f fd ["_law_script"] (spLaw K) := by
  refine fun_okG F sc_law (fun vs H Q E h => ?_) (fun cdv A' outer s H vs Q E hgd hr h => ?_)
  · obtain ⟨a, ns, rfl, _⟩ := h
    rfl
  · obtain ⟨a, ns, rfl, ha, hl, q⟩ := h
    have hu := hu_of hr
    refine ⟨_, (pss_cons (ps_set (i := 1) sc_law.nd rfl (Or.inl rfl) (pe_lst (pa_cons (pe_callTy (list_of K) (by rfl) T.m_list (by decide +kernel) (pa_cons (pv 0) pa_nil)) (pa_cons pe_int (pa_cons pe_int (pa_cons pe_int pa_nil))))))
      (pss_cons (ps_for PassesOwn.never rfl (pi_range1 rfl T.m_range (pa_cons pe_int pa_nil)) (pg_name (i := 2) sc_law.nd rfl (Or.inl rfl)) (pss_cons (ps_set (i := 3) sc_law.nd rfl (Or.inr rfl) (own_call O__law_rules hr (by first | decide | omega) (pa_cons (pv 1) (pa_cons pe_int (pa_cons pe_int pa_nil)))))
      (C8.pss_cut (ps_set (i := 4) sc_law.nd rfl (Or.inl rfl) (pe_ifExp (pt_cmpR op_gt (own_call O__law_draw hr (by first | decide | omega) (pa_cons (pv 1) (pa_cons pe_int pa_nil))) pe_int (nomark _)) (pe_dget hu (own_call O__law_checked hr (by first | decide | omega) (pa_cons (pv 1) (pa_cons (pv 3) pa_nil))) pe_str (fun _ _ => rfl)) (pe_slice sl_list (pe_dget hu (pv 3) pe_str (fun _ _ => rfl)) (po_some pe_int) po_none)))
      (pss_cons (ps_set (i := 5) sc_law.nd rfl (Or.inl rfl) (own_call O__law_varied hr (by first | decide | omega) (pa_cons (pv 1) (pa_cons (pv 3) pa_nil))))
      (pss_cons (ps_asg (pe_tup (pa_cons (own_call O__law_made hr (by first | decide | omega) (pa_cons (pv 3) pa_nil)) (pa_cons (own_makeR O_Book hr (by first | decide | omega) L2.takes0 (pa_cons (pe_dget hu (pv 3) pe_str (fun _ _ => rfl)) (pa_cons (pe_dget hu (pv 3) pe_str (fun _ _ => rfl)) (pa_cons (pv 4) pa_nil)))) (pa_cons (own_call O__law_made hr (by first | decide | omega) (pa_cons (pv 5) pa_nil)) pa_nil)))) (pg_tup rfl (pgs_cons (pg_name (i := 6) sc_law.nd rfl (Or.inr rfl)) (pgs_cons (pg_name (i := 7) sc_law.nd rfl (Or.inl rfl)) (pgs_cons (pg_name (i := 8) sc_law.nd rfl (Or.inr rfl)) pgs_nil)))))
      (pss_cons (ps_setLc (i := 10) (own := [("_law_check", 9)]) (g := gName 9) (by rfl) sc_law.nd rfl rfl (sw_true rfl rfl rfl (by decide +kernel)) (pi_list (pv 4)) (blkOk_by (own := [("_law_check", 9)]) (N := N_law) (sc := defScope s_law) (by decide +kernel)) (fun _ _ _ _ _ => (pg_name (i := 9) sc_law.nd rfl (Or.inl rfl) (Or.inr rfl))) (fun _ _ _ _ _ => (pts_one (pt_cmpR (in_seq K) (pv 9) (pe_dget hu (pv 3) pe_str (fun _ _ => rfl)) (by rfl)))) (fun _ _ _ _ _ => (pv 9)))
      (pss_cons (ps_if (PW.pt (pw_or (pt_not (pt_val (own_callG O__law_is hgd hr (by first | decide | omega) (pa_cons (own_binRK K (op := .BitOr) O_Book_or hr (by first | decide | omega) L2.takes0 hsf hrr_or (pv 6) (pv 7)) (pa_cons (pv 3) (pa_cons (pe_op op_cat (pe_dget hu (pv 3) pe_str (fun _ _ => rfl)) (pv 4)) pa_nil)))))) (pw_or1 (pt_not (pt_val (own_callG O__law_is hgd hr (by first | decide | omega) (pa_cons (own_binRK K (op := .BitAnd) O_Book_and hr (by first | decide | omega) L2.takes0 hsf hrr_and (pv 6) (pv 7)) (pa_cons (pv 3) (pa_cons (pv 10) pa_nil))))))))) (pss_one (ps_ret pe_bl)) pss_nil)
      (pss_cons (ps_for PassesOwn.never rfl (pi_list (own_call O__law_all_checks hr (by first | decide | omega) (pa_cons (pv 3) pa_nil))) (pg_name (i := 9) sc_law.nd rfl (Or.inr rfl)) (pss_cons (ps_if (pt_not (pt_val (own_callG O__law_is hgd hr (by first | decide | omega) (pa_cons (own_binRK K (op := .Add) O_Book_add hr (by first | decide | omega) L2.takes0 hsf hrr_add (pv 6) (pv 9)) (pa_cons (pv 3) (pa_cons (pe_op op_cat (pe_dget hu (pv 3) pe_str (fun _ _ => rfl)) (pe_lst (pa_cons (pv 9) pa_nil))) pa_nil)))))) (pss_one (ps_ret pe_bl)) pss_nil)
      (pss_one (ps_if (pt_not (pt_val (own_callG O__law_is hgd hr (by first | decide | omega) (pa_cons (own_binRK K (op := .Sub) O_Book_sub hr (by first | decide | omega) L2.takes0 hsf hrr_sub (pv 6) (pv 9)) (pa_cons (pv 3) (pa_cons (pe_lc (own := [("_law_x", 13)]) (g := gName 13) (by rfl) sc_law.nd (pi_list (pe_dget hu (pv 3) pe_str (fun _ _ => rfl))) (blkOk_by (own := [("_law_x", 13)]) (N := N_law) (sc := defScope s_law) (by decide +kernel)) (fun _ _ _ _ _ => (pg_name (i := 13) sc_law.nd rfl (Or.inl rfl) (Or.inr rfl))) (fun _ _ _ _ _ => (pts_one (pt_cmpR op_ne (pv 13) (pv 9) (nomark _)))) (fun _ _ _ _ _ => (pv 13))) pa_nil)))))) (pss_one (ps_ret pe_bl)) pss_nil))))
      (pss_cons (ps_for PassesOwn.never rfl (pi_list (pe_lst (pa_cons pe_str (pa_cons pe_str (pa_cons pe_int (pa_cons pe_non (pa_cons (pe_lst (pa_cons pe_str pa_nil)) (pa_cons (pe_tup (pa_cons pe_str pa_nil)) (pa_cons pe_str (pa_cons pe_dnewK (pa_cons pe_str pa_nil))))))))))) (pg_name (i := 11) sc_law.nd rfl (Or.inr rfl)) (pss_one (ps_if (pt_not (pt_val (own_callG O__law_same hgd hr (by first | decide | omega) (pa_cons (pe_lc (own := [("_law_way", 12)]) (g := gName 12) (by rfl) sc_law.nd (pi_list (pe_lst (pa_cons pe_int (pa_cons pe_int pa_nil)))) (blkOk_by (own := [("_law_way", 12)]) (N := N_law) (sc := defScope s_law) (by decide +kernel)) (fun _ _ _ _ _ => (pg_name (i := 12) sc_law.nd rfl (Or.inl rfl) (Or.inr rfl))) (fun _ _ _ _ _ => pts_nil) (fun _ _ _ _ _ => (own_call O__law_joined hr (by first | decide | omega) (pa_cons (pv 12) (pa_cons (pv 6) (pa_cons (pv 11) pa_nil)))))) (pa_cons (pe_op op_rep (pe_lst (pa_cons (pe_tup (pa_cons pe_str (pa_cons (pv 11) pa_nil))) pa_nil)) pe_int) pa_nil))))) (pss_one (ps_ret pe_bl)) pss_nil)))
      (pss_cons (ps_if (pt_not (pt_val (own_callG O__law_same hgd hr (by first | decide | omega) (pa_cons (pe_lc (own := [("_law_way", 12)]) (g := gName 12) (by rfl) sc_law.nd (pi_list (pe_lst (pa_cons pe_int (pa_cons pe_int pa_nil)))) (blkOk_by (own := [("_law_way", 12)]) (N := N_law) (sc := defScope s_law) (by decide +kernel)) (fun _ _ _ _ _ => (pg_name (i := 12) sc_law.nd rfl (Or.inl rfl) (Or.inr rfl))) (fun _ _ _ _ _ => pts_nil) (fun _ _ _ _ _ => (own_call O__law_joined hr (by first | decide | omega) (pa_cons (pv 12) (pa_cons (pv 6) (pa_cons (pv 8) pa_nil)))))) (pa_cons (pe_op op_rep (pe_lst (pa_cons (pe_tup (pa_cons pe_str pa_nil)) pa_nil)) pe_int) pa_nil))))) (pss_one (ps_ret pe_bl)) pss_nil)
      (pss_cons (ps_if (pt_not (pt_val (own_callG O__law_compared hgd hr (by first | decide | omega) (pa_cons (pv 6) (pa_cons (pv 7) (pa_cons (pe_dget hu (pv 3) pe_str (fun _ _ => rfl)) (pa_cons (pv 4) (pa_cons pe_bl pa_nil)))))))) (pss_one (ps_ret pe_bl)) pss_nil)
      (pss_cons (ps_if (pt_not (pt_val (own_callG O__law_compared hgd hr (by first | decide | omega) (pa_cons (pv 7) (pa_cons (pv 6) (pa_cons (pv 4) (pa_cons (pe_dget hu (pv 3) pe_str (fun _ _ => rfl)) (pa_cons pe_bl pa_nil)))))))) (pss_one (ps_ret pe_bl)) pss_nil)
      (pss_cons (ps_if (PW.pt (pw_or (pt_not (pt_val (own_callG O__law_compared hgd hr (by first | decide | omega) (pa_cons (pv 6) (pa_cons (pv 8) (pa_cons (pe_lst pa_nil) (pa_cons (pe_lst pa_nil) (pa_cons pe_bl pa_nil)))))))) (pw_or1 (pt_not (pt_val (own_callG O__law_compared hgd hr (by first | decide | omega) (pa_cons (pv 8) (pa_cons (pv 6) (pa_cons (pe_lst pa_nil) (pa_cons (pe_lst pa_nil) (pa_cons pe_bl pa_nil))))))))))) (pss_one (ps_ret pe_bl)) pss_nil)
      (pss_cons (ps_if (PW.pt (pw_or (pt_cmpR (op_cmpT O_Book_eq (fun _ _ => rfl) hr (by first | decide | omega)) (pv 6) pe_int (nomark _)) (pw_or1 (pt_cmpR (op_cmpT O_Book_eq (fun _ _ => rfl) hr (by first | decide | omega)) (pv 6) (own_meth0 O_Book_checks hr (by first | decide | omega) (pv 6)) (nomark _))))) (pss_one (ps_ret pe_bl)) pss_nil)
      (pss_one (ps_if (PW.pt (pw_or (pt_not (pt_val (own_callG O__law_is hgd hr (by first | decide | omega) (pa_cons (pv 6) (pa_cons (pv 3) (pa_cons (pe_dget hu (pv 3) pe_str (fun _ _ => rfl)) pa_nil)))))) (pw_or (pt_not (pt_val (own_callG O__law_is hgd hr (by first | decide | omega) (pa_cons (pv 7) (pa_cons (pv 3) (pa_cons (pv 4) pa_nil)))))) (pw_or1 (pt_not (pt_cmpR (op_cmpO O_Book_eq (fun _ _ => rfl) hr (by first | decide | omega)) (pv 6) (own_call O__law_made hr (by first | decide | omega) (pa_cons (pv 3) pa_nil)) (nomark _))))))) (pss_one (ps_ret pe_bl)) pss_nil))))))))))))))))
      (pss_one (ps_ret pe_bl)))), ?_⟩
    walk_at "ls"
    refine ⟨a, _, rfl, .inl ha, fun L hL => ⟨(by show 4 ≤ sizeLine; decide), fun S hS => ?_⟩⟩
    have nSL : S ≠ L := fun e => by rw [e, upd_same] at hS; cases hS
    refine at_heap (φ := fun H1 => Stm H1 S L 0) ⟨ns, 0, 0, 0, upd_same, (by rw [upd_ne nSL.symm]; exact upd_same), by decide, by decide, by decide, by decide, by decide⟩ ?_
    intro H1 st1
    refine ⟨4, rfl, by decide, by decide, ?_⟩
    refine for_it (walk_range (n := 4)) (fun i σ H2 => ∃ v2 v3 v4 v5 v6 v7 v8 v9 v10 v11 v12 v13 : Option V, σ = [some (.ref a), some (.ref S), v2, v3, v4, v5, v6, v7, v8, v9, v10, v11, v12, v13] ∧ Stm H2 S L (900 * i)) ⟨none, none, none, none, none, none, none, none, none, none, none, none, rfl, st1⟩ (fun _ _ _ _ _ => trivial) ?_ ?_
    · rintro i x σ Hz H2 hi ⟨v2, v3, v4, v5, v6, v7, v8, v9, v10, v11, v12, v13, rfl, st2⟩ ⟨rfl, rfl⟩
      walk_at "ls"
      refine ⟨S, L, _, 2, 3, rfl, st2, by omega, by decide, by decide, by decide, by decide, fun H3 b B ck hB hBk hBc hb hck hs3 st3 od3 => ?_⟩
      have nd := menu_nodup hB.nd
      have lck : ck.length ≤ 51 := Nat.le_trans hck.length_le (menu_small hB)
      refine ⟨fun σ' H' => ∃ (c : Addr) (cl : List Str) (v2 : Option V), σ' = [some (.ref a), some (.ref S), v2, some (.ref b), some (.ref c), v5, v6, v7, v8, v9, v10, v11, v12, v13] ∧ cl.Sublist (menu B) ∧ H' c = some (.lst (cl.map V.str)) ∧ c ≠ S ∧ c ≠ L ∧ ShpAt S L H' b B ck ∧ Stm H' S L (900 * i + 400), ?_, ?_⟩
      · walk_at "ls"
        refine ⟨S, L, _, 3, rfl, st3, by omega, by decide, by decide, fun H4 r r0 r1 st4 od4 => ?_⟩
        have hs4 := hs3.old st3 od4
        walk_at "ls"
        refine ite2 (fun e => ?_) (fun e => ?_)
        · walk_at "ls"
          refine ⟨S, L, b, _, B, ck, rfl, st4, by omega, hs4, hB, fun H5 p cl hp hcl hs5 st5 od5 => ?_⟩
          obtain ⟨kb, cb, eb, kxb, cxb, g1, g2, g3, g4, g5, g6, g7, g8, g9⟩ := id hs5
          walk_at "ls"
          refine ⟨p, _, rfl, dg_checks g1, ?_⟩
          exact ⟨eb, cl, _, rfl, hcl, g6, g9.1, g9.2, hs4.old st4 od5, st5.mono (by omega)⟩
        · obtain ⟨kb, cb, eb, kxb, cxb, g1, g2, g3, g4, g5, g6, g7, g8, g9⟩ := id hs4
          walk_at "ls"
          refine ⟨b, _, rfl, dg_checks g1, ?_⟩
          refine ⟨1, rfl, eb, _, rfl, .inl (.inl g6), fun sk hsk => ?_⟩
          rw [cut_drop1', ← List.map_drop]
          have s := same_new (o := .lst ((ck.drop 1).map V.str)) hsk
          have n := st4.noneS hsk
          exact ⟨sk, ck.drop 1, _, rfl, (List.drop_sublist _ _).trans hck, upd_same, n.1, n.2, hs4.same s, (st4.keep s).mono (by omega)⟩
      · rintro σ' H4 ⟨c, cl, v2, rfl, hcl, hc4, nc1, nc2, hs4, st4⟩
        have lcl : cl.length ≤ 51 := Nat.le_trans hcl.length_le (menu_small hB)
        walk_at "ls"
        refine ⟨S, L, b, _, B, ck, rfl, st4, by omega, hs4, hB, hBk, fun z hz => hck.subset hz, by omega, fun H5 g B' ck' hs5 hB' hne hck' lck' st5 od5 => ?_⟩
        have hc5 := od5 _ _ nc1 nc2 hc4
        have hsb5 := hs4.old st4 od5
        walk_at "ls"
        refine ⟨S, L, b, B, ck, rfl, hsb5, hB, fun z hz => hck.subset hz, by omega, fun H6 o ho6 s6 => ?_⟩
        rw [sub_filter hck nd] at ho6
        have hc6 := s6 _ _ hc5
        have hsb6 := hsb5.same s6
        obtain ⟨ka, ca, ea, kx, cx, hbr, hk, hkt, hcc, hct, he, n1, n2, n3⟩ := id hsb6
        walk_at "ls"
        refine ⟨b, _, rfl, dg_kinds hbr, ?_⟩
        walk_at "ls"
        refine ⟨b, _, rfl, dg_columns hbr, ?_⟩
        walk_at "ls"
        intro u dx hou hdx hne2
        have s0 : Same H6 (upd (upd H6 dx (.own u)) u (.ins C dx [])) := (same_new hdx).trans (same_new (by rw [upd_ne (Ne.symm hne2)]; exact hou))
        have nk3 := hB.nk3
        have nc8 := hB.nc
        have hclm : ∀ z ∈ cl, z ∈ menu B := fun z hz => hcl.subset hz
        have berr : bookErr (ksU B) (csU B) (cl.map V.str) = none := book_fine hB.fine hclm
        refine ⟨u, dx, ka, ca, c, kx, cx, cl.map V.str, ksU B, csU B, rfl, upd_same, .inl (.inl (.inl (s0 _ _ hk))), ?_, .inl (.inl (.inl (s0 _ _ hcc))), ?_, .inl (.inl (.inl (s0 _ _ hc6))), fun k hk => ?_, fun c hc => ?_, fun v hv => ?_, ?_, ?_, ?_, ?_⟩
        · rw [ksU_rows]
          exact RowsAt.same (tups_rows hkt) s0
        · rw [csU_rows]
          exact RowsAt.same (tups_rows hct) s0
        · obtain ⟨k0, hk0, rfl⟩ := List.mem_map.mp hk
          exact .inl ⟨_, rfl, Nat.le_trans (hB.nm _ (List.mem_append_left _ (List.mem_map_of_mem hk0))).1.2.1 (by decide)⟩
        · obtain ⟨c0, hc0, rfl⟩ := List.mem_map.mp hc
          refine ⟨.inl ⟨_, rfl, Nat.le_trans (hB.nm _ (List.mem_append_right _ (List.mem_map_of_mem hc0))).1.2.1 (by decide)⟩, .inl ⟨_, rfl, Nat.le_trans (hB.nm _ (List.mem_append_left _ (hB.home c0 hc0))).1.2.1 (by decide)⟩, .inl ⟨_, rfl, Nat.le_trans (hB.nm _ (List.mem_append_left _ (hB.goal c0 hc0))).1.2.1 (by decide)⟩, .inl ⟨_, rfl, ?_⟩⟩
          cases c0.2.2.2 <;> decide
        · obtain ⟨z, hz, rfl⟩ := List.mem_map.mp hv
          exact .inl ⟨_, rfl, Nat.le_trans (okB_len (menu_ok hB z (hclm z hz))) (by decide)⟩
        · unfold ksU
          rw [List.length_map]
          omega
        · unfold csU
          rw [List.length_map]
          omega
        · rw [List.length_map]
          omega
        rw [berr]
        intro H7 hu7 bt
        rw [menuU_is, show (cl.map V.str).map strOf = cl by rw [List.map_map]; exact List.map_id cl] at hu7
        have hu7 : BookS C H7 u B ((menu B).filter fun z => decide (z ∈ cl)) := hu7
        rw [sub_filter hcl nd] at hu7
        have s7 : Same H6 H7 := fun b' u' e => bt b' u' (ne_of_none e hou) (s0 _ _ e)
        refine ⟨rfl, ?_⟩
        walk_at "ls"
        refine ⟨S, L, g, B', ck', rfl, (hs5.same s6).same s7, hB', hck', by omega, fun H8 e hg8 s8 => ?_⟩
        refine ⟨(by show 3 ≤ sizeLine; decide), fun t ht => ?_⟩
        have s9 := same_new (o := .tup [.ref o, .ref u, .ref e]) ht
        refine ⟨t, _, rfl, .inl (.inl upd_same), rfl, _, _, rfl, _, _, rfl, _, _, rfl, rfl, ?_⟩
        -- what is known from here on
        have sA := (s7.trans s8).trans s9
        have kb := hsb6.same sA
        have kc := sA _ _ hc6
        have ko := BookS.same ho6 sA
        have ku := BookS.same (BookS.same hu7 s8) s9
        have ke := BookS.same hg8 s9
        have kst := st5.keep (s6.trans sA)
        generalize upd H8 t (.tup [.ref o, .ref u, .ref e]) = HA at *
        have hekm : ∀ z ∈ (menu B').filter (fun z => decide (z ∈ ck')), z ∈ menu B' := fun z hz => (List.mem_filter.mp hz).1
        have lek : ((menu B').filter (fun z => decide (z ∈ ck'))).length ≤ 400 := Nat.le_trans (List.length_filter_le _ _) (Nat.le_trans (menu_small hB') (by decide))
        have okek : ∀ z ∈ (menu B').filter (fun z => decide (z ∈ ck')), okB 100 z = true := fun z hz => okB_mono (menu_ok hB' z (hekm z hz)) (by decide)
        generalize (menu B').filter (fun z => decide (z ∈ ck')) = ek at *
        obtain ⟨dxo, ko1, ko2, ko3, ko4, io⟩ := ko.ins
        obtain ⟨dxu, ku1, ku2, ku3, ku4, iu⟩ := ku.ins
        obtain ⟨dxe, ke1, ke2, ke3, ke4, ie⟩ := ke.ins
        obtain ⟨qk, qc, qe, qkx, qcx, qb, q1, q2, q3, q4, q5, q6, q7, q8⟩ := id kb
        have fnB : B.Fin := ⟨hB.fine, by omega, by omega⟩
        have fnB' : B'.Fine := hB'.fine
        have hckm : ∀ z ∈ ck, z ∈ menu B := fun z hz => hck.subset hz
        have tyb : ∀ {H' : Hp} {o : Addr} {dx k c m x : Addr}, H' o = some (.ins C dx (bookF k c m x)) → TyX K H' (.ref o) (.ref C) := fun h => .base (.ins h TB.cl CI.ca CI.cn CI.ct CI.cm)
        have okck : ∀ z ∈ ck, okB 100 z = true := fun z hz => okB_mono (menu_ok hB z (hckm z hz)) (by decide)
        have okcl : ∀ z ∈ cl, okB 100 z = true := fun z hz => okB_mono (menu_ok hB z (hclm z hz)) (by decide)
        walk_at "ls"
        refine ⟨⟨_, .inl (.inl kc)⟩, fun D hD => ?_⟩
        have lzc : cl.length < sizeLine := Nat.lt_of_le_of_lt lcl (by decide)
        refine lc_rows (walk_list (xs := cl.map V.str)) (cl.map V.str) cl (fun z => if decide (z ∈ ck) = true then some (V.str z) else none) (by rw [List.length_map]) (fun i H x H' hi hy => hy) (by rw [List.length_map]; exact lzc) (fun acc => .inl (.inl (by rw [upd_ne (ne_of_none kc hD)]; exact kc))) (fun j y z hj hyj hz => ?_) ?_
        · rw [List.getElem?_map, hz] at hyj
          cases hyj
          rw [List.length_map] at hj
          refine ⟨rfl, ?_⟩
          have sD : Same HA (upd HA D (.lst (madeR cl (fun z => if decide (z ∈ ck) = true then some (V.str z) else none) j))) := same_new hD
          walk_at "ls"
          refine ⟨b, _, rfl, dg_checks (sD _ _ qb), ?_⟩
          refine ⟨qe, _, rfl, .inl (.inl (.inl (sD _ _ q5))), rfl, all_flat _, _, rfl, ?_⟩
          rw [in_strs]
          refine ite2 (fun e => ?_) (fun e => ?_)
          · walk_at "ls"
            exact lr_yes hz hj lzc (if_pos e)
          · exact lr_no hz (if_neg e)
        rw [filterMap_if (fun z => decide (z ∈ ck)) V.str]
        have t1 := same_new (o := .lst ((cl.filter fun z => decide (z ∈ ck)).map V.str)) hD
        have kD : (upd HA D (.lst ((cl.filter fun z => decide (z ∈ ck)).map V.str))) D = _ := upd_same
        generalize upd HA D (.lst ((cl.filter fun z => decide (z ∈ ck)).map V.str)) = HB at *
        walk_at "ls"
        have tB := t1
        refine ⟨o, dxo, _, rfl, tB _ _ io, .inl (tyb (tB _ _ iu)), ?_⟩
        refine ⟨o, u, B, B, ck, cl, rfl, BookS.same ko tB, BookS.same ku tB, fnB, hB.fine, hckm, hclm, by omega, ?_⟩
        rw [decide_eq_true (rfl : B = B)]
        intro HC j hj sC
        have tC := tB.trans sC
        refine ⟨⟨j, rfl⟩, ?_⟩
        walk_at "ls"
        refine ⟨b, _, rfl, dg_checks (tC _ _ qb), ?_⟩
        walk_at "ls"
        refine ⟨qe, c, _, _, rfl, rfl, tC _ _ q5, tC _ _ kc, Nat.le_trans (show _ ≤ 1000 by rw [List.length_map, List.length_map]; omega) (by decide), fun p hp => ?_⟩
        have sp := same_new (o := .lst (ck.map V.str ++ cl.map V.str)) hp
        refine ⟨S, L, j, b, p, B, _, ck, ck ++ cl, rfl, BookS.same hj sp, kb.same (tC.trans sp), hB, by rw [upd_same, List.map_append], rfl, fun HD sD => ?_⟩
        have tD := (tC.trans sp).trans sD
        refine ⟨_, rfl, iteF ?_⟩
        walk_at "ls"
        refine ⟨o, dxo, _, rfl, tD _ _ io, .inl (tyb (tD _ _ iu)), ?_⟩
        refine ⟨o, u, B, B, ck, cl, rfl, BookS.same ko tD, BookS.same ku tD, fnB, hB.fine, hckm, hclm, by omega, ?_⟩
        rw [decide_eq_true (rfl : B = B)]
        intro HE j2 hj2 sE
        have tE := tD.trans sE
        refine ⟨⟨j2, rfl⟩, ?_⟩
        walk_at "ls"
        have hDE : HE D = some (.lst ((cl.filter fun z => decide (z ∈ ck)).map V.str)) := sE _ _ (sD _ _ (sp _ _ (sC _ _ kD)))
        have esh : ((menu B).filter fun z => decide (z ∈ ck.filter fun y => decide (y ∈ cl))) = (menu B).filter fun z => decide (z ∈ cl.filter fun y => decide (y ∈ ck)) := List.filter_congr fun z _ => decide_eq_decide.mpr (by
          rw [List.mem_filter, List.mem_filter, decide_eq_true_eq, decide_eq_true_eq]
          exact ⟨fun h => ⟨h.2, h.1⟩, fun h => ⟨h.2, h.1⟩⟩)
        rw [esh] at hj2
        refine ⟨S, L, j2, b, D, B, _, ck, _, rfl, hj2, kb.same tE, hB, hDE, rfl, fun HF sF => ?_⟩
        have tF := tE.trans sF
        refine ⟨_, rfl, iteF ?_⟩
        walk_at "ls"
        refine ⟨S, L, b, B, ck, rfl, kb.same tF, hB, fun HG pm hpm hG sG => ?_⟩
        have tG := tF.trans sG
        refine ⟨pm, rfl, ⟨_, .inl (.inl hG)⟩, ?_⟩
        refine for_it (walk_list (xs := (menu B).map V.str)) (fun i σ Hx => ∃ v9 v13 : Option V, σ = [some (.ref a), some (.ref S), v2, some (.ref b), some (.ref c), some (.ref g), some (.ref o), some (.ref u), some (.ref e), v9, some (.ref D), v11, v12, v13] ∧ Same HG Hx) ⟨v9, v13, rfl, Same.refl HG⟩ (fun i σ Hx _ ⟨_, _, _, s⟩ => .inl (.inl (s _ _ hG))) ?_ ?_
        · rintro i x σ Hz Hx hi ⟨v9, v13, rfl, sx⟩ ⟨rfl, hx⟩
          obtain ⟨z, hz, rfl⟩ := map_get hx
          have hzm : z ∈ menu B := List.mem_of_getElem? hz
          have lz : z.length ≤ 1000 := Nat.le_trans (okB_len (menu_ok hB z hzm)) (by decide)
          have hwz : isWordV (menu B) (.str z) = true := decide_eq_true hzm
          have tx := tG.trans sx
          walk_at "ls"
          refine ⟨o, dxo, _, rfl, tx _ _ io, .inr ⟨"str", .base (.str z), fA.all _ (by simp [farTs])⟩, ?_⟩
          refine ⟨o, .str z, B, ck, rfl, BookS.same ko tx, fnB, hckm, by omega, .inl ⟨z, rfl, lz⟩, ?_⟩
          rw [hwz]
          intro H1' j hj s1'
          have t1' := tx.trans s1'
          refine ⟨⟨j, rfl⟩, ?_⟩
          walk_at "ls"
          refine ⟨b, _, rfl, dg_checks (t1' _ _ qb), ?_⟩
          walk_at "ls"
          refine ⟨(by show 1 ≤ sizeLine; decide), fun l hl => ?_⟩
          have sl := same_new (o := .lst [.str z]) hl
          refine ⟨qe, l, _, _, rfl, rfl, sl _ _ (t1' _ _ q5), upd_same, Nat.le_trans (show _ ≤ 1000 by rw [List.length_map]; show ck.length + 1 ≤ 1000; omega) (by decide), fun p hp => ?_⟩
          have sp := same_new (o := .lst (ck.map V.str ++ [.str z])) hp
          have slp := sl.trans sp
          refine ⟨S, L, j, b, p, B, _, ck, ck ++ [z], rfl, BookS.same hj slp, kb.same (t1'.trans slp), hB, by rw [upd_same, List.map_append]; rfl, rfl, fun H2' s2' => ?_⟩
          have t2' := (t1'.trans slp).trans s2'
          refine ⟨_, rfl, iteF ?_⟩
          walk_at "ls"
          refine ⟨o, dxo, _, rfl, t2' _ _ io, .inr ⟨"str", .base (.str z), fS.all _ (by simp [farTs])⟩, ?_⟩
          refine ⟨o, .str z, B, ck, rfl, BookS.same ko t2', fnB, hckm, by omega, .inl ⟨z, rfl, lz⟩, ?_⟩
          rw [hwz]
          intro H3' j3 hj3 s3'
          have t3' := t2'.trans s3'
          refine ⟨⟨j3, rfl⟩, ?_⟩
          walk_at "ls"
          refine ⟨b, _, rfl, dg_checks (t3' _ _ qb), qe, rfl, ⟨_, .inl (.inl (t3' _ _ q5))⟩, fun D2 hD2 => ?_⟩
          have lzk : ck.length < sizeLine := Nat.lt_of_le_of_lt lck (by decide)
          refine lc_rows (walk_list (xs := ck.map V.str)) (ck.map V.str) ck (fun y => if (!decide (y = z)) = true then some (V.str y) else none) (by rw [List.length_map]) (fun i H x H' hi hy => hy) (by rw [List.length_map]; exact lzk) (fun acc => .inl (.inl (by rw [upd_ne (ne_of_none (t3' _ _ q5) hD2)]; exact t3' _ _ q5))) (fun j y y0 hj hyj hy0 => ?_) ?_
          · rw [List.getElem?_map, hy0] at hyj
            cases hyj
            rw [List.length_map] at hj
            refine ⟨rfl, ?_⟩
            walk_at "ls"
            rw [strEq]
            refine ite2 (fun e => ?_) (fun e => ?_)
            · walk_at "ls"
              exact lr_yes hy0 hj lzk (if_pos e)
            · exact lr_no hy0 (if_neg e)
          rw [filterMap_if (fun y => !decide (y = z)) V.str]
          have s4' := same_new (o := .lst ((ck.filter fun y => !decide (y = z)).map V.str)) hD2
          refine ⟨S, L, j3, b, D2, B, _, ck, ck.filter fun y => !decide (y = z), rfl, BookS.same hj3 s4', kb.same (t3'.trans s4'), hB, upd_same, rfl, fun H5' s5' => ?_⟩
          refine ⟨_, rfl, iteF ?_⟩
          exact ⟨_, _, rfl, (((((sx.trans s1').trans slp).trans s2').trans s3').trans s4').trans s5'⟩
        · rintro σ Hx ⟨v9, v13, rfl, sx⟩
          have tx := tG.trans sx
          refine ⟨(by show 1 ≤ sizeLine; decide), fun l1 hl1 => ?_⟩
          refine ⟨(by show 1 ≤ sizeLine; decide), fun l2 hl2 => ?_⟩
          intro ld hld
          refine ⟨(by show 9 ≤ sizeLine; decide), fun lo hlo => ?_⟩
          have sl1 := same_new (o := .lst [.str "lone"]) hl1
          have sl2 := same_new (o := .tup [.str "lone"]) hl2
          have sl3 := same_new (o := .dK []) hld
          have sl4 := same_new (o := .lst (oddItems l1 l2 ld)) hlo
          have e1 : (upd (upd (upd (upd Hx l1 (.lst [.str "lone"])) l2 (.tup [.str "lone"])) ld (.dK [])) lo (.lst (oddItems l1 l2 ld))) l1 = some (.lst [.str "lone"]) := sl4 _ _ (sl3 _ _ (sl2 _ _ upd_same))
          have e2 : (upd (upd (upd (upd Hx l1 (.lst [.str "lone"])) l2 (.tup [.str "lone"])) ld (.dK [])) lo (.lst (oddItems l1 l2 ld))) l2 = some (.tup [.str "lone"]) := sl4 _ _ (sl3 _ _ upd_same)
          have e3 : (upd (upd (upd (upd Hx l1 (.lst [.str "lone"])) l2 (.tup [.str "lone"])) ld (.dK [])) lo (.lst (oddItems l1 l2 ld))) ld = some (.dK []) := sl4 _ _ upd_same
          have e4 : (upd (upd (upd (upd Hx l1 (.lst [.str "lone"])) l2 (.tup [.str "lone"])) ld (.dK [])) lo (.lst (oddItems l1 l2 ld))) lo = some (.lst (oddItems l1 l2 ld)) := upd_same
          have ty := tx.trans (((sl1.trans sl2).trans sl3).trans sl4)
          refine at_heap (φ := fun Hy => Same HA Hy ∧ Hy l1 = some (.lst [.str "lone"]) ∧ Hy l2 = some (.tup [.str "lone"]) ∧ Hy ld = some (.dK []) ∧ Hy lo = some (.lst (oddItems l1 l2 ld))) ⟨ty, e1, e2, e3, e4⟩ ?_
          clear e1 e2 e3 e4 ty
          rintro Hy ⟨ty, e1, e2, e3, e4⟩
          refine ⟨lo, rfl, ⟨_, .inl (.inl e4)⟩, ?_⟩
          refine for_it (walk_list (xs := oddItems l1 l2 ld)) (fun i σ Hz => ∃ v11 v12 : Option V, σ = [some (.ref a), some (.ref S), v2, some (.ref b), some (.ref c), some (.ref g), some (.ref o), some (.ref u), some (.ref e), v9, some (.ref D), v11, v12, v13] ∧ Same Hy Hz) ⟨v11, v12, rfl, Same.refl Hy⟩ (fun i σ Hz _ ⟨_, _, _, s⟩ => .inl (.inl (s _ _ e4))) ?_ ?_
          · rintro i x σ Hz' Hz hi ⟨v11, v12, rfl, sz⟩ ⟨rfl, hx⟩
            have tz := ty.trans sz
            obtain ⟨dd, hod, hwd⟩ := odd_items hB (sz _ _ e1) (sz _ _ e2) (sz _ _ e3) hx
            refine set_go ?_
            refine ⟨(by show 2 ≤ sizeLine; decide), fun wl hwl => ?_⟩
            have swl := same_new (o := .lst [V.int 2, V.int 3]) hwl
            refine ⟨wl, rfl, ⟨_, .inl (.inl upd_same)⟩, fun D1 hD1 => ?_⟩
            refine lc_news (walk_list (xs := [V.int 2, V.int 3])) [V.int 2, V.int 3] [(2 : Int), 3] (fun _ => some [V.str "unknown", x]) rfl (fun i H x H' hi hy => hy) (by decide) hD1 (fun H' s => .inl (.inl (s _ _ upd_same))) (fun j y k Hj Yes No hj hy hk sj yes no => ?_) (fun Hj ys sj hj ht => ?_)
            · obtain ⟨rfl, hk'⟩ : y = .int k ∧ (k = 2 ∨ k = 3) := by
                have e : ([(2 : Int), 3].map V.int)[j]? = some y := hy
                rw [List.getElem?_map, hk] at e
                cases e
                refine ⟨rfl, ?_⟩
                have := List.mem_of_getElem? hk
                simpa using this
              have tj := tz.trans (swl.trans sj)
              refine ⟨rfl, ?_⟩
              walk_at "ls"
              exact ⟨o, k, x, B, ck, rfl, BookS.same ko tj, fnB, hckm, by omega, .inr ⟨dd, hk', hod.same (swl.trans sj), hwd, fun H' t s' ht => yes _ _ _ rfl s' ⟨t, rfl, ht⟩⟩⟩
            have tj := tz.trans (swl.trans sj)
            walk_at "ls"
            refine ⟨(by show 2 ≤ sizeLine; decide), fun t5 ht5 => ⟨(by show 1 ≤ sizeLine; decide), fun l5 hl5 => ?_⟩⟩
            have s5 := same_new (o := .tup [V.str "unknown", x]) ht5
            have s6 := same_new (o := .lst [.ref t5]) hl5
            refine ⟨l5, 2, _, rfl, rfl, upd_same, by decide, by decide, (by show 1 * 2 ≤ sizeLine; decide), fun p5 hp5 => ?_⟩
            have s7 := same_new (o := .lst [.ref t5, .ref t5]) hp5
            have s57 := (s5.trans s6).trans s7
            have g5 := s7 _ _ (s6 _ _ (upd_same (H := Hj) (a := t5) (o := .tup [V.str "unknown", x])))
            have hdr : ∀ {H' : Hp} {t : Addr}, Same (upd (upd (upd Hj t5 (.tup [V.str "unknown", x])) l5 (.lst [.ref t5])) p5 (.lst [.ref t5, .ref t5])) H' → H' t = some (.tup [V.str "unknown", x]) → DR H' (.ref t) (.tuple [.str "unknown", dd]) := fun {H' t} sh ht' => .tup ht' (.cons (.str _) (.cons (hod.same ((swl.trans sj).trans (s57.trans sh))).dr .nil))
            obtain ⟨ta, tb, rfl, hta, htb⟩ : ∃ ta tb, ys = [V.ref ta, V.ref tb] ∧ Hj ta = some (.tup [V.str "unknown", x]) ∧ Hj tb = some (.tup [V.str "unknown", x]) := by
              have ht : TupsAt Hj ys [[V.str "unknown", x], [V.str "unknown", x]] := ht
              cases ht with
              | cons a r =>
                cases r with
                | cons b r2 =>
                  cases r2
                  obtain ⟨ta, rfl, h1⟩ := a
                  obtain ⟨tb, rfl, h2⟩ := b
                  exact ⟨ta, tb, rfl, h1, h2⟩
            have okd : DK 3 1500 (.list [.tuple [.str "unknown", dd], .tuple [.str "unknown", dd]]) := (DK.list (n := 2) (k := 2) (m := 500) (fun d hd => by
              simp only [List.mem_cons, List.not_mem_nil, or_false, or_self] at hd
              subst hd
              exact (DK.tuple (n := 2) (k := 1) (m := 200) (fun y hy => by
                simp only [List.mem_cons, List.not_mem_nil, or_false] at hy
                rcases hy with rfl | rfl
                · exact (DOk.str (m := 200) (show okB 200 "unknown" = true by decide +kernel)).dk.mono (by decide) (by decide)
                · exact hod.dk.mono (by decide) (by decide)) (Nat.le_refl _)).mono (by decide) (by decide)) (Nat.le_refl _)).mono (by decide) (by decide)
            refine ⟨D1, p5, .list [.tuple [.str "unknown", dd], .tuple [.str "unknown", dd]], rfl, .lst (s57 _ _ hj) (.cons (hdr (Same.refl _) (s57 _ _ hta)) (.cons (hdr (Same.refl _) (s57 _ _ htb)) .nil)), .lst upd_same (.cons (hdr (Same.refl _) g5) (.cons (hdr (Same.refl _) g5) .nil)), okd.fits (by decide) (by decide), ?_⟩
            refine ⟨_, rfl, iteF ?_⟩

            exact ⟨_, _, rfl, ((sz.trans swl).trans sj).trans s57⟩
          · rintro σ Hz ⟨v11, v12, rfl, sz⟩
            have tz := ty.trans sz
            refine seq_go ?_
            refine ⟨(by show 2 ≤ sizeLine; decide), fun wl hwl => ?_⟩
            have swl := same_new (o := .lst [V.int 0, V.int 1]) hwl
            refine ⟨wl, rfl, ⟨_, .inl (.inl upd_same)⟩, fun D1 hD1 => ?_⟩
            refine lc_news (walk_list (xs := [V.int 0, V.int 1])) [V.int 0, V.int 1] [(0 : Int), 1] (fun _ => some [V.str "unlike"]) rfl (fun i H x H' hi hy => hy) (by decide) hD1 (fun H' s => .inl (.inl (s _ _ upd_same))) (fun j y k Hj Yes No hj hy hk sj yes no => ?_) (fun Hj ys sj hj ht => ?_)
            · obtain ⟨rfl, hk'⟩ : y = .int k ∧ (k = 0 ∨ k = 1) := by
                have e : ([(0 : Int), 1].map V.int)[j]? = some y := hy
                rw [List.getElem?_map, hk] at e
                cases e
                refine ⟨rfl, ?_⟩
                have := List.mem_of_getElem? hk
                simpa using this
              have tj := tz.trans (swl.trans sj)
              refine ⟨rfl, ?_⟩
              walk_at "ls"
              exact ⟨o, k, .ref e, B, ck, rfl, BookS.same ko tj, fnB, hckm, by omega, .inl ⟨e, B', ek, rfl, hk', BookS.same ke tj, fnB', hekm, lek, hne, fun H' t s' ht => yes _ _ _ rfl s' ⟨t, rfl, ht⟩⟩⟩
            have tj := tz.trans (swl.trans sj)
            walk_at "ls"
            refine ⟨(by show 1 ≤ sizeLine; decide), fun t5 ht5 => ⟨(by show 1 ≤ sizeLine; decide), fun l5 hl5 => ?_⟩⟩
            have s5 := same_new (o := .tup [V.str "unlike"]) ht5
            have s6 := same_new (o := .lst [.ref t5]) hl5
            refine ⟨l5, 2, _, rfl, rfl, upd_same, by decide, by decide, (by show 1 * 2 ≤ sizeLine; decide), fun p5 hp5 => ?_⟩
            have s7 := same_new (o := .lst [.ref t5, .ref t5]) hp5
            have s57 := (s5.trans s6).trans s7
            have g5 := s7 _ _ (s6 _ _ (upd_same (H := Hj) (a := t5) (o := .tup [V.str "unlike"])))
            have hdr : ∀ {H' : Hp} {t : Addr}, Same (upd (upd (upd Hj t5 (.tup [V.str "unlike"])) l5 (.lst [.ref t5])) p5 (.lst [.ref t5, .ref t5])) H' → H' t = some (.tup [V.str "unlike"]) → DR H' (.ref t) (.tuple [.str "unlike"]) := fun {H' t} sh ht' => .tup ht' (.cons (.str _) .nil)
            obtain ⟨ta, tb, rfl, hta, htb⟩ : ∃ ta tb, ys = [V.ref ta, V.ref tb] ∧ Hj ta = some (.tup [V.str "unlike"]) ∧ Hj tb = some (.tup [V.str "unlike"]) := by
              have ht : TupsAt Hj ys [[V.str "unlike"], [V.str "unlike"]] := ht
              cases ht with
              | cons a r =>
                cases r with
                | cons b r2 =>
                  cases r2
                  obtain ⟨ta, rfl, h1⟩ := a
                  obtain ⟨tb, rfl, h2⟩ := b
                  exact ⟨ta, tb, rfl, h1, h2⟩
            have okd : DK 3 1500 (.list [.tuple [.str "unlike"], .tuple [.str "unlike"]]) := (DK.list (n := 2) (k := 2) (m := 500) (fun d hd => by
              simp only [List.mem_cons, List.not_mem_nil, or_false, or_self] at hd
              subst hd
              exact (DK.tuple (n := 1) (k := 1) (m := 200) (fun y hy => by
                rw [List.mem_singleton.mp hy]
                exact (DOk.str (m := 200) (show okB 200 "unlike" = true by decide +kernel)).dk.mono (by decide) (by decide)) (Nat.le_refl _)).mono (by decide) (by decide)) (Nat.le_refl _)).mono (by decide) (by decide)
            refine ⟨D1, p5, .list [.tuple [.str "unlike"], .tuple [.str "unlike"]], rfl, .lst (s57 _ _ hj) (.cons (hdr (Same.refl _) (s57 _ _ hta)) (.cons (hdr (Same.refl _) (s57 _ _ htb)) .nil)), .lst upd_same (.cons (hdr (Same.refl _) g5) (.cons (hdr (Same.refl _) g5) .nil)), okd.fits (by decide) (by decide), ?_⟩
            refine ⟨_, rfl, iteF ?_⟩

            have tw := tj.trans s57
            refine seq_go ?_
            walk_at "ls"
            refine ⟨b, _, rfl, dg_checks (tw _ _ qb), ?_⟩
            walk_at "ls"
            refine ⟨o, u, qe, c, B, B, ck, cl, ck, cl, by rw [decide_eq_true (rfl : B = B)]; rfl, BookS.same ko tw, BookS.same ku tw, hB.fine, hB.fine, by omega, okck, okcl, tw _ _ q5, tw _ _ kc, fun _ => ⟨rfl, rfl⟩, fun HJ sJ => ?_⟩
            have tJ := tw.trans sJ
            refine ⟨_, rfl, iteF ?_⟩
            walk_at "ls"
            refine ⟨b, _, rfl, dg_checks (tJ _ _ qb), ?_⟩
            walk_at "ls"
            refine ⟨u, o, c, qe, B, B, cl, ck, cl, ck, by rw [decide_eq_true (rfl : B = B)]; rfl, BookS.same ku tJ, BookS.same ko tJ, hB.fine, hB.fine, by omega, okcl, okck, tJ _ _ kc, tJ _ _ q5, fun _ => ⟨rfl, rfl⟩, fun HK sK => ?_⟩
            have tK := tJ.trans sK
            refine ⟨_, rfl, iteF ?_⟩
            walk_at "ls"
            refine ⟨Nat.zero_le _, fun la hla => ⟨Nat.zero_le _, fun lb hlb => ?_⟩⟩
            have sl1 := same_new (o := .lst []) hla
            have sl2 := same_new (o := .lst []) hlb
            have tL := tK.trans (sl1.trans sl2)
            refine ⟨o, e, la, lb, B, B', ck, ek, [], [], by rw [decide_eq_false hne]; rfl, BookS.same ko tL, BookS.same ke tL, hB.fine, fnB', by omega, okck, okek, sl2 _ _ upd_same, upd_same, fun h => absurd h hne, fun HM sM => ?_⟩
            have tM := tL.trans sM
            refine ⟨_, rfl, iteF ?_⟩
            walk_at "ls"
            refine ⟨Nat.zero_le _, fun lc hlc => ⟨Nat.zero_le _, fun ld' hld' => ?_⟩⟩
            have sl3 := same_new (o := .lst []) hlc
            have sl4 := same_new (o := .lst []) hld'
            have tN := tM.trans (sl3.trans sl4)
            refine ⟨e, o, lc, ld', B', B, ek, ck, [], [], by rw [decide_eq_false (Ne.symm hne)]; rfl, BookS.same ke tN, BookS.same ko tN, fnB', hB.fine, by omega, okek, okck, sl4 _ _ upd_same, upd_same, fun h => absurd h.symm hne, fun HO sO => ?_⟩
            have tO := tN.trans sO
            refine ⟨_, rfl, iteF ?_⟩
            walk_at "ls"
            refine ⟨o, _, _, _, rfl, tO _ _ io, .base (.int 5), nf_int, ?_⟩
            refine ⟨o, .int 5, B, ck, rfl, BookS.same ko tO, hB.fine, fun z hz => okB_strOk (okck z hz), .inl ⟨⟨_, .base (.int 5), kt_int⟩, ?_⟩⟩
            refine ⟨_, rfl, ?_⟩
            refine ⟨_, rfl, iteF ?_⟩
            walk_at "ls"
            refine ⟨o, dxo, _, rfl, tO _ _ io, bookF_no (by decide +kernel) (by decide +kernel) (by decide +kernel) (by decide +kernel), ?_⟩
            refine ⟨o, B, ck, rfl, BookS.same ko tO, fun lq hlq => ?_⟩
            have tP := tO.trans (same_new (o := .lst (ck.map V.str)) hlq)
            refine ⟨o, _, _, _, rfl, tP _ _ io, .base (.lst upd_same), nf_list, ?_⟩
            refine ⟨o, .ref lq, B, ck, rfl, BookS.same ko tP, hB.fine, fun z hz => okB_strOk (okck z hz), .inl ⟨⟨_, .base (.lst upd_same), kt_list⟩, ?_⟩⟩
            refine ⟨_, rfl, ?_⟩
            refine ⟨_, rfl, iteF ?_⟩
            walk_at "ls"
            refine ⟨b, _, rfl, dg_checks (tP _ _ qb), ?_⟩
            refine ⟨S, L, o, b, qe, B, ck, ck, ck, rfl, BookS.same ko tP, kb.same tP, hB, tP _ _ q5, (sub_filter hck nd).symm, fun HQ sQ => ?_⟩
            have tQ := tP.trans sQ
            refine ⟨_, rfl, iteF ?_⟩
            walk_at "ls"
            refine ⟨S, L, u, b, c, B, cl, ck, cl, rfl, BookS.same ku tQ, kb.same tQ, hB, tQ _ _ kc, (sub_filter hcl nd).symm, fun HR sR => ?_⟩
            have tR := tQ.trans sR
            refine ⟨_, rfl, iteF ?_⟩
            walk_at "ls"
            refine ⟨S, L, b, B, ck, rfl, kb.same tR, hB, hckm, by omega, fun HS o9 ho9 sS => ?_⟩
            rw [sub_filter hck nd] at ho9
            have tS := tR.trans sS
            obtain ⟨dx9, k9, c9, m9, x9, i9⟩ := ho9.ins
            refine ⟨o, _, _, o9, _, _, rfl, rfl, tS _ _ io, i9, ?_⟩
            refine ⟨o, .ref o9, B, ck, rfl, BookS.same ko tS, hB.fine, fun z hz => okB_strOk (okck z hz), .inr ⟨o9, B, ck, rfl, ho9, hB.fine, fun z hz => okB_strOk (okck z hz), ?_⟩⟩
            rw [decide_eq_true (rfl : B = B), decide_eq_true (rfl : ck = ck)]
            refine ⟨_, rfl, ?_⟩
            refine ⟨_, rfl, iteF ?_⟩
            exact ⟨_, _, _, _, _, _, _, _, _, _, _, _, rfl, (kst.keep tS).mono (by omega)⟩
    · rintro σ H2 ⟨v2, v3, v4, v5, v6, v7, v8, v9, v10, v11, v12, v13, rfl, st2⟩
      walk_at "ls"
      exact q H2
end
end Ls
namespace Ls
open PySem PySem.Spec PyProof.Rows L2 NdefX
/-! ### what the top has written -/
set_option maxHeartbeats 16000000 in
theorem all_mk {l : PySem.W.OpenLaw} {w : World} {K : PySem.W.Frag} {h : Heap} {mg : Str → Option Value} {fa : Addr} (X : K.In h) (G : h.Ns mainGlobals mg) (hfa : mg "law" = some (.ref fa))
    {f0 : Addr} {oc0 kV0 dc0 pm0 cd0 ct0 : Value} {od0 an0 : Option Addr} {sl0 : Array (Option Value)}
    {f1 : Addr} {oc1 kV1 dc1 pm1 cd1 ct1 : Value} {od1 an1 : Option Addr} {sl1 : Array (Option Value)}
    {f2 : Addr} {oc2 kV2 dc2 pm2 cd2 ct2 : Value} {od2 an2 : Option Addr} {sl2 : Array (Option Value)}
    {f3 : Addr} {oc3 kV3 dc3 pm3 cd3 ct3 : Value} {od3 an3 : Option Addr} {sl3 : Array (Option Value)}
    {f4 : Addr} {oc4 kV4 dc4 pm4 cd4 ct4 : Value} {od4 an4 : Option Addr} {sl4 : Array (Option Value)}
    {f5 : Addr} {oc5 kV5 dc5 pm5 cd5 ct5 : Value} {od5 an5 : Option Addr} {sl5 : Array (Option Value)}
    {f6 : Addr} {oc6 kV6 dc6 pm6 cd6 ct6 : Value} {od6 an6 : Option Addr} {sl6 : Array (Option Value)}
    {f7 : Addr} {oc7 kV7 dc7 pm7 cd7 ct7 : Value} {od7 an7 : Option Addr} {sl7 : Array (Option Value)}
    {f8 : Addr} {oc8 kV8 dc8 pm8 cd8 ct8 : Value} {od8 an8 : Option Addr} {sl8 : Array (Option Value)}
    {f9 : Addr} {oc9 kV9 dc9 pm9 cd9 ct9 : Value} {od9 an9 : Option Addr} {sl9 : Array (Option Value)}
    {f10 : Addr} {oc10 kV10 dc10 pm10 cd10 ct10 : Value} {od10 an10 : Option Addr} {sl10 : Array (Option Value)}
    {f11 : Addr} {oc11 kV11 dc11 pm11 cd11 ct11 : Value} {od11 an11 : Option Addr} {sl11 : Array (Option Value)}
    {f12 : Addr} {oc12 kV12 dc12 pm12 cd12 ct12 : Value} {od12 an12 : Option Addr} {sl12 : Array (Option Value)}
    {f13 : Addr} {oc13 kV13 dc13 pm13 cd13 ct13 : Value} {od13 an13 : Option Addr} {sl13 : Array (Option Value)}
    {f14 : Addr} {oc14 kV14 dc14 pm14 cd14 ct14 : Value} {od14 an14 : Option Addr} {sl14 : Array (Option Value)}
    {f15 : Addr} {oc15 kV15 dc15 pm15 cd15 ct15 : Value} {od15 an15 : Option Addr} {sl15 : Array (Option Value)}
    {f16 : Addr} {oc16 kV16 dc16 pm16 cd16 ct16 : Value} {od16 an16 : Option Addr} {sl16 : Array (Option Value)}
    {f17 : Addr} {oc17 kV17 dc17 pm17 cd17 ct17 : Value} {od17 an17 : Option Addr} {sl17 : Array (Option Value)}
    {f18 : Addr} {oc18 kV18 dc18 pm18 cd18 ct18 : Value} {od18 an18 : Option Addr} {sl18 : Array (Option Value)}
    {f19 : Addr} {oc19 kV19 dc19 pm19 cd19 ct19 : Value} {od19 an19 : Option Addr} {sl19 : Array (Option Value)}
    {f20 : Addr} {oc20 kV20 dc20 pm20 cd20 ct20 : Value} {od20 an20 : Option Addr} {sl20 : Array (Option Value)}
    {f21 : Addr} {oc21 kV21 dc21 pm21 cd21 ct21 : Value} {od21 an21 : Option Addr} {sl21 : Array (Option Value)}
    {f22 : Addr} {oc22 kV22 dc22 pm22 cd22 ct22 : Value} {od22 an22 : Option Addr} {sl22 : Array (Option Value)}
    {C_Book : Addr}
    {f23 : Addr} {oc23 kV23 dc23 pm23 cd23 ct23 : Value} {od23 an23 : Option Addr} {sl23 : Array (Option Value)}
    {T23 : Addr} {nT23 : Nat} {dv23_0 dv23_1 : Value}
    {de23_0 : Addr}
    {de23_1 : Addr}
    {f24 : Addr} {oc24 kV24 dc24 pm24 cd24 ct24 : Value} {od24 an24 : Option Addr} {sl24 : Array (Option Value)}
    {f25 : Addr} {oc25 kV25 dc25 pm25 cd25 ct25 : Value} {od25 an25 : Option Addr} {sl25 : Array (Option Value)}
    {f26 : Addr} {oc26 kV26 dc26 pm26 cd26 ct26 : Value} {od26 an26 : Option Addr} {sl26 : Array (Option Value)}
    {f27 : Addr} {oc27 kV27 dc27 pm27 cd27 ct27 : Value} {od27 an27 : Option Addr} {sl27 : Array (Option Value)}
    {f28 : Addr} {oc28 kV28 dc28 pm28 cd28 ct28 : Value} {od28 an28 : Option Addr} {sl28 : Array (Option Value)}
    {f29 : Addr} {oc29 kV29 dc29 pm29 cd29 ct29 : Value} {od29 an29 : Option Addr} {sl29 : Array (Option Value)}
    {f30 : Addr} {oc30 kV30 dc30 pm30 cd30 ct30 : Value} {od30 an30 : Option Addr} {sl30 : Array (Option Value)}
    {f31 : Addr} {oc31 kV31 dc31 pm31 cd31 ct31 : Value} {od31 an31 : Option Addr} {sl31 : Array (Option Value)}
    {f32 : Addr} {oc32 kV32 dc32 pm32 cd32 ct32 : Value} {od32 an32 : Option Addr} {sl32 : Array (Option Value)}
    {f33 : Addr} {oc33 kV33 dc33 pm33 cd33 ct33 : Value} {od33 an33 : Option Addr} {sl33 : Array (Option Value)}
    {f34 : Addr} {oc34 kV34 dc34 pm34 cd34 ct34 : Value} {od34 an34 : Option Addr} {sl34 : Array (Option Value)}
    {f35 : Addr} {oc35 kV35 dc35 pm35 cd35 ct35 : Value} {od35 an35 : Option Addr} {sl35 : Array (Option Value)}
    {f36 : Addr} {oc36 kV36 dc36 pm36 cd36 ct36 : Value} {od36 an36 : Option Addr} {sl36 : Array (Option Value)}
    {C_BadName fIBadName ccBadName cdaBadName : Addr} {ocBadName dcBadName pmBadName ctBadName : Value} {odBadName : Option Addr} {slBadName : Array (Option Value)}
    {C_NameInUse fINameInUse ccNameInUse cdaNameInUse : Addr} {ocNameInUse dcNameInUse pmNameInUse ctNameInUse : Value} {odNameInUse : Option Addr} {slNameInUse : Array (Option Value)}
    {C_UnknownKind fIUnknownKind ccUnknownKind cdaUnknownKind : Addr} {ocUnknownKind dcUnknownKind pmUnknownKind ctUnknownKind : Value} {odUnknownKind : Option Addr} {slUnknownKind : Array (Option Value)}
    {C_BadRule fIBadRule ccBadRule cdaBadRule : Addr} {ocBadRule dcBadRule pmBadRule ctBadRule : Value} {odBadRule : Option Addr} {slBadRule : Array (Option Value)}
    {C_UnknownCheck fIUnknownCheck ccUnknownCheck cdaUnknownCheck : Addr} {ocUnknownCheck dcUnknownCheck pmUnknownCheck ctUnknownCheck : Value} {odUnknownCheck : Option Addr} {slUnknownCheck : Array (Option Value)}
    {C_UnlikeBooks fIUnlikeBooks ccUnlikeBooks cdaUnlikeBooks : Addr} {ocUnlikeBooks dcUnlikeBooks pmUnlikeBooks ctUnlikeBooks : Value} {odUnlikeBooks : Option Addr} {slUnlikeBooks : Array (Option Value)}
    {tk_STRIKE : Tok}
    {tk_LETTERS : Tok}
    {tk_LONGEST_NAME : Tok}
    {ad_RULES : Addr} {mm_RULES : Nat} {tk_RULES0 tk_RULES1 : Tok}
    {ad_COLUMN_CHECKS : Addr} {mm_COLUMN_CHECKS : Nat} {tk_COLUMN_CHECKS0 tk_COLUMN_CHECKS1 tk_COLUMN_CHECKS2 tk_COLUMN_CHECKS3 tk_COLUMN_CHECKS4 : Tok}
    {ad_KIND_CHECKS : Addr} {mm_KIND_CHECKS : Nat} {tk_KIND_CHECKS0 tk_KIND_CHECKS1 tk_KIND_CHECKS2 : Tok}
    {ad_BOOK_CHECKS : Addr} {mm_BOOK_CHECKS : Nat} {tk_BOOK_CHECKS0 tk_BOOK_CHECKS1 : Tok}
    (a0 : PySem.W.nsIn K mainGlobals "_law_draw" = some (some (.ref f0)))
    (l0 : K.lookup f0 = some ⟨oc0, od0, .func (PySem.W.fnOf "_law_draw" "_law_draw" (defArgs s__law_draw) (defBody s__law_draw) (defScope s__law_draw) .none kV0 dc0 pm0 an0 cd0 ct0), sl0⟩)
    (c0 : PySem.W.codeIn K cd0 "_law_draw" = true)
    (k0 : PySem.W.keepIn K (.ref f0) = true)
    (a1 : PySem.W.nsIn K mainGlobals "_law_pick" = some (some (.ref f1)))
    (l1 : K.lookup f1 = some ⟨oc1, od1, .func (PySem.W.fnOf "_law_pick" "_law_pick" (defArgs s__law_pick) (defBody s__law_pick) (defScope s__law_pick) .none kV1 dc1 pm1 an1 cd1 ct1), sl1⟩)
    (c1 : PySem.W.codeIn K cd1 "_law_pick" = true)
    (k1 : PySem.W.keepIn K (.ref f1) = true)
    (a2 : PySem.W.nsIn K mainGlobals "_law_same" = some (some (.ref f2)))
    (l2 : K.lookup f2 = some ⟨oc2, od2, .func (PySem.W.fnOf "_law_same" "_law_same" (defArgs s__law_same) (defBody s__law_same) (defScope s__law_same) .none kV2 dc2 pm2 an2 cd2 ct2), sl2⟩)
    (c2 : PySem.W.codeIn K cd2 "_law_same" = true)
    (k2 : PySem.W.keepIn K (.ref f2) = true)
    (a3 : PySem.W.nsIn K mainGlobals "_law_fresh" = some (some (.ref f3)))
    (l3 : K.lookup f3 = some ⟨oc3, od3, .func (PySem.W.fnOf "_law_fresh" "_law_fresh" (defArgs s__law_fresh) (defBody s__law_fresh) (defScope s__law_fresh) .none kV3 dc3 pm3 an3 cd3 ct3), sl3⟩)
    (c3 : PySem.W.codeIn K cd3 "_law_fresh" = true)
    (k3 : PySem.W.keepIn K (.ref f3) = true)
    (a4 : PySem.W.nsIn K mainGlobals "_law_names" = some (some (.ref f4)))
    (l4 : K.lookup f4 = some ⟨oc4, od4, .func (PySem.W.fnOf "_law_names" "_law_names" (defArgs s__law_names) (defBody s__law_names) (defScope s__law_names) .none kV4 dc4 pm4 an4 cd4 ct4), sl4⟩)
    (c4 : PySem.W.codeIn K cd4 "_law_names" = true)
    (k4 : PySem.W.keepIn K (.ref f4) = true)
    (a5 : PySem.W.nsIn K mainGlobals "_law_shape" = some (some (.ref f5)))
    (l5 : K.lookup f5 = some ⟨oc5, od5, .func (PySem.W.fnOf "_law_shape" "_law_shape" (defArgs s__law_shape) (defBody s__law_shape) (defScope s__law_shape) .none kV5 dc5 pm5 an5 cd5 ct5), sl5⟩)
    (c5 : PySem.W.codeIn K cd5 "_law_shape" = true)
    (k5 : PySem.W.keepIn K (.ref f5) = true)
    (a6 : PySem.W.nsIn K mainGlobals "_law_all_checks" = some (some (.ref f6)))
    (l6 : K.lookup f6 = some ⟨oc6, od6, .func (PySem.W.fnOf "_law_all_checks" "_law_all_checks" (defArgs s__law_all_checks) (defBody s__law_all_checks) (defScope s__law_all_checks) .none kV6 dc6 pm6 an6 cd6 ct6), sl6⟩)
    (c6 : PySem.W.codeIn K cd6 "_law_all_checks" = true)
    (k6 : PySem.W.keepIn K (.ref f6) = true)
    (a7 : PySem.W.nsIn K mainGlobals "_law_checked" = some (some (.ref f7)))
    (l7 : K.lookup f7 = some ⟨oc7, od7, .func (PySem.W.fnOf "_law_checked" "_law_checked" (defArgs s__law_checked) (defBody s__law_checked) (defScope s__law_checked) .none kV7 dc7 pm7 an7 cd7 ct7), sl7⟩)
    (c7 : PySem.W.codeIn K cd7 "_law_checked" = true)
    (k7 : PySem.W.keepIn K (.ref f7) = true)
    (a8 : PySem.W.nsIn K mainGlobals "_law_rules" = some (some (.ref f8)))
    (l8 : K.lookup f8 = some ⟨oc8, od8, .func (PySem.W.fnOf "_law_rules" "_law_rules" (defArgs s__law_rules) (defBody s__law_rules) (defScope s__law_rules) .none kV8 dc8 pm8 an8 cd8 ct8), sl8⟩)
    (c8 : PySem.W.codeIn K cd8 "_law_rules" = true)
    (k8 : PySem.W.keepIn K (.ref f8) = true)
    (a9 : PySem.W.nsIn K mainGlobals "_law_made" = some (some (.ref f9)))
    (l9 : K.lookup f9 = some ⟨oc9, od9, .func (PySem.W.fnOf "_law_made" "_law_made" (defArgs s__law_made) (defBody s__law_made) (defScope s__law_made) .none kV9 dc9 pm9 an9 cd9 ct9), sl9⟩)
    (c9 : PySem.W.codeIn K cd9 "_law_made" = true)
    (k9 : PySem.W.keepIn K (.ref f9) = true)
    (a10 : PySem.W.nsIn K mainGlobals "_law_joined" = some (some (.ref f10)))
    (l10 : K.lookup f10 = some ⟨oc10, od10, .func (PySem.W.fnOf "_law_joined" "_law_joined" (defArgs s__law_joined) (defBody s__law_joined) (defScope s__law_joined) .none kV10 dc10 pm10 an10 cd10 ct10), sl10⟩)
    (c10 : PySem.W.codeIn K cd10 "_law_joined" = true)
    (k10 : PySem.W.keepIn K (.ref f10) = true)
    (a11 : PySem.W.nsIn K mainGlobals "_law_is" = some (some (.ref f11)))
    (l11 : K.lookup f11 = some ⟨oc11, od11, .func (PySem.W.fnOf "_law_is" "_law_is" (defArgs s__law_is) (defBody s__law_is) (defScope s__law_is) .none kV11 dc11 pm11 an11 cd11 ct11), sl11⟩)
    (c11 : PySem.W.codeIn K cd11 "_law_is" = true)
    (k11 : PySem.W.keepIn K (.ref f11) = true)
    (a12 : PySem.W.nsIn K mainGlobals "_law_varied" = some (some (.ref f12)))
    (l12 : K.lookup f12 = some ⟨oc12, od12, .func (PySem.W.fnOf "_law_varied" "_law_varied" (defArgs s__law_varied) (defBody s__law_varied) (defScope s__law_varied) .none kV12 dc12 pm12 an12 cd12 ct12), sl12⟩)
    (c12 : PySem.W.codeIn K cd12 "_law_varied" = true)
    (k12 : PySem.W.keepIn K (.ref f12) = true)
    (a13 : PySem.W.nsIn K mainGlobals "_law_compared" = some (some (.ref f13)))
    (l13 : K.lookup f13 = some ⟨oc13, od13, .func (PySem.W.fnOf "_law_compared" "_law_compared" (defArgs s__law_compared) (defBody s__law_compared) (defScope s__law_compared) .none kV13 dc13 pm13 an13 cd13 ct13), sl13⟩)
    (c13 : PySem.W.codeIn K cd13 "_law_compared" = true)
    (k13 : PySem.W.keepIn K (.ref f13) = true)
    (a14 : PySem.W.nsIn K mainGlobals "law" = some (some (.ref f14)))
    (l14 : K.lookup f14 = some ⟨oc14, od14, .func (PySem.W.fnOf "law" "law" (defArgs s_law) (defBody s_law) (defScope s_law) .none kV14 dc14 pm14 an14 cd14 ct14), sl14⟩)
    (c14 : PySem.W.codeIn K cd14 "law" = true)
    (k14 : PySem.W.keepIn K (.ref f14) = true)
    (a15 : PySem.W.nsIn K mainGlobals "is_name" = some (some (.ref f15)))
    (l15 : K.lookup f15 = some ⟨oc15, od15, .func (PySem.W.fnOf "is_name" "is_name" (defArgs s_is_name) (defBody s_is_name) (defScope s_is_name) .none kV15 dc15 pm15 an15 cd15 ct15), sl15⟩)
    (c15 : PySem.W.codeIn K cd15 "is_name" = true)
    (k15 : PySem.W.keepIn K (.ref f15) = true)
    (a16 : PySem.W.nsIn K mainGlobals "is_word_of" = some (some (.ref f16)))
    (l16 : K.lookup f16 = some ⟨oc16, od16, .func (PySem.W.fnOf "is_word_of" "is_word_of" (defArgs s_is_word_of) (defBody s_is_word_of) (defScope s_is_word_of) .none kV16 dc16 pm16 an16 cd16 ct16), sl16⟩)
    (c16 : PySem.W.codeIn K cd16 "is_word_of" = true)
    (k16 : PySem.W.keepIn K (.ref f16) = true)
    (a17 : PySem.W.nsIn K mainGlobals "_want_free_name" = some (some (.ref f17)))
    (l17 : K.lookup f17 = some ⟨oc17, od17, .func (PySem.W.fnOf "_want_free_name" "_want_free_name" (defArgs s__want_free_name) (defBody s__want_free_name) (defScope s__want_free_name) .none kV17 dc17 pm17 an17 cd17 ct17), sl17⟩)
    (c17 : PySem.W.codeIn K cd17 "_want_free_name" = true)
    (k17 : PySem.W.keepIn K (.ref f17) = true)
    (a18 : PySem.W.nsIn K mainGlobals "_read_kinds" = some (some (.ref f18)))
    (l18 : K.lookup f18 = some ⟨oc18, od18, .func (PySem.W.fnOf "_read_kinds" "_read_kinds" (defArgs s__read_kinds) (defBody s__read_kinds) (defScope s__read_kinds) .none kV18 dc18 pm18 an18 cd18 ct18), sl18⟩)
    (c18 : PySem.W.codeIn K cd18 "_read_kinds" = true)
    (k18 : PySem.W.keepIn K (.ref f18) = true)
    (a19 : PySem.W.nsIn K mainGlobals "_read_columns" = some (some (.ref f19)))
    (l19 : K.lookup f19 = some ⟨oc19, od19, .func (PySem.W.fnOf "_read_columns" "_read_columns" (defArgs s__read_columns) (defBody s__read_columns) (defScope s__read_columns) .none kV19 dc19 pm19 an19 cd19 ct19), sl19⟩)
    (c19 : PySem.W.codeIn K cd19 "_read_columns" = true)
    (k19 : PySem.W.keepIn K (.ref f19) = true)
    (a20 : PySem.W.nsIn K mainGlobals "_menu_of" = some (some (.ref f20)))
    (l20 : K.lookup f20 = some ⟨oc20, od20, .func (PySem.W.fnOf "_menu_of" "_menu_of" (defArgs s__menu_of) (defBody s__menu_of) (defScope s__menu_of) .none kV20 dc20 pm20 an20 cd20 ct20), sl20⟩)
    (c20 : PySem.W.codeIn K cd20 "_menu_of" = true)
    (k20 : PySem.W.keepIn K (.ref f20) = true)
    (a21 : PySem.W.nsIn K mainGlobals "_read_checks" = some (some (.ref f21)))
    (l21 : K.lookup f21 = some ⟨oc21, od21, .func (PySem.W.fnOf "_read_checks" "_read_checks" (defArgs s__read_checks) (defBody s__read_checks) (defScope s__read_checks) .none kV21 dc21 pm21 an21 cd21 ct21), sl21⟩)
    (c21 : PySem.W.codeIn K cd21 "_read_checks" = true)
    (k21 : PySem.W.keepIn K (.ref f21) = true)
    (a22 : PySem.W.nsIn K mainGlobals "want_one_shape" = some (some (.ref f22)))
    (l22 : K.lookup f22 = some ⟨oc22, od22, .func (PySem.W.fnOf "want_one_shape" "want_one_shape" (defArgs s_want_one_shape) (defBody s_want_one_shape) (defScope s_want_one_shape) .none kV22 dc22 pm22 an22 cd22 ct22), sl22⟩)
    (c22 : PySem.W.codeIn K cd22 "want_one_shape" = true)
    (k22 : PySem.W.keepIn K (.ref f22) = true)
    (aC_Book : PySem.W.nsIn K mainGlobals "Book" = some (some (.ref C_Book)))
    (pg_Book : PySem.W.plainGet K C_Book Str.empty = true)
    (hd_Book : PySem.W.hasDictIn K C_Book = true)
    (po_Book : PySem.W.plainOver K C_Book = true)
    (sa_Book : PySem.W.findIn K (.ref C_Book) "__setattr__" = some (some (.builtin "object.__setattr__")))
    (mk_Book : PySem.W.makesIn K C_Book = true)
    (kc_Book : PySem.W.keepIn K (.ref C_Book) = true)
    (n_Book_kinds : PySem.W.findIn K (.ref C_Book) "_kinds" = some none)
    (n_Book_columns : PySem.W.findIn K (.ref C_Book) "_columns" = some none)
    (n_Book_menu : PySem.W.findIn K (.ref C_Book) "_menu" = some none)
    (n_Book_checks : PySem.W.findIn K (.ref C_Book) "_checks" = some none)
    (a23 : PySem.W.findIn K (.ref C_Book) "__init__" = some (some (.ref f23)))
    (i23 : PySem.W.isFn K (.ref f23) = true)
    (l23 : K.lookup f23 = some ⟨oc23, od23, .func (PySem.W.fnOf "__init__" "Book.__init__" (defArgs s_Book_init) (defBody s_Book_init) (defScope s_Book_init) (.ref T23) kV23 dc23 pm23 an23 cd23 ct23), sl23⟩)
    (c23 : PySem.W.codeIn K cd23 "Book.__init__" = true)
    (k23 : PySem.W.keepIn K (.ref f23) = true)
    (lT23 : K.lookup T23 = some { cls := .type "tuple", dict := none, data := .seq #[dv23_0, dv23_1] nT23, slots := #[] })
    (ed23_0 : dv23_0 = .ref de23_0)
    (ed23_1 : dv23_1 = .ref de23_1)
    (a24 : PySem.W.findIn K (.ref C_Book) "kinds" = some (some (.ref f24)))
    (i24 : PySem.W.isFn K (.ref f24) = true)
    (l24 : K.lookup f24 = some ⟨oc24, od24, .func (PySem.W.fnOf "kinds" "Book.kinds" (defArgs s_Book_kinds) (defBody s_Book_kinds) (defScope s_Book_kinds) .none kV24 dc24 pm24 an24 cd24 ct24), sl24⟩)
    (c24 : PySem.W.codeIn K cd24 "Book.kinds" = true)
    (k24 : PySem.W.keepIn K (.ref f24) = true)
    (a25 : PySem.W.findIn K (.ref C_Book) "columns" = some (some (.ref f25)))
    (i25 : PySem.W.isFn K (.ref f25) = true)
    (l25 : K.lookup f25 = some ⟨oc25, od25, .func (PySem.W.fnOf "columns" "Book.columns" (defArgs s_Book_columns) (defBody s_Book_columns) (defScope s_Book_columns) .none kV25 dc25 pm25 an25 cd25 ct25), sl25⟩)
    (c25 : PySem.W.codeIn K cd25 "Book.columns" = true)
    (k25 : PySem.W.keepIn K (.ref f25) = true)
    (a26 : PySem.W.findIn K (.ref C_Book) "checks" = some (some (.ref f26)))
    (i26 : PySem.W.isFn K (.ref f26) = true)
    (l26 : K.lookup f26 = some ⟨oc26, od26, .func (PySem.W.fnOf "checks" "Book.checks" (defArgs s_Book_checks) (defBody s_Book_checks) (defScope s_Book_checks) .none kV26 dc26 pm26 an26 cd26 ct26), sl26⟩)
    (c26 : PySem.W.codeIn K cd26 "Book.checks" = true)
    (k26 : PySem.W.keepIn K (.ref f26) = true)
    (a27 : PySem.W.findIn K (.ref C_Book) "_has_shape_of" = some (some (.ref f27)))
    (i27 : PySem.W.isFn K (.ref f27) = true)
    (l27 : K.lookup f27 = some ⟨oc27, od27, .func (PySem.W.fnOf "_has_shape_of" "Book._has_shape_of" (defArgs s_Book__has_shape_of) (defBody s_Book__has_shape_of) (defScope s_Book__has_shape_of) .none kV27 dc27 pm27 an27 cd27 ct27), sl27⟩)
    (c27 : PySem.W.codeIn K cd27 "Book._has_shape_of" = true)
    (k27 : PySem.W.keepIn K (.ref f27) = true)
    (a28 : PySem.W.findIn K (.ref C_Book) "__eq__" = some (some (.ref f28)))
    (i28 : PySem.W.isFn K (.ref f28) = true)
    (l28 : K.lookup f28 = some ⟨oc28, od28, .func (PySem.W.fnOf "__eq__" "Book.__eq__" (defArgs s_Book_eq) (defBody s_Book_eq) (defScope s_Book_eq) .none kV28 dc28 pm28 an28 cd28 ct28), sl28⟩)
    (c28 : PySem.W.codeIn K cd28 "Book.__eq__" = true)
    (k28 : PySem.W.keepIn K (.ref f28) = true)
    (a29 : PySem.W.findIn K (.ref C_Book) "__le__" = some (some (.ref f29)))
    (i29 : PySem.W.isFn K (.ref f29) = true)
    (l29 : K.lookup f29 = some ⟨oc29, od29, .func (PySem.W.fnOf "__le__" "Book.__le__" (defArgs s_Book_le) (defBody s_Book_le) (defScope s_Book_le) .none kV29 dc29 pm29 an29 cd29 ct29), sl29⟩)
    (c29 : PySem.W.codeIn K cd29 "Book.__le__" = true)
    (k29 : PySem.W.keepIn K (.ref f29) = true)
    (a30 : PySem.W.findIn K (.ref C_Book) "__lt__" = some (some (.ref f30)))
    (i30 : PySem.W.isFn K (.ref f30) = true)
    (l30 : K.lookup f30 = some ⟨oc30, od30, .func (PySem.W.fnOf "__lt__" "Book.__lt__" (defArgs s_Book_lt) (defBody s_Book_lt) (defScope s_Book_lt) .none kV30 dc30 pm30 an30 cd30 ct30), sl30⟩)
    (c30 : PySem.W.codeIn K cd30 "Book.__lt__" = true)
    (k30 : PySem.W.keepIn K (.ref f30) = true)
    (a31 : PySem.W.findIn K (.ref C_Book) "__add__" = some (some (.ref f31)))
    (i31 : PySem.W.isFn K (.ref f31) = true)
    (l31 : K.lookup f31 = some ⟨oc31, od31, .func (PySem.W.fnOf "__add__" "Book.__add__" (defArgs s_Book_add) (defBody s_Book_add) (defScope s_Book_add) .none kV31 dc31 pm31 an31 cd31 ct31), sl31⟩)
    (c31 : PySem.W.codeIn K cd31 "Book.__add__" = true)
    (k31 : PySem.W.keepIn K (.ref f31) = true)
    (a32 : PySem.W.findIn K (.ref C_Book) "__sub__" = some (some (.ref f32)))
    (i32 : PySem.W.isFn K (.ref f32) = true)
    (l32 : K.lookup f32 = some ⟨oc32, od32, .func (PySem.W.fnOf "__sub__" "Book.__sub__" (defArgs s_Book_sub) (defBody s_Book_sub) (defScope s_Book_sub) .none kV32 dc32 pm32 an32 cd32 ct32), sl32⟩)
    (c32 : PySem.W.codeIn K cd32 "Book.__sub__" = true)
    (k32 : PySem.W.keepIn K (.ref f32) = true)
    (a33 : PySem.W.findIn K (.ref C_Book) "__or__" = some (some (.ref f33)))
    (i33 : PySem.W.isFn K (.ref f33) = true)
    (l33 : K.lookup f33 = some ⟨oc33, od33, .func (PySem.W.fnOf "__or__" "Book.__or__" (defArgs s_Book_or) (defBody s_Book_or) (defScope s_Book_or) .none kV33 dc33 pm33 an33 cd33 ct33), sl33⟩)
    (c33 : PySem.W.codeIn K cd33 "Book.__or__" = true)
    (k33 : PySem.W.keepIn K (.ref f33) = true)
    (a34 : PySem.W.findIn K (.ref C_Book) "__and__" = some (some (.ref f34)))
    (i34 : PySem.W.isFn K (.ref f34) = true)
    (l34 : K.lookup f34 = some ⟨oc34, od34, .func (PySem.W.fnOf "__and__" "Book.__and__" (defArgs s_Book_and) (defBody s_Book_and) (defScope s_Book_and) .none kV34 dc34 pm34 an34 cd34 ct34), sl34⟩)
    (c34 : PySem.W.codeIn K cd34 "Book.__and__" = true)
    (k34 : PySem.W.keepIn K (.ref f34) = true)
    (a35 : PySem.W.findIn K (.ref C_Book) "_with_checks" = some (some (.ref f35)))
    (i35 : PySem.W.isFn K (.ref f35) = true)
    (l35 : K.lookup f35 = some ⟨oc35, od35, .func (PySem.W.fnOf "_with_checks" "Book._with_checks" (defArgs s_Book__with_checks) (defBody s_Book__with_checks) (defScope s_Book__with_checks) .none kV35 dc35 pm35 an35 cd35 ct35), sl35⟩)
    (c35 : PySem.W.codeIn K cd35 "Book._with_checks" = true)
    (k35 : PySem.W.keepIn K (.ref f35) = true)
    (a36 : PySem.W.findIn K (.ref C_Book) "_want_check" = some (some (.ref f36)))
    (i36 : PySem.W.isFn K (.ref f36) = true)
    (l36 : K.lookup f36 = some ⟨oc36, od36, .func (PySem.W.fnOf "_want_check" "Book._want_check" (defArgs s_Book__want_check) (defBody s_Book__want_check) (defScope s_Book__want_check) .none kV36 dc36 pm36 an36 cd36 ct36), sl36⟩)
    (c36 : PySem.W.codeIn K cd36 "Book._want_check" = true)
    (k36 : PySem.W.keepIn K (.ref f36) = true)
    (aE_BadName : PySem.W.nsIn K mainGlobals "BadName" = some (some (.ref C_BadName)))
    (iE_BadName : PySem.W.findIn K (.ref C_BadName) "__init__" = some (some (.ref fIBadName)))
    (lE_BadName : K.lookup fIBadName = some ⟨ocBadName, odBadName, .func (PySem.W.fnX "__init__" "BadName.__init__" (defArgs s_BadName_init) (defBody s_BadName_init) (defScope s_BadName_init) [("__class__", ccBadName)] .none .none dcBadName pmBadName none (.ref cdaBadName) ctBadName), slBadName⟩)
    (cE_BadName : PySem.W.codeIn K (.ref cdaBadName) "BadName.__init__" = true)
    (bE_BadName : errB l.prog K C_BadName fIBadName ccBadName cdaBadName ["name"] = true)
    (aE_NameInUse : PySem.W.nsIn K mainGlobals "NameInUse" = some (some (.ref C_NameInUse)))
    (iE_NameInUse : PySem.W.findIn K (.ref C_NameInUse) "__init__" = some (some (.ref fINameInUse)))
    (lE_NameInUse : K.lookup fINameInUse = some ⟨ocNameInUse, odNameInUse, .func (PySem.W.fnX "__init__" "NameInUse.__init__" (defArgs s_NameInUse_init) (defBody s_NameInUse_init) (defScope s_NameInUse_init) [("__class__", ccNameInUse)] .none .none dcNameInUse pmNameInUse none (.ref cdaNameInUse) ctNameInUse), slNameInUse⟩)
    (cE_NameInUse : PySem.W.codeIn K (.ref cdaNameInUse) "NameInUse.__init__" = true)
    (bE_NameInUse : errB l.prog K C_NameInUse fINameInUse ccNameInUse cdaNameInUse ["name"] = true)
    (aE_UnknownKind : PySem.W.nsIn K mainGlobals "UnknownKind" = some (some (.ref C_UnknownKind)))
    (iE_UnknownKind : PySem.W.findIn K (.ref C_UnknownKind) "__init__" = some (some (.ref fIUnknownKind)))
    (lE_UnknownKind : K.lookup fIUnknownKind = some ⟨ocUnknownKind, odUnknownKind, .func (PySem.W.fnX "__init__" "UnknownKind.__init__" (defArgs s_UnknownKind_init) (defBody s_UnknownKind_init) (defScope s_UnknownKind_init) [("__class__", ccUnknownKind)] .none .none dcUnknownKind pmUnknownKind none (.ref cdaUnknownKind) ctUnknownKind), slUnknownKind⟩)
    (cE_UnknownKind : PySem.W.codeIn K (.ref cdaUnknownKind) "UnknownKind.__init__" = true)
    (bE_UnknownKind : errB l.prog K C_UnknownKind fIUnknownKind ccUnknownKind cdaUnknownKind ["kind"] = true)
    (aE_BadRule : PySem.W.nsIn K mainGlobals "BadRule" = some (some (.ref C_BadRule)))
    (iE_BadRule : PySem.W.findIn K (.ref C_BadRule) "__init__" = some (some (.ref fIBadRule)))
    (lE_BadRule : K.lookup fIBadRule = some ⟨ocBadRule, odBadRule, .func (PySem.W.fnX "__init__" "BadRule.__init__" (defArgs s_BadRule_init) (defBody s_BadRule_init) (defScope s_BadRule_init) [("__class__", ccBadRule)] .none .none dcBadRule pmBadRule none (.ref cdaBadRule) ctBadRule), slBadRule⟩)
    (cE_BadRule : PySem.W.codeIn K (.ref cdaBadRule) "BadRule.__init__" = true)
    (bE_BadRule : errB l.prog K C_BadRule fIBadRule ccBadRule cdaBadRule ["rule"] = true)
    (aE_UnknownCheck : PySem.W.nsIn K mainGlobals "UnknownCheck" = some (some (.ref C_UnknownCheck)))
    (iE_UnknownCheck : PySem.W.findIn K (.ref C_UnknownCheck) "__init__" = some (some (.ref fIUnknownCheck)))
    (lE_UnknownCheck : K.lookup fIUnknownCheck = some ⟨ocUnknownCheck, odUnknownCheck, .func (PySem.W.fnX "__init__" "UnknownCheck.__init__" (defArgs s_UnknownCheck_init) (defBody s_UnknownCheck_init) (defScope s_UnknownCheck_init) [("__class__", ccUnknownCheck)] .none .none dcUnknownCheck pmUnknownCheck none (.ref cdaUnknownCheck) ctUnknownCheck), slUnknownCheck⟩)
    (cE_UnknownCheck : PySem.W.codeIn K (.ref cdaUnknownCheck) "UnknownCheck.__init__" = true)
    (bE_UnknownCheck : errB l.prog K C_UnknownCheck fIUnknownCheck ccUnknownCheck cdaUnknownCheck ["check"] = true)
    (aE_UnlikeBooks : PySem.W.nsIn K mainGlobals "UnlikeBooks" = some (some (.ref C_UnlikeBooks)))
    (iE_UnlikeBooks : PySem.W.findIn K (.ref C_UnlikeBooks) "__init__" = some (some (.ref fIUnlikeBooks)))
    (lE_UnlikeBooks : K.lookup fIUnlikeBooks = some ⟨ocUnlikeBooks, odUnlikeBooks, .func (PySem.W.fnX "__init__" "UnlikeBooks.__init__" (defArgs s_UnlikeBooks_init) (defBody s_UnlikeBooks_init) (defScope s_UnlikeBooks_init) [("__class__", ccUnlikeBooks)] .none .none dcUnlikeBooks pmUnlikeBooks none (.ref cdaUnlikeBooks) ctUnlikeBooks), slUnlikeBooks⟩)
    (cE_UnlikeBooks : PySem.W.codeIn K (.ref cdaUnlikeBooks) "UnlikeBooks.__init__" = true)
    (bE_UnlikeBooks : errB l.prog K C_UnlikeBooks fIUnlikeBooks ccUnlikeBooks cdaUnlikeBooks [] = true)
    (xE : exmB K [C_UnlikeBooks, C_UnknownCheck] = true)
    (xC : clsIB K C_Book = true)
    (xA : farAllB K C_Book (Operator.info .Add).2 = true)
    (xS : farAllB K C_Book (Operator.info .Sub).2 = true)
    (hsf : PySem.W.selfFirst K C_Book = true)
    (hr1 : PySem.W.findIn K (.ref C_Book) (PySem.dunderR (Operator.info .BitOr).2) = some none)
    (hr2 : PySem.W.findIn K (.ref C_Book) (PySem.dunderR (Operator.info .BitAnd).2) = some none)
    (hr3 : PySem.W.findIn K (.ref C_Book) (PySem.dunderR (Operator.info .Add).2) = some none)
    (hr4 : PySem.W.findIn K (.ref C_Book) (PySem.dunderR (Operator.info .Sub).2) = some none)
    (hne : PySem.W.findIn K (.ref C_Book) "__ne__" = some (some (.builtin "object.__ne__")))
    (hge : PySem.W.findIn K (.ref C_Book) "__ge__" = some (some (.builtin "object.__ge__")))
    (hgt : PySem.W.findIn K (.ref C_Book) "__gt__" = some (some (.builtin "object.__gt__")))
    (hso : PySem.W.subIn K (.ref C_Book) (.type "object") = some true)
    (nfi : PySem.W.notFirst K C_Book (.type "int") = true)
    (nfl : PySem.W.notFirst K C_Book (.type "list") = true)
    (kti : PySem.W.kitOne K (.type "int") (.ref C_Book) = some false)
    (ktl : PySem.W.kitOne K (.type "list") (.ref C_Book) = some false)
    (z_int : PySem.W.nsIn K mainGlobals "int" = some none)
    (z_len : PySem.W.nsIn K mainGlobals "len" = some none)
    (z_range : PySem.W.nsIn K mainGlobals "range" = some none)
    (z_list : PySem.W.nsIn K mainGlobals "list" = some none)
    (z_tuple : PySem.W.nsIn K mainGlobals "tuple" = some none)
    (z_dict : PySem.W.nsIn K mainGlobals "dict" = some none)
    (z_isinstance : PySem.W.nsIn K mainGlobals "isinstance" = some none)
    (z_all : PySem.W.nsIn K mainGlobals "all" = some none)
    (z_any : PySem.W.nsIn K mainGlobals "any" = some none)
    (z_repr : PySem.W.nsIn K mainGlobals "repr" = some none)
    (z_str : PySem.W.nsIn K mainGlobals "str" = some none)
    (g_STRIKE : PySem.W.nsIn K mainGlobals "STRIKE" = some (some (.str "strike" tk_STRIKE)))
    (g_LETTERS : PySem.W.nsIn K mainGlobals "LETTERS" = some (some (.str "abcdefghijklmnopqrstuvwxyz" tk_LETTERS)))
    (g_LONGEST_NAME : PySem.W.nsIn K mainGlobals "LONGEST_NAME" = some (some (.int 8 tk_LONGEST_NAME)))
    (g_RULES : PySem.W.nsIn K mainGlobals "RULES" = some (some (.ref ad_RULES)))
    (t_RULES : K.lookup ad_RULES = some { cls := .type "tuple", dict := none, data := .seq #[.str "fall" tk_RULES0, .str "clear" tk_RULES1] mm_RULES, slots := #[] })
    (g_COLUMN_CHECKS : PySem.W.nsIn K mainGlobals "COLUMN_CHECKS" = some (some (.ref ad_COLUMN_CHECKS)))
    (t_COLUMN_CHECKS : K.lookup ad_COLUMN_CHECKS = some { cls := .type "tuple", dict := none, data := .seq #[.str "put" tk_COLUMN_CHECKS0, .str "turn" tk_COLUMN_CHECKS1, .str "keep" tk_COLUMN_CHECKS2, .str "hold" tk_COLUMN_CHECKS3, .str "again" tk_COLUMN_CHECKS4] mm_COLUMN_CHECKS, slots := #[] })
    (g_KIND_CHECKS : PySem.W.nsIn K mainGlobals "KIND_CHECKS" = some (some (.ref ad_KIND_CHECKS)))
    (t_KIND_CHECKS : K.lookup ad_KIND_CHECKS = some { cls := .type "tuple", dict := none, data := .seq #[.str "bare" tk_KIND_CHECKS0, .str "calm" tk_KIND_CHECKS1, .str "again" tk_KIND_CHECKS2] mm_KIND_CHECKS, slots := #[] })
    (g_BOOK_CHECKS : PySem.W.nsIn K mainGlobals "BOOK_CHECKS" = some (some (.ref ad_BOOK_CHECKS)))
    (t_BOOK_CHECKS : K.lookup ad_BOOK_CHECKS = some { cls := .type "tuple", dict := none, data := .seq #[.str "lone" tk_BOOK_CHECKS0, .str "fresh" tk_BOOK_CHECKS1] mm_BOOK_CHECKS, slots := #[] }) :
    ∃ fd : FuncData, (∀ (s : Shared) (v : Value), BindsTo s fd ⟨[v], []⟩ [("_law_script", v)]) ∧ ∀ base : Heap, K.In base → base.Ns mainGlobals mg → FnG l.prog w K mg base CX0 10 fa fd ["_law_script"] (spLaw K) := by
  have e := hfa.symm.trans (PySem.W.mg_of X G a14)
  cases e
  have F0 := fun_mk (st := s__law_draw) l0 c0 k0
  have b0 := F0.binds (ps := ["_law_stream", "_law_many"]) fun _ _ _ _ _ _ us hl => match us, hl with | [_, _], _ => rfl
  have F1 := fun_mk (st := s__law_pick) l1 c1 k1
  have b1 := F1.binds (ps := ["_law_stream", "_law_things"]) fun _ _ _ _ _ _ us hl => match us, hl with | [_, _], _ => rfl
  have F2 := fun_mk (st := s__law_same) l2 c2 k2
  have b2 := F2.binds (ps := ["_law_found", "_law_due"]) fun _ _ _ _ _ _ us hl => match us, hl with | [_, _], _ => rfl
  have F3 := fun_mk (st := s__law_fresh) l3 c3 k3
  have b3 := F3.binds (ps := ["_law_stream", "_law_taken"]) fun _ _ _ _ _ _ us hl => match us, hl with | [_, _], _ => rfl
  have F4 := fun_mk (st := s__law_names) l4 c4 k4
  have b4 := F4.binds (ps := ["_law_stream", "_law_many"]) fun _ _ _ _ _ _ us hl => match us, hl with | [_, _], _ => rfl
  have F5 := fun_mk (st := s__law_shape) l5 c5 k5
  have b5 := F5.binds (ps := ["_law_stream", "_law_many", "_law_most"]) fun _ _ _ _ _ _ us hl => match us, hl with | [_, _, _], _ => rfl
  have F6 := fun_mk (st := s__law_all_checks) l6 c6 k6
  have b6 := F6.binds (ps := ["_law_b"]) fun _ _ _ _ _ _ us hl => match us, hl with | [_], _ => rfl
  have F7 := fun_mk (st := s__law_checked) l7 c7 k7
  have b7 := F7.binds (ps := ["_law_stream", "_law_b"]) fun _ _ _ _ _ _ us hl => match us, hl with | [_, _], _ => rfl
  have F8 := fun_mk (st := s__law_rules) l8 c8 k8
  have b8 := F8.binds (ps := ["_law_stream", "_law_many", "_law_most"]) fun _ _ _ _ _ _ us hl => match us, hl with | [_, _, _], _ => rfl
  have F9 := fun_mk (st := s__law_made) l9 c9 k9
  have b9 := F9.binds (ps := ["_law_b"]) fun _ _ _ _ _ _ us hl => match us, hl with | [_], _ => rfl
  have F10 := fun_mk (st := s__law_joined) l10 c10 k10
  have b10 := F10.binds (ps := ["_law_way", "_law_one", "_law_other"]) fun _ _ _ _ _ _ us hl => match us, hl with | [_, _, _], _ => rfl
  have F11 := fun_mk (st := s__law_is) l11 c11 k11
  have b11 := F11.binds (ps := ["_law_book", "_law_b", "_law_checks"]) fun _ _ _ _ _ _ us hl => match us, hl with | [_, _, _], _ => rfl
  have F12 := fun_mk (st := s__law_varied) l12 c12 k12
  have b12 := F12.binds (ps := ["_law_stream", "_law_b"]) fun _ _ _ _ _ _ us hl => match us, hl with | [_, _], _ => rfl
  have F13 := fun_mk (st := s__law_compared) l13 c13 k13
  have b13 := F13.binds (ps := ["_law_one", "_law_other", "_law_c", "_law_d", "_law_alike"]) fun _ _ _ _ _ _ us hl => match us, hl with | [_, _, _, _, _], _ => rfl
  have F14 := fun_mk (st := s_law) l14 c14 k14
  have b14 := F14.binds (ps := ["_law_script"]) fun _ _ _ _ _ _ us hl => match us, hl with | [_], _ => rfl
  have F15 := fun_mk (st := s_is_name) l15 c15 k15
  have b15 := F15.binds (ps := ["thing"]) fun _ _ _ _ _ _ us hl => match us, hl with | [_], _ => rfl
  have F16 := fun_mk (st := s_is_word_of) l16 c16 k16
  have b16 := F16.binds (ps := ["thing", "words"]) fun _ _ _ _ _ _ us hl => match us, hl with | [_, _], _ => rfl
  have F17 := fun_mk (st := s__want_free_name) l17 c17 k17
  have b17 := F17.binds (ps := ["name", "taken"]) fun _ _ _ _ _ _ us hl => match us, hl with | [_, _], _ => rfl
  have F18 := fun_mk (st := s__read_kinds) l18 c18 k18
  have b18 := F18.binds (ps := ["kinds"]) fun _ _ _ _ _ _ us hl => match us, hl with | [_], _ => rfl
  have F19 := fun_mk (st := s__read_columns) l19 c19 k19
  have b19 := F19.binds (ps := ["columns", "kinds"]) fun _ _ _ _ _ _ us hl => match us, hl with | [_, _], _ => rfl
  have F20 := fun_mk (st := s__menu_of) l20 c20 k20
  have b20 := F20.binds (ps := ["kinds", "columns"]) fun _ _ _ _ _ _ us hl => match us, hl with | [_, _], _ => rfl
  have F21 := fun_mk (st := s__read_checks) l21 c21 k21
  have b21 := F21.binds (ps := ["checks", "menu"]) fun _ _ _ _ _ _ us hl => match us, hl with | [_, _], _ => rfl
  have F22 := fun_mk (st := s_want_one_shape) l22 c22 k22
  have b22 := F22.binds (ps := ["one", "other"]) fun _ _ _ _ _ _ us hl => match us, hl with | [_, _], _ => rfl
  subst ed23_0 ed23_1
  have FE23 := FunE.mk2 (st := s_Book_init) l23 c23
  have FD23 : FunD K "__init__" "Book.__init__" (defArgs s_Book_init) (defBody s_Book_init) (defScope s_Book_init) [V.ref de23_0, V.ref de23_1] [] f23 (PySem.W.fnOf "__init__" "Book.__init__" (defArgs s_Book_init) (defBody s_Book_init) (defScope s_Book_init) (.ref T23) kV23 dc23 pm23 an23 cd23 ct23) := ⟨⟨_, _, _, _, _, _, _, _, _, _, rfl, l23, c23, .inr ⟨by simp, T23, _, _, nT23, rfl, lT23, rfl, (.cons rfl (.cons rfl .nil))⟩, .inl rfl⟩, k23⟩
  have b23 : Binds K (PySem.W.fnOf "__init__" "Book.__init__" (defArgs s_Book_init) (defBody s_Book_init) (defScope s_Book_init) (.ref T23) kV23 dc23 pm23 an23 cd23 ct23) ["self", "kinds", "columns", "checks"] [] := by
    obtain ⟨ds, r, b⟩ := FD23.binds1 (ps := ["self", "kinds", "columns", "checks"]) 4 2 (by simp) rfl fun _ _ _ _ _ _ _ us its hl hl2 => match us, its, hl, hl2 with | [_, _, _, _], [_, _], _, _ => ⟨_, rfl, rfl⟩
    have e : ds = [] := by cases r; rfl
    rw [e] at b
    exact b
  have F24 := fun_mk (st := s_Book_kinds) l24 c24 k24
  have b24 := F24.binds (ps := ["self"]) fun _ _ _ _ _ _ us hl => match us, hl with | [_], _ => rfl
  have F25 := fun_mk (st := s_Book_columns) l25 c25 k25
  have b25 := F25.binds (ps := ["self"]) fun _ _ _ _ _ _ us hl => match us, hl with | [_], _ => rfl
  have F26 := fun_mk (st := s_Book_checks) l26 c26 k26
  have b26 := F26.binds (ps := ["self"]) fun _ _ _ _ _ _ us hl => match us, hl with | [_], _ => rfl
  have F27 := fun_mk (st := s_Book__has_shape_of) l27 c27 k27
  have b27 := F27.binds (ps := ["self", "other"]) fun _ _ _ _ _ _ us hl => match us, hl with | [_, _], _ => rfl
  have F28 := fun_mk (st := s_Book_eq) l28 c28 k28
  have b28 := F28.binds (ps := ["self", "other"]) fun _ _ _ _ _ _ us hl => match us, hl with | [_, _], _ => rfl
  have F29 := fun_mk (st := s_Book_le) l29 c29 k29
  have b29 := F29.binds (ps := ["self", "other"]) fun _ _ _ _ _ _ us hl => match us, hl with | [_, _], _ => rfl
  have F30 := fun_mk (st := s_Book_lt) l30 c30 k30
  have b30 := F30.binds (ps := ["self", "other"]) fun _ _ _ _ _ _ us hl => match us, hl with | [_, _], _ => rfl
  have F31 := fun_mk (st := s_Book_add) l31 c31 k31
  have b31 := F31.binds (ps := ["self", "check"]) fun _ _ _ _ _ _ us hl => match us, hl with | [_, _], _ => rfl
  have F32 := fun_mk (st := s_Book_sub) l32 c32 k32
  have b32 := F32.binds (ps := ["self", "check"]) fun _ _ _ _ _ _ us hl => match us, hl with | [_, _], _ => rfl
  have F33 := fun_mk (st := s_Book_or) l33 c33 k33
  have b33 := F33.binds (ps := ["self", "other"]) fun _ _ _ _ _ _ us hl => match us, hl with | [_, _], _ => rfl
  have F34 := fun_mk (st := s_Book_and) l34 c34 k34
  have b34 := F34.binds (ps := ["self", "other"]) fun _ _ _ _ _ _ us hl => match us, hl with | [_, _], _ => rfl
  have F35 := fun_mk (st := s_Book__with_checks) l35 c35 k35
  have b35 := F35.binds (ps := ["self", "checks"]) fun _ _ _ _ _ _ us hl => match us, hl with | [_, _], _ => rfl
  have F36 := fun_mk (st := s_Book__want_check) l36 c36 k36
  have b36 := F36.binds (ps := ["self", "check"]) fun _ _ _ _ _ _ us hl => match us, hl with | [_, _], _ => rfl
  have TT : Bt mg := ⟨PySem.W.mg_none_of X G z_int, PySem.W.mg_none_of X G z_len, PySem.W.mg_none_of X G z_range, PySem.W.mg_none_of X G z_list, PySem.W.mg_none_of X G z_tuple, PySem.W.mg_none_of X G z_dict, PySem.W.mg_none_of X G z_isinstance, PySem.W.mg_none_of X G z_all, PySem.W.mg_none_of X G z_any, PySem.W.mg_none_of X G z_repr, PySem.W.mg_none_of X G z_str⟩
  have TB_Book : Cls K C_Book := ⟨pg_Book, hd_Book, po_Book, sa_Book⟩
  refine ⟨PySem.W.fnOf "law" "law" (defArgs s_law) (defBody s_law) (defScope s_law) .none kV14 dc14 pm14 an14 cd14 ct14, fun s v => .of_eq rfl, fun base _ _ => ?_⟩
  have GG : Gn K mg ad_RULES ad_COLUMN_CHECKS ad_KIND_CHECKS ad_BOOK_CHECKS tk_STRIKE tk_LETTERS tk_LONGEST_NAME := ⟨(PySem.W.mg_of X G g_STRIKE), (PySem.W.mg_of X G g_LETTERS), (PySem.W.mg_of X G g_LONGEST_NAME), (PySem.W.mg_of X G g_RULES), (PySem.W.mg_of X G g_COLUMN_CHECKS), (PySem.W.mg_of X G g_KIND_CHECKS), (PySem.W.mg_of X G g_BOOK_CHECKS), ⟨_, _, t_RULES, (by show 2 ≤ sizeLine; decide), .cons ⟨_, rfl⟩ (.cons ⟨_, rfl⟩ (.nil))⟩, ⟨_, _, t_COLUMN_CHECKS, (by show 5 ≤ sizeLine; decide), .cons ⟨_, rfl⟩ (.cons ⟨_, rfl⟩ (.cons ⟨_, rfl⟩ (.cons ⟨_, rfl⟩ (.cons ⟨_, rfl⟩ (.nil)))))⟩, ⟨_, _, t_KIND_CHECKS, (by show 3 ≤ sizeLine; decide), .cons ⟨_, rfl⟩ (.cons ⟨_, rfl⟩ (.cons ⟨_, rfl⟩ (.nil)))⟩, ⟨_, _, t_BOOK_CHECKS, (by show 2 ≤ sizeLine; decide), .cons ⟨_, rfl⟩ (.cons ⟨_, rfl⟩ (.nil))⟩⟩
  have TB : BkT K C_Book := ⟨TB_Book, n_Book_kinds, n_Book_columns, n_Book_menu, n_Book_checks⟩
  have CI := clsIB_ok xC
  have O__law_draw : Own l.prog w K mg base CX0 1 "_law_draw" ["_law_stream", "_law_many"] spDraw := ⟨f0, _, ok_draw F0 TT, PySem.W.mg_of X G a0, k0, b0⟩
  have O__law_pick : Own l.prog w K mg base CX0 2 "_law_pick" ["_law_stream", "_law_things"] (spPick K) := ⟨f1, _, ok_pick F1 TT O__law_draw, PySem.W.mg_of X G a1, k1, b1⟩
  have O__law_fresh : Own l.prog w K mg base CX0 2 "_law_fresh" ["_law_stream", "_law_taken"] spFresh := ⟨f3, _, ok_fresh F3 TT O__law_draw, PySem.W.mg_of X G a3, k3, b3⟩
  have O__law_names : Own l.prog w K mg base CX0 3 "_law_names" ["_law_stream", "_law_many"] spNames := ⟨f4, _, ok_names F4 TT O__law_fresh, PySem.W.mg_of X G a4, k4, b4⟩
  have O__law_shape : Own l.prog w K mg base CX0 4 "_law_shape" ["_law_stream", "_law_many", "_law_most"] spShape := ⟨f5, _, ok_shape F5 TT O__law_draw O__law_pick O__law_names, PySem.W.mg_of X G a5, k5, b5⟩
  have O__law_all_checks : Own l.prog w K mg base CX0 1 "_law_all_checks" ["_law_b"] spAll := ⟨f6, _, ok_all F6 TT, PySem.W.mg_of X G a6, k6, b6⟩
  have O__law_checked : Own l.prog w K mg base CX0 2 "_law_checked" ["_law_stream", "_law_b"] spChecked := ⟨f7, _, ok_checked F7 TT O__law_draw O__law_all_checks, PySem.W.mg_of X G a7, k7, b7⟩
  have O__law_rules : Own l.prog w K mg base CX0 5 "_law_rules" ["_law_stream", "_law_many", "_law_most"] spRules := ⟨f8, _, ok_rules F8 TT O__law_draw O__law_shape O__law_checked, PySem.W.mg_of X G a8, k8, b8⟩
  have O__law_same : OwnG l.prog w K mg base CX0 1 "_law_same" ["_law_found", "_law_due"] (spSame K) := ⟨f2, _, ok_same F2 TT, PySem.W.mg_of X G a2, k2, b2⟩
  have O_BadName := own_x1 (P := l.prog) (w := w) (base := base) X G tx_BadName aE_BadName lE_BadName cE_BadName bE_BadName
  have O_NameInUse := own_x1 (P := l.prog) (w := w) (base := base) X G tx_NameInUse aE_NameInUse lE_NameInUse cE_NameInUse bE_NameInUse
  have O_UnknownKind := own_x1 (P := l.prog) (w := w) (base := base) X G tx_UnknownKind aE_UnknownKind lE_UnknownKind cE_UnknownKind bE_UnknownKind
  have O_BadRule := own_x1 (P := l.prog) (w := w) (base := base) X G tx_BadRule aE_BadRule lE_BadRule cE_BadRule bE_BadRule
  have O_UnknownCheck := own_x1 (P := l.prog) (w := w) (base := base) X G tx_UnknownCheck aE_UnknownCheck lE_UnknownCheck cE_UnknownCheck bE_UnknownCheck
  have O_is_name : Own l.prog w K mg base CX0 1 "is_name" ["thing"] (spIsName K) := ⟨f15, _, ok_is_name F15 TT GG, PySem.W.mg_of X G a15, k15, b15⟩
  have O_is_word_of : Own l.prog w K mg base CX0 1 "is_word_of" ["thing", "words"] (spWord K) := ⟨f16, _, ok_word F16 TT, PySem.W.mg_of X G a16, k16, b16⟩
  have O__want_free_name : OwnR l.prog w K mg base 3 "_want_free_name" ["name", "taken"] (spFree K C_BadName C_NameInUse) := ⟨f17, _, ok_free F17 O_is_name O_BadName O_NameInUse, PySem.W.mg_of X G a17, k17, b17⟩
  have O__read_kinds : OwnR l.prog w K mg base 4 "_read_kinds" ["kinds"] (spReadK K C_BadName C_NameInUse) := ⟨f18, _, ok_readK F18 TT O__want_free_name, PySem.W.mg_of X G a18, k18, b18⟩
  have O__read_columns : OwnR l.prog w K mg base 4 "_read_columns" ["columns", "kinds"] (spReadC K C_BadName C_NameInUse C_UnknownKind C_BadRule) := ⟨f19, _, ok_readC F19 TT GG O__want_free_name O_is_word_of O_UnknownKind O_BadRule, PySem.W.mg_of X G a19, k19, b19⟩
  have O__menu_of : Own l.prog w K mg base CX0 1 "_menu_of" ["kinds", "columns"] spMenu := ⟨f20, _, ok_menu F20 TT GG, PySem.W.mg_of X G a20, k20, b20⟩
  have O__read_checks : OwnR l.prog w K mg base 4 "_read_checks" ["checks", "menu"] (spReadX K C_UnknownCheck) := ⟨f21, _, ok_readX F21 TT O_is_word_of O_UnknownCheck, PySem.W.mg_of X G a21, k21, b21⟩
  have O_Book : OwnCR l.prog w K mg base 5 C_Book "Book" ["self", "kinds", "columns", "checks"] (spInit K C_Book ⟨C_BadName, C_NameInUse, C_UnknownKind, C_BadRule, C_UnknownCheck⟩) := ⟨f23, _, ok_init (A := ⟨C_BadName, C_NameInUse, C_UnknownKind, C_BadRule, C_UnknownCheck⟩) FE23 TB O__read_kinds O__read_columns O__menu_of O__read_checks, PySem.W.mg_of X G aC_Book, ⟨mk_Book, a23, i23, kc_Book⟩, b23⟩
  have O_Book_kinds : OwnM l.prog w K mg base CX0 1 C_Book "kinds" ["self"] (spKinds C_Book) := ⟨TB_Book, f24, _, ok_kinds F24 TT TB, ⟨a24, i24, k24⟩, b24⟩
  have O_Book_columns : OwnM l.prog w K mg base CX0 1 C_Book "columns" ["self"] (spColumns C_Book) := ⟨TB_Book, f25, _, ok_columns F25 TT TB, ⟨a25, i25, k25⟩, b25⟩
  have O_Book_checks : OwnM l.prog w K mg base CX0 1 C_Book "checks" ["self"] (spChecksB C_Book) := ⟨TB_Book, f26, _, ok_checksB F26 TT TB, ⟨a26, i26, k26⟩, b26⟩
  have O_Book__has_shape_of : OwnM l.prog w K mg base CX0 1 C_Book "_has_shape_of" ["self", "other"] (spShapeOf C_Book) := ⟨TB_Book, f27, _, ok_shapeOf F27 TT TB, ⟨a27, i27, k27⟩, b27⟩
  have O_Book_eq : OwnM l.prog w K mg base CX0 2 C_Book "__eq__" ["self", "other"] (spEqB K C_Book) := ⟨TB_Book, f28, _, ok_eqB F28 TT TB CI (PySem.W.mg_of X G aC_Book) O_Book__has_shape_of, ⟨a28, i28, k28⟩, b28⟩
  have O_UnlikeBooks := own_x0 (P := l.prog) (w := w) (base := base) X G tx_UnlikeBooks aE_UnlikeBooks lE_UnlikeBooks cE_UnlikeBooks bE_UnlikeBooks
  have O_want_one_shape : OwnR l.prog w K mg base 3 "want_one_shape" ["one", "other"] (spOneS C_Book C_UnlikeBooks) := ⟨f22, _, ok_oneS F22 O_Book_kinds O_Book_columns O_UnlikeBooks, PySem.W.mg_of X G a22, k22, b22⟩
  have O_Book__want_check : OwnMR l.prog w K mg base 3 C_Book "_want_check" ["self", "check"] (spWantC K C_Book C_UnknownCheck) := ⟨TB_Book, f36, _, ok_wantC F36 TT TB O_is_word_of O_UnknownCheck, ⟨a36, i36, k36⟩, b36⟩
  have O_Book__with_checks : OwnM l.prog w K mg base CX0 7 C_Book "_with_checks" ["self", "checks"] (spWithC K C_Book) := ⟨TB_Book, f35, _, ok_withC F35 TB O_Book, ⟨a35, i35, k35⟩, b35⟩
  have O_Book_add : OwnMR l.prog w K mg base 8 C_Book "__add__" ["self", "check"] (spAdd K C_Book C_UnknownCheck) := ⟨TB_Book, f31, _, ok_add F31 TB O_Book__want_check O_Book__with_checks, ⟨a31, i31, k31⟩, b31⟩
  have O_Book_sub : OwnMR l.prog w K mg base 8 C_Book "__sub__" ["self", "check"] (spSub K C_Book C_UnknownCheck) := ⟨TB_Book, f32, _, ok_sub F32 TB O_Book__want_check O_Book__with_checks, ⟨a32, i32, k32⟩, b32⟩
  have O_Book_or : OwnMR l.prog w K mg base 8 C_Book "__or__" ["self", "other"] (spOr K C_Book C_UnlikeBooks) := ⟨TB_Book, f33, _, ok_or F33 TT TB CI (PySem.W.mg_of X G aC_Book) O_want_one_shape O_Book__with_checks, ⟨a33, i33, k33⟩, b33⟩
  have O_Book_and : OwnMR l.prog w K mg base 8 C_Book "__and__" ["self", "other"] (spAnd K C_Book C_UnlikeBooks) := ⟨TB_Book, f34, _, ok_and F34 TT TB CI (PySem.W.mg_of X G aC_Book) O_want_one_shape O_Book__with_checks, ⟨a34, i34, k34⟩, b34⟩
  have O_Book_le : OwnM l.prog w K mg base CX0 2 C_Book "__le__" ["self", "other"] (spLe C_Book) := ⟨TB_Book, f29, _, ok_le F29 TT TB CI (PySem.W.mg_of X G aC_Book) O_Book__has_shape_of, ⟨a29, i29, k29⟩, b29⟩
  have O_Book_lt : OwnM l.prog w K mg base CX0 4 C_Book "__lt__" ["self", "other"] (spLt C_Book) := ⟨TB_Book, f30, _, ok_lt F30 TT TB CI (PySem.W.mg_of X G aC_Book) O_Book_le O_Book_eq hne hso, ⟨a30, i30, k30⟩, b30⟩
  have O_sameD : OwnG l.prog w K mg base CX0 1 "_law_same" ["_law_found", "_law_due"] spSameD := ⟨f2, _, ok_sameD F2 TT, PySem.W.mg_of X G a2, k2, b2⟩
  have O__law_made : Own l.prog w K mg base CX0 7 "_law_made" ["_law_b"] (spMadeL C_Book) := ⟨f9, _, ok_madeL F9 O_Book, PySem.W.mg_of X G a9, k9, b9⟩
  have O__law_is : OwnG l.prog w K mg base CX0 3 "_law_is" ["_law_book", "_law_b", "_law_checks"] (spIs C_Book) := ⟨f11, _, ok_is F11 TT TB CI (PySem.W.mg_of X G aC_Book) O_Book_kinds O_Book_columns O_Book_checks O__law_all_checks O__law_same, PySem.W.mg_of X G a11, k11, b11⟩
  have O__law_varied : Own l.prog w K mg base CX0 3 "_law_varied" ["_law_stream", "_law_b"] spVaried := ⟨f12, _, ok_varied F12 TT O__law_draw O__law_fresh O__law_all_checks, PySem.W.mg_of X G a12, k12, b12⟩
  have O__law_compared : OwnG l.prog w K mg base CX0 5 "_law_compared" ["_law_one", "_law_other", "_law_c", "_law_d", "_law_alike"] (spComp C_Book) := ⟨f13, _, ok_comp F13 TT TB CI O_Book_eq O_Book_le O_Book_lt hne hge hgt hso O__law_same, PySem.W.mg_of X G a13, k13, b13⟩
  have O__law_joined : Own l.prog w K mg base CX0 9 "_law_joined" ["_law_way", "_law_one", "_law_other"] (spJoined K C_Book) := ⟨f10, _, ok_joined F10 TT TB CI xE (farAll_ok xA) (farAll_ok xS) hsf hr1 hr2 hr3 hr4 O_UnlikeBooks O_UnknownCheck O_Book_or O_Book_and O_Book_add O_Book_sub, PySem.W.mg_of X G a10, k10, b10⟩
  exact ok_law F14 TT TB CI (farAll_ok xA) (farAll_ok xS) nfi nfl kti ktl hsf hr1 hr2 hr3 hr4 O__law_draw O__law_rules O__law_checked O__law_all_checks O__law_varied O__law_made O_Book O_Book_or O_Book_and O_Book_add O_Book_sub O_Book_eq O_Book_checks O__law_is O__law_compared O__law_joined O_sameD
end Ls
open PySem PySem.W PyProof.Rows
set_option maxRecDepth 100000 in
set_option maxHeartbeats 0 in
theorem PySem.Challenge.cw_longstrike_k04_books_joined_holds : PySem.Challenge.rw_longstrike_k04_books_joined.Holds := by
  w_on; o_law; k_head; (case hw => w_witness2)
  k_fill
  refine Ls.walk_ofG (l := PySem.Challenge.rw_longstrike_k04_books_joined) (n := 63) (k := 10) (x := "_law_script") (sp := fun w => Ls.spLaw _) rfl (by decide) rfl ⟨rfl, by decide, by decide⟩ (fun w h Y => PySem.W.kIn_of Y) ?F (fun _ _ a ns hl hS => ⟨a, ns, rfl, hS, hl, fun _ => rfl⟩)
  case F =>
    intro w mg fa h KX G hmg
    refine' Ls.all_mk (l := PySem.Challenge.rw_longstrike_k04_books_joined) (w := w) KX G hmg ?a0 ?l0 ?c0 ?k0 ?a1 ?l1 ?c1 ?k1 ?a2 ?l2 ?c2 ?k2 ?a3 ?l3 ?c3 ?k3 ?a4 ?l4 ?c4 ?k4 ?a5 ?l5 ?c5 ?k5 ?a6 ?l6 ?c6 ?k6 ?a7 ?l7 ?c7 ?k7 ?a8 ?l8 ?c8 ?k8 ?a9 ?l9 ?c9 ?k9 ?a10 ?l10 ?c10 ?k10 ?a11 ?l11 ?c11 ?k11 ?a12 ?l12 ?c12 ?k12 ?a13 ?l13 ?c13 ?k13 ?a14 ?l14 ?c14 ?k14 ?a15 ?l15 ?c15 ?k15 ?a16 ?l16 ?c16 ?k16 ?a17 ?l17 ?c17 ?k17 ?a18 ?l18 ?c18 ?k18 ?a19 ?l19 ?c19 ?k19 ?a20 ?l20 ?c20 ?k20 ?a21 ?l21 ?c21 ?k21 ?a22 ?l22 ?c22 ?k22 ?aC_Book ?pg_Book ?hd_Book ?po_Book ?sa_Book ?mk_Book ?kc_Book ?n_Book_kinds ?n_Book_columns ?n_Book_menu ?n_Book_checks ?a23 ?i23 ?l23 ?c23 ?k23 ?lT23 ?ed23_0 ?ed23_1 ?a24 ?i24 ?l24 ?c24 ?k24 ?a25 ?i25 ?l25 ?c25 ?k25 ?a26 ?i26 ?l26 ?c26 ?k26 ?a27 ?i27 ?l27 ?c27 ?k27 ?a28 ?i28 ?l28 ?c28 ?k28 ?a29 ?i29 ?l29 ?c29 ?k29 ?a30 ?i30 ?l30 ?c30 ?k30 ?a31 ?i31 ?l31 ?c31 ?k31 ?a32 ?i32 ?l32 ?c32 ?k32 ?a33 ?i33 ?l33 ?c33 ?k33 ?a34 ?i34 ?l34 ?c34 ?k34 ?a35 ?i35 ?l35 ?c35 ?k35 ?a36 ?i36 ?l36 ?c36 ?k36 ?aE_BadName ?iE_BadName ?lE_BadName ?cE_BadName ?bE_BadName ?aE_NameInUse ?iE_NameInUse ?lE_NameInUse ?cE_NameInUse ?bE_NameInUse ?aE_UnknownKind ?iE_UnknownKind ?lE_UnknownKind ?cE_UnknownKind ?bE_UnknownKind ?aE_BadRule ?iE_BadRule ?lE_BadRule ?cE_BadRule ?bE_BadRule ?aE_UnknownCheck ?iE_UnknownCheck ?lE_UnknownCheck ?cE_UnknownCheck ?bE_UnknownCheck ?aE_UnlikeBooks ?iE_UnlikeBooks ?lE_UnlikeBooks ?cE_UnlikeBooks ?bE_UnlikeBooks ?xE ?xC ?xA ?xS ?hsf ?hr1 ?hr2 ?hr3 ?hr4 ?hne ?hge ?hgt ?hso ?nfi ?nfl ?kti ?ktl ?z_int ?z_len ?z_range ?z_list ?z_tuple ?z_dict ?z_isinstance ?z_all ?z_any ?z_repr ?z_str ?g_STRIKE ?g_LETTERS ?g_LONGEST_NAME ?g_RULES ?t_RULES ?g_COLUMN_CHECKS ?t_COLUMN_CHECKS ?g_KIND_CHECKS ?t_KIND_CHECKS ?g_BOOK_CHECKS ?t_BOOK_CHECKS
    (case a0 => k_is)
    (case l0 => k_is)
    (case c0 => k_is)
    (case k0 => k_is)
    (case a1 => k_is)
    (case l1 => k_is)
    (case c1 => k_is)
    (case k1 => k_is)
    (case a2 => k_is)
    (case l2 => k_is)
    (case c2 => k_is)
    (case k2 => k_is)
    (case a3 => k_is)
    (case l3 => k_is)
    (case c3 => k_is)
    (case k3 => k_is)
    (case a4 => k_is)
    (case l4 => k_is)
    (case c4 => k_is)
    (case k4 => k_is)
    (case a5 => k_is)
    (case l5 => k_is)
    (case c5 => k_is)
    (case k5 => k_is)
    (case a6 => k_is)
    (case l6 => k_is)
    (case c6 => k_is)
    (case k6 => k_is)
    (case a7 => k_is)
    (case l7 => k_is)
    (case c7 => k_is)
    (case k7 => k_is)
    (case a8 => k_is)
    (case l8 => k_is)
    (case c8 => k_is)
    (case k8 => k_is)
    (case a9 => k_is)
    (case l9 => k_is)
    (case c9 => k_is)
    (case k9 => k_is)
    (case a10 => k_is)
    (case l10 => k_is)
    (case c10 => k_is)
    (case k10 => k_is)
    (case a11 => k_is)
    (case l11 => k_is)
    (case c11 => k_is)
    (case k11 => k_is)
    (case a12 => k_is)
    (case l12 => k_is)
    (case c12 => k_is)
    (case k12 => k_is)
    (case a13 => k_is)
    (case l13 => k_is)
    (case c13 => k_is)
    (case k13 => k_is)
    (case a14 => k_is)
    (case l14 => k_is)
    (case c14 => k_is)
    (case k14 => k_is)
    (case a15 => k_is)
    (case l15 => k_is)
    (case c15 => k_is)
    (case k15 => k_is)
    (case a16 => k_is)
    (case l16 => k_is)
    (case c16 => k_is)
    (case k16 => k_is)
    (case a17 => k_is)
    (case l17 => k_is)
    (case c17 => k_is)
    (case k17 => k_is)
    (case a18 => k_is)
    (case l18 => k_is)
    (case c18 => k_is)
    (case k18 => k_is)
    (case a19 => k_is)
    (case l19 => k_is)
    (case c19 => k_is)
    (case k19 => k_is)
    (case a20 => k_is)
    (case l20 => k_is)
    (case c20 => k_is)
    (case k20 => k_is)
    (case a21 => k_is)
    (case l21 => k_is)
    (case c21 => k_is)
    (case k21 => k_is)
    (case a22 => k_is)
    (case l22 => k_is)
    (case c22 => k_is)
    (case k22 => k_is)
    (case aC_Book => k_is)
    (case pg_Book => k_is)
    (case hd_Book => k_is)
    (case po_Book => k_is)
    (case sa_Book => k_is)
    (case mk_Book => k_is)
    (case kc_Book => k_is)
    (case n_Book_kinds => k_is)
    (case n_Book_columns => k_is)
    (case n_Book_menu => k_is)
    (case n_Book_checks => k_is)
    (case a23 => k_is)
    (case i23 => k_is)
    (case l23 => k_is)
    (case c23 => k_is)
    (case k23 => k_is)
    (case lT23 => k_is)
    (case ed23_0 => rfl)
    (case ed23_1 => rfl)
    (case a24 => k_is)
    (case i24 => k_is)
    (case l24 => k_is)
    (case c24 => k_is)
    (case k24 => k_is)
    (case a25 => k_is)
    (case i25 => k_is)
    (case l25 => k_is)
    (case c25 => k_is)
    (case k25 => k_is)
    (case a26 => k_is)
    (case i26 => k_is)
    (case l26 => k_is)
    (case c26 => k_is)
    (case k26 => k_is)
    (case a27 => k_is)
    (case i27 => k_is)
    (case l27 => k_is)
    (case c27 => k_is)
    (case k27 => k_is)
    (case a28 => k_is)
    (case i28 => k_is)
    (case l28 => k_is)
    (case c28 => k_is)
    (case k28 => k_is)
    (case a29 => k_is)
    (case i29 => k_is)
    (case l29 => k_is)
    (case c29 => k_is)
    (case k29 => k_is)
    (case a30 => k_is)
    (case i30 => k_is)
    (case l30 => k_is)
    (case c30 => k_is)
    (case k30 => k_is)
    (case a31 => k_is)
    (case i31 => k_is)
    (case l31 => k_is)
    (case c31 => k_is)
    (case k31 => k_is)
    (case a32 => k_is)
    (case i32 => k_is)
    (case l32 => k_is)
    (case c32 => k_is)
    (case k32 => k_is)
    (case a33 => k_is)
    (case i33 => k_is)
    (case l33 => k_is)
    (case c33 => k_is)
    (case k33 => k_is)
    (case a34 => k_is)
    (case i34 => k_is)
    (case l34 => k_is)
    (case c34 => k_is)
    (case k34 => k_is)
    (case a35 => k_is)
    (case i35 => k_is)
    (case l35 => k_is)
    (case c35 => k_is)
    (case k35 => k_is)
    (case a36 => k_is)
    (case i36 => k_is)
    (case l36 => k_is)
    (case c36 => k_is)
    (case k36 => k_is)
    (case aE_BadName => k_is)
    (case iE_BadName => k_is)
    (case lE_BadName => k_is)
    (case cE_BadName => k_is)
    (case bE_BadName => kernel_rfl)
    (case aE_NameInUse => k_is)
    (case iE_NameInUse => k_is)
    (case lE_NameInUse => k_is)
    (case cE_NameInUse => k_is)
    (case bE_NameInUse => kernel_rfl)
    (case aE_UnknownKind => k_is)
    (case iE_UnknownKind => k_is)
    (case lE_UnknownKind => k_is)
    (case cE_UnknownKind => k_is)
    (case bE_UnknownKind => kernel_rfl)
    (case aE_BadRule => k_is)
    (case iE_BadRule => k_is)
    (case lE_BadRule => k_is)
    (case cE_BadRule => k_is)
    (case bE_BadRule => kernel_rfl)
    (case aE_UnknownCheck => k_is)
    (case iE_UnknownCheck => k_is)
    (case lE_UnknownCheck => k_is)
    (case cE_UnknownCheck => k_is)
    (case bE_UnknownCheck => kernel_rfl)
    (case aE_UnlikeBooks => k_is)
    (case iE_UnlikeBooks => k_is)
    (case lE_UnlikeBooks => k_is)
    (case cE_UnlikeBooks => k_is)
    (case bE_UnlikeBooks => kernel_rfl)
    (case xE => kernel_rfl)
    (case xC => kernel_rfl)
    (case xA => kernel_rfl)
    (case xS => kernel_rfl)
    (case hsf => kernel_rfl)
    (case hr1 => kernel_rfl)
    (case hr2 => kernel_rfl)
    (case hr3 => kernel_rfl)
    (case hr4 => kernel_rfl)
    (case hne => k_is)
    (case hge => k_is)
    (case hgt => k_is)
    (case hso => k_is)
    (case nfi => kernel_rfl)
    (case nfl => kernel_rfl)
    (case kti => kernel_rfl)
    (case ktl => kernel_rfl)
    (case z_int => k_is)
    (case z_len => k_is)
    (case z_range => k_is)
    (case z_list => k_is)
    (case z_tuple => k_is)
    (case z_dict => k_is)
    (case z_isinstance => k_is)
    (case z_all => k_is)
    (case z_any => k_is)
    (case z_repr => k_is)
    (case z_str => k_is)
    (case g_STRIKE => k_is)
    (case g_LETTERS => k_is)
    (case g_LONGEST_NAME => k_is)
    (case g_RULES => k_is)
    (case t_RULES => k_is)
    (case g_COLUMN_CHECKS => k_is)
    (case t_COLUMN_CHECKS => k_is)
    (case g_KIND_CHECKS => k_is)
    (case t_KIND_CHECKS => k_is)
    (case g_BOOK_CHECKS => k_is)
    (case t_BOOK_CHECKS => k_is)

import PyProof.Rows.All
import Wide.All
import OpenK.AllK
import Wide.FinOn
import HandS.ForMost
import HandS.Wide
import HandS.DictComp
import HandS.Codes
import HandS.IsInst
import HandS.Conv
import HandS.Walk
import HandS.Defaults
import PySem.Challenge.RW_longstrike_k05_markable_kinds
set_option Elab.async false
set_option linter.all false
set_option maxRecDepth 100000
set_option maxHeartbeats 4000000
set_option exponentiation.threshold 20000
namespace Ls
open PySem PySem.Spec PyProof.Rows L2

/-! ### calls in short -/
/-- a def of the module that keeps a promise: where it stands, how it is bound -/
structure Own (P : Program) (w : World) (K : PySem.W.Frag) (mg : Str → Option Value) (base : Heap) (CX : CXT) (k : Nat) (x : Str) (ps : List Str) (sp : Sp) : Prop where
  ex : ∃ (f : Addr) (fd : FuncData), FnOk P w K mg base CX k f fd ps sp ∧ mg x = some (.ref f) ∧ PySem.W.keepIn K (.ref f) = true ∧ Binds K fd ps []
/-- a method of the class at C -/
structure OwnM (P : Program) (w : World) (K : PySem.W.Frag) (mg : Str → Option Value) (base : Heap) (CX : CXT) (k : Nat) (C : Addr) (m : Str) (ps : List Str) (sp : Sp) : Prop where
  cl : Cls K C
  ex : ∃ (f : Addr) (fd : FuncData), FnOk P w K mg base CX k f fd ps sp ∧ Meth K C m f ∧ Binds K fd ps []
/-- a class that is called -/
structure OwnC (P : Program) (w : World) (K : PySem.W.Frag) (mg : Str → Option Value) (base : Heap) (CX : CXT) (k : Nat) (C : Addr) (x : Str) (ps : List Str) (sp : Sp) : Prop where
  ex : ∃ (f : Addr) (fd : FuncData), FnOk P w K mg base CX k f fd ps sp ∧ mg x = some (.ref C) ∧ Mk K C f ∧ Binds K fd ps []
section
variable {X : Cx} {k j : Nat} {x m : Str} {ps : List Str} {sp : Sp} {p pos apos : Pos} {e o : Expr} {es : List Expr} {t : TA} {ta : TE} {C : Addr}
theorem own_call (O : Own X.prog X.w X.K X.mg X.base CX0 k x ps sp) (hr : Room j X.A) (hkj : k ≤ j) (ha : PA X (e :: es) t)
    (hg : Gl X x := by rfl) (hdb : (x == ("__debug__" : Str)) = false := by decide) (he : starEach (e :: es) X.env = (false, eval e X.env) :: starEach es X.env := by rfl) (hpl : (backTo pos (starEach es X.env)).any (·.1) = false := by rfl) :
    PE X (.Call (.Name x p) (e :: es) [] pos) (tCall sp [] E0 t) := by
  obtain ⟨f, fd, F, g, kp, b⟩ := O.ex
  exact pe_call F (hr.mono hkj) hg g kp b .nil pass0 ha hdb he hpl
theorem own_call0 (O : Own X.prog X.w X.K X.mg X.base CX0 k x ps sp) (hr : Room j X.A) (hkj : k ≤ j) (hg : Gl X x := by rfl) (hdb : (x == ("__debug__" : Str)) = false := by decide) :
    PE X (.Call (.Name x p) [] [] pos) (tCall sp [] E0 tNil) := by
  obtain ⟨f, fd, F, g, kp, b⟩ := O.ex
  exact pe_call0 F (hr.mono hkj) hg g kp b .nil pass0 hdb
theorem own_meth {pl : Sem Bool} (O : OwnM X.prog X.w X.K X.mg X.base CX0 k C m ps sp) (hr : Room j X.A) (hkj : k ≤ j) (ho : PE X o ta) (ha : PA X (e :: es) t)
    (hst : starEach (e :: es) X.env = (false, eval e X.env) :: starEach es X.env := by rfl) (hpl : (backTo pos (starEach es X.env)).any (·.1) = false := by rfl)
    (ht : eval (.Call (.Attribute o m apos) (e :: es) [] pos) X.env = (do
      let ov ← eval o X.env
      standAt apos.atName
      let (f, first) ← holding [ov] (getMethod ov m pl)
      callWith pos f first (backTo pos (starEach (e :: es) X.env)) (backToKw pos (keywordEach [] X.env))) := by rfl) : PE X (.Call (.Attribute o m apos) (e :: es) [] pos) (tMeth C m sp [] E0 ta t) := by
  obtain ⟨f, fd, F, me, b⟩ := O.ex
  exact pe_meth ho O.cl me F (hr.mono hkj) b .nil pass0 ha hst hpl ht
theorem own_meth0 {pl : Sem Bool} (O : OwnM X.prog X.w X.K X.mg X.base CX0 k C m ps sp) (hr : Room j X.A) (hkj : k ≤ j) (ho : PE X o ta)
    (ht : eval (.Call (.Attribute o m apos) [] [] pos) X.env = (do
      let ov ← eval o X.env
      standAt apos.atName
      let (f, first) ← holding [ov] (getMethod ov m pl)
      callWith pos f first (backTo pos (starEach [] X.env)) (backToKw pos (keywordEach [] X.env))) := by rfl) : PE X (.Call (.Attribute o m apos) [] [] pos) (tMeth C m sp [] E0 ta tNil) := by
  obtain ⟨f, fd, F, me, b⟩ := O.ex
  exact pe_meth0 ho O.cl me F (hr.mono hkj) b .nil pass0 ht
theorem own_make (O : OwnC X.prog X.w X.K X.mg X.base CX0 k C x ps sp) (hr : Room j X.A) (hkj : k + 1 ≤ j) (ha : PA X (e :: es) t)
    (hg : Gl X x := by rfl) (hdb : (x == ("__debug__" : Str)) = false := by decide) (he : starEach (e :: es) X.env = (false, eval e X.env) :: starEach es X.env := by rfl) (hpl : (backTo pos (starEach es X.env)).any (·.1) = false := by rfl) :
    PE X (.Call (.Name x p) (e :: es) [] pos) (tMake C sp [] E0 t) := by
  obtain ⟨f, fd, F, g, M, b⟩ := O.ex
  exact pe_make M F (hr.mono hkj) hg g b .nil pass0 ha hdb he hpl
theorem glob_str {z : Str} {tk : Tok} (hm : X.mg x = some (.str z tk)) (hg : Gl X x := by rfl) (hd : (x == ("__debug__" : Str)) = false := by decide) : PE X (.Name x pos) (tC (.str z)) := pe_glob hg hm ⟨_, rfl⟩ hd
theorem glob_int {i : Int} {tk : Tok} (hm : X.mg x = some (.int i tk)) (hg : Gl X x := by rfl) (hd : (x == ("__debug__" : Str)) = false := by decide) : PE X (.Name x pos) (tC (.int i)) := pe_glob hg hm ⟨_, rfl⟩ hd
theorem glob_ref {a : Addr} (hm : X.mg x = some (.ref a)) (hg : Gl X x := by rfl) (hd : (x == ("__debug__" : Str)) = false := by decide) : PE X (.Name x pos) (tC (.ref a)) := pe_glob hg hm rfl hd
/-- a statement that is never reached -/
theorem ps_dead {st : Stmt} : PS X st (fun _ _ _ => False) := ⟨fun _ _ _ _ _ _ h => h.elim⟩
theorem pss_dead {st : List Stmt} : PSs X st (fun _ _ _ => False) := ⟨fun _ _ _ _ _ _ h => h.elim⟩
end

/-! ### a def of the text, whatever its defaults -/
structure FunE (K : PySem.W.Frag) (x qual : Str) (st : Stmt) (f : Addr) (fd : FuncData) : Prop where
  ex : ∃ (oc : Value) (od : Option Addr) (dV kV doc pm : Value) (an : Option Addr) (cdv ct : Value) (osl : Array (Option Value)),
    fd = PySem.W.fnOf x qual (defArgs st) (defBody st) (defScope st) dV kV doc pm an cdv ct ∧ K.lookup f = some ⟨oc, od, .func fd, osl⟩ ∧ PySem.W.codeIn K cdv qual = true
theorem FunE.ok {P : Program} {w : World} {K : PySem.W.Frag} {mg : Str → Option Value} {base : Heap} {x qual : Str} {st : Stmt} {f : Addr} {fd : FuncData} {N ps : List Str} {k : Nat} {sp : Sp} (F : FunE K x qual st f fd) (S : FnScope N ps (defScope st))
    (len : ∀ vs H Q E, sp vs H Q E → vs.length = ps.length)
    (body : ∀ (cdv : Value) (A : Around) (outer : List Env) (s : Shared) (H : Hp) (vs : List V) (Q : VK) (E : XK), Room k (A.deeper (envOfC qual (defScope st) s.heap.objs.size f cdv)) → sp vs H Q E →
      ∃ t, PSs (cxOf CX0 P w K mg base N qual (defScope st) f cdv A outer s H E).nox (defBody st) t ∧ t { nx := fun _ H' => Q .non H', rt := Q } (start N vs) H) : FnOk P w K mg base CX0 (k + 1) f fd ps sp := by
  obtain ⟨oc, od, dV, kV, doc, pm, an, cdv, ct, osl, rfl, lk, hcd⟩ := F.ex
  refine fn_of lk hcd S len fun A outer s H vs Q E hr hsp => ?_
  obtain ⟨t, ht, hq⟩ := body cdv A outer s H vs Q E hr hsp
  exact ⟨t, ht.nox, hq⟩
/-- two defaults that are not asked for -/
theorem FunE.mk2 {K : PySem.W.Frag} {x qual : Str} {st : Stmt} {f T : Addr} {oc : Value} {od an : Option Addr} {osl : Array (Option Value)} {kV doc pm cdv ct : Value}
    (l : K.lookup f = some ⟨oc, od, .func (PySem.W.fnOf x qual (defArgs st) (defBody st) (defScope st) (.ref T) kV doc pm an cdv ct), osl⟩) (c : PySem.W.codeIn K cdv qual = true) :
    FunE K x qual st f (PySem.W.fnOf x qual (defArgs st) (defBody st) (defScope st) (.ref T) kV doc pm an cdv ct) := ⟨oc, od, .ref T, kV, doc, pm, an, cdv, ct, osl, rfl, l, c⟩

/-! ### tuples of the written part -/
def KTup (K : PySem.W.Frag) (a : Addr) (xs : List V) : Prop := ∃ (its : Array Value) (n : Nat), K.lookup a = some { cls := .type "tuple", dict := none, data := .seq its n, slots := #[] } ∧ its.size ≤ sizeLine ∧ Vals xs its.toList
theorem KTup.sq {K : PySem.W.Frag} {a : Addr} {xs : List V} (h : KTup K a xs) (H : Hp) : SqT K H a xs := by
  obtain ⟨its, n, lk, hz, r⟩ := h
  exact .inr ⟨_, its, n, lk, rfl, rfl, hz, r⟩
def rExtK (K : PySem.W.Frag) : V → List V → Hp → VK → Prop := fun x vs H Q => ∃ l b xs zs, x = .ref l ∧ vs = [.ref b] ∧ H l = some (.lst xs) ∧ KTup K b zs ∧ xs.length + zs.length ≤ sizeLine ∧ Q .non (upd H l (.lst (xs ++ zs)))
theorem mt_extK {X : Cx} (K : PySem.W.Frag) (hK : X.K = K := by rfl) : MtM X "list.extend" (rExtK K) := by
  subst hK
  intro pins s σ H x vs v us Q I rx rv h
  obtain ⟨l, b, xs, zs, rfl, rfl, hH, ⟨its2, n2, lk, z2, r2⟩, hz, q⟩ := h
  cases rx
  obtain ⟨u, rfl, ru⟩ := rv.one
  cases ru
  obtain ⟨z, its, n, r, hl, e⟩ := I.lstM hH
  have e2 := I.kIn _ _ lk
  obtain ⟨m2⟩ := its2
  have l2 : zs.length = m2.length := r2.length
  have hs : its.toArray.size + (Array.mk m2).size ≤ sizeLine := by
    rw [List.size_toArray]
    show its.length + m2.length ≤ sizeLine
    omega
  refine call_meets F.slot_list_extend ⟨_, e, rfl⟩ F.entry_list_extend (F.args_list_extend_2 _ _) (AutoSeq1.list_extend_list_tuple_0 l its.toArray n b (Array.mk m2) n2 (by rw [notLongL hs, Bool.and_false]; exact Bool.false_ne_true) (by omega) (by omega)) ⟨e, e2, ?_⟩
  refine ⟨.non, _, I.lset (its' := its ++ m2) (ys := xs ++ zs) hH e (by simp) (r.append r2) ?len, rfl, q⟩
  rw [List.length_append]
  exact hz

/-! ### rules that name the written part -/
section
variable {X : Cx}
theorem ixL (K : PySem.W.Frag) (h : X.K = K := by rfl) : IxR X (rIxL K) := by subst h; exact ix_list
theorem ixT (K : PySem.W.Frag) (h : X.K = K := by rfl) : IxR X (rIxT K) := by subst h; exact ix_tup
theorem in_seq (K : PySem.W.Frag) (h : X.K = K := by rfl) : OpR X (compareOp .In) (rIn K false) := by subst h; exact op_in_seq
theorem notIn_seq (K : PySem.W.Frag) (h : X.K = K := by rfl) : OpR X (compareOp .NotIn) (rIn K true) := by subst h; exact op_notIn_seq
theorem eqD (K : PySem.W.Frag) {k : Nat} (hr : Room k X.A) (h : X.K = K := by rfl) : OpR X (compareOp .Eq) (rEqD K) := by subst h; exact op_eqD hr.units
theorem neD (K : PySem.W.Frag) {k : Nat} (hr : Room k X.A) (h : X.K = K := by rfl) : OpR X (compareOp .NotEq) (rNeD K) := by subst h; exact op_neD hr.units
theorem list_of (K : PySem.W.Frag) (h : X.K = K := by rfl) : CallR X (.type "list") (fun xs H Q => ∃ p ys, xs = [.ref p] ∧ (SqL K H p ys ∨ SqT K H p ys) ∧ ∀ l, H l = none → Q (.ref l) (upd H l (.lst ys))) := by subst h; exact call_list_of
theorem tuple_of (K : PySem.W.Frag) (h : X.K = K := by rfl) : CallR X (.type "tuple") (fun xs H Q => ∃ p ys, xs = [.ref p] ∧ ((SqL K H p ys ∧ ∀ l, H l = none → Q (.ref l) (upd H l (.tup ys))) ∨ (SqT K H p ys ∧ Q (.ref p) H))) := by subst h; exact call_tuple_of
theorem len_seq (K : PySem.W.Frag) (h : X.K = K := by rfl) : CallR X (.builtin "len") (fun xs H Q => ∃ p ys, xs = [.ref p] ∧ (SqL K H p ys ∨ SqT K H p ys) ∧ Q (.int ys.length) H) := by subst h; exact call_len_seq
end

/-! ### lists of ints as data -/
theorem dp_ints {K : PySem.W.Frag} {H : Hp} : ∀ ns : List Int, DpAll K H (ns.map V.int) (ns.map PyData.int)
  | [] => .nil
  | n :: r => .cons (.int n) (dp_ints r)
theorem lay_ints : ∀ ns : List Int, PyData.canLayAll0 (ns.map PyData.int) = true
  | [] => by simp [PyData.canLayAll0]
  | n :: r => by simp [PyData.canLayAll0, PyData.canLay0, lay_ints r]
theorem depth_ints : ∀ ns : List Int, PyData.depthAll (ns.map PyData.int) = 0
  | [] => by simp [PyData.depthAll]
  | n :: r => by simp [PyData.depthAll, PyData.depth, depth_ints r]
theorem shaped_ints (ns : List Int) : SeqAt.shaped (.list (ns.map PyData.int)) = true := by
  simp [SeqAt.shaped, PyData.canLay0, PyData.depth, lay_ints, depth_ints]
theorem eqv_nil (ns : List Int) : PyData.eqv (.list (ns.map PyData.int)) (.list []) = decide (ns = []) := by
  cases ns with
  | nil => simp [PyData.eqv, PyData.eqvAll]
  | cons n r => simp [PyData.eqv, PyData.eqvAll]
theorem lt_pow {m c : Int} (h0 : 0 ≤ m) (h1 : m < 2147483647) (c0 : 0 ≤ c) (c1 : c ≤ 10000001) : (m + 104729 * c + 17).natAbs < 2 ^ 64 := by omega
theorem emod_lo (a : Int) {n : Int} (h : 0 < n) : 0 ≤ a % n := Int.emod_nonneg _ (by omega)
theorem emod_hi (a : Int) {n : Int} (h : 0 < n) : a % n < n := Int.emod_lt_of_pos _ h
theorem sq_le {c : Int} (c0 : 0 ≤ c) (c1 : c ≤ 10000001) : 0 ≤ 40503 * c * c ∧ 40503 * c * c ≤ 4050300810060040503 := by
  have h1 : c * c ≤ 10000001 * 10000001 := Int.mul_le_mul c1 c1 c0 (by omega)
  have h2 : 0 ≤ c * c := Int.mul_nonneg c0 c0
  have e : 40503 * c * c = 40503 * (c * c) := Int.mul_assoc _ _ _
  rw [e]
  omega
theorem log_lt {k : Int} (h0 : 0 < k) (h : k ≤ 10 ^ 40) : k.natAbs.log2 < 9000 := by
  refine (Nat.log2_lt (by omega)).mpr (Nat.lt_of_le_of_lt (m := 10 ^ 40) (by omega) ?_)
  exact Nat.lt_of_lt_of_le (show 10 ^ 40 < 2 ^ 140 by decide +kernel) (Nat.pow_le_pow_right (by decide) (by decide))

/-! ### heaps -/
/-- all else is as it was -/
def Old (S L : Addr) (H H' : Hp) : Prop := ∀ b o, b ≠ S → b ≠ L → H b = some o → H' b = some o
theorem Old.refl {S L : Addr} (H : Hp) : Old S L H H := fun _ _ _ _ e => e
theorem Old.trans {S L : Addr} {H H1 H2 : Hp} (a : Old S L H H1) (b : Old S L H1 H2) : Old S L H H2 := fun c o h1 h2 e => b c o h1 h2 (a c o h1 h2 e)
theorem Old.same {S L : Addr} {H H1 : Hp} (a : Same H H1) : Old S L H H1 := fun c o _ _ e => a c o e
theorem same_new {H : Hp} {p : Addr} {o : HO} (h : H p = none) : Same H (upd H p o) := fun b x e => by
  rw [upd_ne (ne_of_none e h)]
  exact e
theorem Old.new {S L : Addr} {H : Hp} {p : Addr} {o : HO} (h : H p = none) : Old S L H (upd H p o) := .same (same_new h)
theorem Old.set {S L : Addr} {H H1 : Hp} {p : Addr} {o : HO} (h : Old S L H H1) (hp : H p = none) : Old S L H (upd H1 p o) := fun b u h1 h2 e => by
  rw [upd_ne (ne_of_none e hp)]
  exact h b u h1 h2 e
theorem Old.none {S L : Addr} {H H1 : Hp} {p : Addr} (h : Old S L H H1) (hp : H1 p = none) (n : p ≠ S ∧ p ≠ L) : H p = none := by
  cases e : H p with
  | none => rfl
  | some o => rw [h _ _ n.1 n.2 e] at hp; cases hp
/-- the law's stream at S over the list at L, of which at most n draws were made -/
def Stm (H : Hp) (S L : Addr) (n : Nat) : Prop := ∃ (ns : List Int) (d c m : Int), H S = some (.lst [.ref L, .int d, .int c, .int m]) ∧ H L = some (.lst (ns.map V.int)) ∧ 0 ≤ d ∧ 0 ≤ c ∧ c ≤ (n : Int) ∧ 0 ≤ m ∧ m < 2147483647
theorem Stm.ne {H : Hp} {S L : Addr} {n : Nat} (h : Stm H S L n) : S ≠ L := by
  obtain ⟨ns, d, c, m, h1, h2, _⟩ := h
  refine ne_of h1 h2 fun e => ?_
  have e' := HO.lst.inj e
  cases ns with
  | nil => cases e'
  | cons a r => rw [List.map_cons] at e'; injection e' with e1; cases e1
theorem Stm.mono {H : Hp} {S L : Addr} {n m : Nat} (h : Stm H S L n) (hm : n ≤ m) : Stm H S L m := by
  obtain ⟨ns, d, c, k, h1, h2, h3, h4, h5, h6⟩ := h
  exact ⟨ns, d, c, k, h1, h2, h3, h4, by omega, h6⟩
theorem Stm.keep {H H' : Hp} {S L : Addr} {n : Nat} (h : Stm H S L n) (s : Same H H') : Stm H' S L n := by
  obtain ⟨ns, d, c, k, h1, h2, h3⟩ := h
  exact ⟨ns, d, c, k, s _ _ h1, s _ _ h2, h3⟩
theorem Stm.noneS {H : Hp} {S L p : Addr} {n : Nat} (h : Stm H S L n) (hp : H p = none) : p ≠ S ∧ p ≠ L := by
  obtain ⟨ns, d, c, k, h1, h2, h3⟩ := h
  exact ⟨Ne.symm (ne_of_none h1 hp), Ne.symm (ne_of_none h2 hp)⟩
theorem Stm.upd {H : Hp} {S L p : Addr} {n : Nat} {o : HO} (h : Stm H S L n) (h1 : p ≠ S) (h2 : p ≠ L) : Stm (upd H p o) S L n := by
  obtain ⟨ns, d, c, k, e1, e2, h3⟩ := h
  exact ⟨ns, d, c, k, by rw [upd_ne (Ne.symm h1)]; exact e1, by rw [upd_ne (Ne.symm h2)]; exact e2, h3⟩
/-! ### two tests whose answers are known -/
theorem or2 {t u : TT} {σ : L2.St} {H : Hp} {Q : Bool → Hp → Prop} (c1 c2 : Bool) (h1 : ∀ Q' : Bool → Hp → Prop, Q' c1 H → t σ H Q') (h2 : c1 = false → ∀ Q' : Bool → Hp → Prop, Q' c2 H → u σ H Q') (hq : Q (c1 || c2) H) : tOr t u σ H Q := by
  refine h1 _ ?_
  cases c1 with
  | true => exact hq
  | false => exact h2 rfl _ hq
theorem and2 {t u : TT} {σ : L2.St} {H : Hp} {Q : Bool → Hp → Prop} (c1 c2 : Bool) (h1 : ∀ Q' : Bool → Hp → Prop, Q' c1 H → t σ H Q') (h2 : c1 = true → ∀ Q' : Bool → Hp → Prop, Q' c2 H → u σ H Q') (hq : Q (c1 && c2) H) : tAnd t u σ H Q := by
  refine h1 _ ?_
  cases c1 with
  | true => exact h2 rfl _ hq
  | false => exact hq
/-- what is known of the heap from here on -/
theorem at_heap {P : Hp → Prop} {H0 : Hp} (φ : Hp → Prop) (h1 : φ H0) (h2 : ∀ H1, φ H1 → P H1) : P H0 := h2 H0 h1
/-! ### comprehensions that change nothing else -/
section
variable {J : It} {n : Nat} {G : Hp → Prop} {Y : Nat → Hp → V → Hp → Prop}
/-- the made list behind i turns -/
def made (xs : List V) (f : V → Option V) (i : Nat) : List V := (xs.take i).filterMap f
theorem made_yes {xs : List V} {f : V → Option V} {i : Nat} {x y : V} (hx : xs[i]? = some x) (hf : f x = some y) : made xs f (i + 1) = made xs f i ++ [y] := by
  unfold made
  rw [List.take_add_one, hx, List.filterMap_append]
  simp [hf]
theorem made_no {xs : List V} {f : V → Option V} {i : Nat} {x : V} (hx : xs[i]? = some x) (hf : f x = none) : made xs f (i + 1) = made xs f i := by
  unfold made
  rw [List.take_add_one, hx, List.filterMap_append]
  simp [hf]
theorem made_len (xs : List V) (f : V → Option V) (i : Nat) : (made xs f i).length ≤ i := by
  unfold made
  exact Nat.le_trans (List.length_filterMap_le _ _) (by rw [List.length_take]; exact Nat.min_le_left _ _)
/-- a comprehension whose turns leave the heap as it is: what each item gives is told by f -/
theorem lc_pure (w : Walk J n G Y) (xs : List V) (f : V → Option V) (hn : xs.length = n) (hY : ∀ i H x H', i < n → Y i H x H' → H' = H ∧ xs[i]? = some x) {g : TG} {tt : TT} {te : TE} {vs : List Nat} {σ : L2.St} {H1 : Hp} {D : Addr} {Qd : Hp → Prop}
    (hz : n < sizeLine) (hG : ∀ acc, G (upd H1 D (.lst acc)))
    (hs : ∀ i x, i < n → xs[i]? = some x → g x (wipe σ vs) (upd H1 D (.lst (made xs f i))) fun σ2 H2 => wipe σ2 vs = wipe σ vs ∧ tt σ2 H2 fun b H3 =>
      if b = true then te σ2 H3 fun y H4 => ∃ acc, H4 D = some (.lst acc) ∧ acc.length < sizeLine ∧ upd H4 D (.lst (acc ++ [y])) = upd H1 D (.lst (made xs f (i + 1))) else H3 = upd H1 D (.lst (made xs f (i + 1))))
    (hd : Qd (upd H1 D (.lst (xs.filterMap f)))) :
    ∃ W : Nat → Nat → Hp → Prop, (∃ m, W 0 m (upd H1 D (.lst []))) ∧ ∀ i m H, W i m H →
      (J.stop i H ∧ Qd H) ∨ (J.go i H ∧ ∃ Nx : Hp → Prop, (∀ H', Nx H' → ∃ m', m' < m ∧ W (i + 1) m' H') ∧ ∀ x H', J.yld i H x H' → g x (wipe σ vs) H' fun σ2 H2 => wipe σ2 vs = wipe σ vs ∧ tt σ2 H2 fun b H3 =>
        if b = true then te σ2 H3 fun y H4 => ∃ acc, H4 D = some (.lst acc) ∧ acc.length < sizeLine ∧ Nx (upd H4 D (.lst (acc ++ [y]))) else Nx H3) := by
  refine lc_it w (fun i H => H = upd H1 D (.lst (made xs f i))) rfl (fun i H _ e => by rw [e]; exact hG _) (fun i x H H' hi e y => ?_) (fun H e => ?_)
  · obtain ⟨e2, hx⟩ := hY i H x H' hi y
    rw [e2, e]
    exact hs i x hi hx
  · have : made xs f n = xs.filterMap f := by unfold made; rw [← hn, List.take_length]
    rw [e, this]
    exact hd
theorem lc_yes {xs : List V} {f : V → Option V} {i : Nat} {x y : V} {H1 : Hp} {D : Addr} {n : Nat} (hx : xs[i]? = some x) (hi : i < n) (hz : n < sizeLine) (hf : f x = some y) :
    ∃ acc, (upd H1 D (.lst (made xs f i))) D = some (.lst acc) ∧ acc.length < sizeLine ∧ upd (upd H1 D (.lst (made xs f i))) D (.lst (acc ++ [y])) = upd H1 D (.lst (made xs f (i + 1))) :=
  ⟨_, upd_same, Nat.lt_of_le_of_lt (made_len _ _ _) (Nat.lt_trans hi hz), by rw [upd_upd, made_yes hx hf]⟩
theorem lc_no {xs : List V} {f : V → Option V} {i : Nat} {x : V} {H1 : Hp} {D : Addr} (hx : xs[i]? = some x) (hf : f x = none) : upd H1 D (.lst (made xs f i)) = upd H1 D (.lst (made xs f (i + 1))) := by rw [made_no hx hf]
/-- the signs of a text as texts -/
def signs (z : Str) : List V := z.cps.toList.map fun c => .str ⟨#[c]⟩
theorem signs_len (z : Str) : (signs z).length = z.cps.size := by unfold signs; rw [List.length_map, Array.length_toList]
theorem yld_str {z : Str} : ∀ (i : Nat) (H : Hp) (x : V) (H' : Hp), i < z.cps.size → (H' = H ∧ ∃ c, z.cps[i]? = some c ∧ x = .str ⟨#[c]⟩) → H' = H ∧ (signs z)[i]? = some x := fun i H x H' _ ⟨e, c, hc, ex⟩ =>
  ⟨e, by unfold signs; rw [List.getElem?_map, Array.getElem?_toList, hc, ex]; rfl⟩
end
def spDraw : Sp := fun vs H Q _ => ∃ (S L : Addr) (n : Nat) (k : Int), vs = [.ref S, .int k] ∧ Stm H S L n ∧ n ≤ 10000000 ∧ 0 < k ∧ k ≤ 10 ^ 40 ∧
  ∀ (H' : Hp) (r : Int), 0 ≤ r → r < k → Stm H' S L (n + 1) → Old S L H H' → Q (.int r) H'
end Ls
namespace Ls
open PySem PySem.Spec PyProof.Rows L2
def topS (i : Nat) : Stmt := PySem.Challenge.pw_longstrike_k05_markable_kinds.main.body.getD i (.Pass ⟨0, 0, 0, 0⟩)
/-- the built-in names that are called -/
structure Bt (mg : Str → Option Value) : Prop where
  m_int : mg "int" = none
  m_len : mg "len" = none
  m_range : mg "range" = none
  m_list : mg "list" = none
  m_tuple : mg "tuple" = none
  m_dict : mg "dict" = none
  m_isinstance : mg "isinstance" = none
  m_all : mg "all" = none
  m_any : mg "any" = none
  m_repr : mg "repr" = none
  m_str : mg "str" = none
/-! ### short steps -/
local macro_rules | `(tactic| walk_at "ls_ne") => `(tactic| first | assumption | exact Ne.symm (by assumption) | exact ne_of_none (by assumption) (by assumption) | exact Ne.symm (ne_of_none (by assumption) (by assumption)))
local macro_rules | `(tactic| walk_at "ls_hp") => `(tactic| first
  | with_reducible assumption
  | exact upd_same
  | exact Eq.trans (upd_ne (by walk_at "ls_ne")) (by walk_at "ls_hp"))
local macro_rules | `(tactic| walk_at "ls_st") => `(tactic| first
  | with_reducible assumption
  | exact Stm.upd (by walk_at "ls_st") (by first | walk_at "ls_ne" | exact (Stm.noneS (by assumption) (by assumption)).1) (by first | walk_at "ls_ne" | exact (Stm.noneS (by assumption) (by assumption)).2))
local macro_rules | `(tactic| walk_at "ls1") => `(tactic| first
  | refine ⟨_, rfl, ?_⟩
  | refine ⟨_, _, rfl, rfl, ?_⟩
  | refine ⟨_, _, _, _, rfl, rfl, .inl (.inl (by walk_at "ls_hp")), rfl, ?_⟩
  | refine ⟨_, _, _, _, rfl, rfl, (by walk_at "ls_hp"), rfl, ?_⟩
  | refine ⟨rfl, _, rfl, ?_⟩
  | refine ⟨.inl ⟨rfl, _, .inl (.inl (by walk_at "ls_hp"))⟩, ?_⟩)
local macro_rules | `(tactic| walk_at "ls") => `(tactic| repeat (walk_at "ls1"))

section
variable {P : Program} {w : World} {K : PySem.W.Frag} {mg : Str → Option Value} {base : Heap}
/-! ### _law_draw -/
abbrev s__law_draw : Stmt := topS 28
theorem sc__law_draw : FnScope ["_law_stream", "_law_many", "_law_digit", "_law_mixed"] ["_law_stream", "_law_many"] (defScope s__law_draw) := ⟨rfl, rfl, rfl, by decide +kernel, rfl, by decide +kernel, by decide +kernel⟩
abbrev N__law_draw : List Str := ["_law_stream", "_law_many", "_law_digit", "_law_mixed"]
theorem ok_draw {f : Addr} {fd : FuncData} {j : Nat} (F : Fun K "_law_draw" "_law_draw" s__law_draw f fd) (T : Bt mg) : FnOk P w K mg base CX0 (j + 1) f fd ["_law_stream", "_law_many"] spDraw := by
  refine F.ok sc__law_draw (fun vs H Q E h => ?_) (fun cdv A outer s H vs Q E hr h => ?_)
  · obtain ⟨S, L, n, k, rfl, _⟩ := h
    rfl
  · obtain ⟨S, L, n, k, rfl, hst, hn, hk, hk2, q⟩ := h
    have hu := hu_of hr
    refine ⟨_, (pss_cons (ps_asg (pe_op op_add (pe_ix (ixL K) (pv 0) pe_int (fun _ _ => rfl)) pe_int) (pg_sub (pv 0) pe_int set_list))
      (C8.pss_cut (ps_if (PW.pt (pw_and (pt_cmpR op_eq (pe_ix (ixL K) (pv 0) pe_int (fun _ _ => rfl)) pe_int (nomark _)) (pw_and1 (pt_cmpR (neD K hr) (pe_ix (ixL K) (pv 0) pe_int (fun _ _ => rfl)) (pe_lst pa_nil) (nomark _))))) (pss_cons (ps_asg (pe_bm PySem.F.plainAttrs_list PySem.F.slot_list_pop PySem.F.type_list_pop mt_popAt (pe_ix (ixL K) (pv 0) pe_int (fun _ _ => rfl)) (pa_cons pe_int pa_nil)) (pg_sub (pv 0) pe_int set_list))
      (pss_one (ps_if (pt_cmpR op_lt (pe_ix (ixL K) (pv 0) pe_int (fun _ _ => rfl)) (pe_op op_pow pe_int pe_int) (nomark _)) (pss_cons (ps_asg (pe_op op_mod (pe_callTy call_int1 (by rfl) T.m_int (by decide +kernel) (pa_cons (pe_op op_add (pe_op op_add (pe_op op_mul (pe_ix (ixL K) (pv 0) pe_int (fun _ _ => rfl)) pe_int) (pe_ix (ixL K) (pv 0) pe_int (fun _ _ => rfl))) pe_int) pa_nil)) pe_int) (pg_sub (pv 0) pe_int set_list))
      (pss_one (ps_asg pe_int (pg_sub (pv 0) pe_int set_list)))) pss_nil))) pss_nil)
      (pss_cons (ps_if (pt_cmpR op_gt (pe_ix (ixL K) (pv 0) pe_int (fun _ _ => rfl)) pe_int (nomark _)) (pss_cons (ps_set (i := 2) sc__law_draw.nd rfl (Or.inl rfl) (pe_op op_mod (pe_callTy call_int1 (by rfl) T.m_int (by decide +kernel) (pa_cons (pe_ix (ixL K) (pv 0) pe_int (fun _ _ => rfl)) pa_nil)) (pv 1)))
      (pss_cons (ps_asg (pe_op op_fdivW (pe_ix (ixL K) (pv 0) pe_int (fun _ _ => rfl)) (pv 1)) (pg_sub (pv 0) pe_int set_list))
      (pss_one (ps_ret (pv 2))))) pss_nil)
      (pss_cons (ps_set (i := 3) sc__law_draw.nd rfl (Or.inl rfl) (pe_op op_mod (pe_op op_pow (pe_op op_add (pe_op op_add (pe_ix (ixL K) (pv 0) pe_int (fun _ _ => rfl)) (pe_op op_mul pe_int (pe_ix (ixL K) (pv 0) pe_int (fun _ _ => rfl)))) pe_int) pe_int) pe_int))
      (pss_one (ps_ret (pe_op op_mod (pe_op op_mod (pe_op op_pow (pe_op op_add (pe_op op_add (pe_op op_mul (pv 3) pe_int) (pe_op op_mul (pe_op op_mul pe_int (pe_ix (ixL K) (pv 0) pe_int (fun _ _ => rfl))) (pe_ix (ixL K) (pv 0) pe_int (fun _ _ => rfl)))) pe_int) pe_int) pe_int) (pv 1)))))))), ?_⟩
    obtain ⟨ns, d, c, m, hS, hL, d0, c0, cn, m0, m1⟩ := id hst
    have nSL := hst.ne
    walk_at "ls"
    refine ⟨fun σ' H' => σ' = [some (.ref S), some (.int k), none, none] ∧ ∃ (ns : List Int) (d m : Int), H' S = some (.lst [.ref L, .int d, .int (c + 1), .int m]) ∧ H' L = some (.lst (ns.map V.int)) ∧ 0 ≤ d ∧ 0 ≤ m ∧ m < 2147483647 ∧ Old S L H H', ?_, ?_⟩
    · walk_at "ls"
      refine ite2 (fun e => ?_) (fun e => ?_)
      · walk_at "ls"
        refine ⟨by decide, fun p hp => ?_⟩
        have hd : d = 0 := V.int.inj (of_decide_eq_true e)
        subst hd
        have nSp : p ≠ S := fun z => by rw [z, upd_same] at hp; cases hp
        have nLp : p ≠ L := fun z => by rw [z, upd_ne nSL.symm, hL] at hp; cases hp
        refine ⟨.list (ns.map .int), .list [], .lst (.inl (.inl (by walk_at "ls_hp"))) (dp_ints _), .lst (.inl (.inl upd_same)) .nil, shaped_ints ns, by decide +kernel, _, rfl, ?_⟩
        rw [eqv_nil]
        cases ns with
        | nil =>
          rw [decide_eq_true rfl]
          refine iteF ?_
          exact ⟨rfl, [], 0, m, (by walk_at "ls_hp"), (by walk_at "ls_hp"), d0, m0, m1, fun b o h1 h2 e => by rw [upd_ne (ne_of_none (by rw [upd_ne h1]; exact e) hp), upd_ne h1]; exact e⟩
        | cons x r =>
          rw [decide_eq_false (by simp)]
          refine iteT ?_
          walk_at "ls"
          refine ⟨_, _, _, 0, .int x, rfl, rfl, (by walk_at "ls_hp"), by decide, by decide, (ixN_seq (by show ixN ((List.map V.int (x :: r)).length) 0 = some 0; unfold ixN; rw [if_pos (by decide), if_pos (by rw [List.length_map, List.length_cons]; omega)]; rfl)).1, rfl, ?_⟩
          walk_at "ls"
          refine ⟨⟨by decide, by decide, by decide⟩, ?_⟩
          walk_at "ls"
          refine ite2 (fun e => ?_) (fun e => ?_)
          · walk_at "ls"
            refine ⟨.inr ⟨by decide, by decide⟩, ?_⟩
            walk_at "ls"
            refine .inl ⟨_, rfl, ?_⟩
            walk_at "ls"
            refine ⟨(by show (0 : Int) < 2147483647; decide), ?_⟩
            walk_at "ls"
            refine ⟨rfl, r, 0, _, upd_same, (by walk_at "ls_hp"), by decide, emod_lo _ (by decide), emod_hi _ (by decide), fun b o h1 h2 e => ?_⟩
            have np : b ≠ p := ne_of_none (by rw [upd_ne h1]; exact e) hp
            rw [upd_ne h1, upd_ne h1, upd_ne h1, upd_ne h2, upd_ne np, upd_ne h1]
            exact e
          · refine ⟨rfl, r, x, m, upd_same, (by walk_at "ls_hp"), ?_, m0, m1, fun b o h1 h2 e => ?_⟩
            · have hx : ¬ x < 10 ^ (18 : Int).toNat := fun z => e (decide_eq_true z)
              have h18 : (0 : Int) ≤ 10 ^ (18 : Int).toNat := by decide
              omega
            have np : b ≠ p := ne_of_none (by rw [upd_ne h1]; exact e) hp
            rw [upd_ne h1, upd_ne h2, upd_ne np, upd_ne h1]
            exact e
      · exact ⟨rfl, ns, d, m, upd_same, (by walk_at "ls_hp"), d0, m0, m1, fun b o h1 h2 e => by rw [upd_ne h1]; exact e⟩
    · rintro σ' H' ⟨rfl, ns, d, m, hS, hL, d0, m0, m1, hO⟩
      walk_at "ls"
      refine ite2 (fun e => ?_) (fun e => ?_)
      · have hd : 0 < d := of_decide_eq_true e
        walk_at "ls"
        refine .inl ⟨_, rfl, ?_⟩
        walk_at "ls"
        refine ⟨hk, ?_⟩
        walk_at "ls"
        refine ⟨⟨hk, log_lt hk hk2⟩, ?_⟩
        walk_at "ls"
        refine q _ _ (emod_lo _ hk) (emod_hi _ hk) ⟨ns, d / k, c + 1, m, upd_same, (by walk_at "ls_hp"), Int.ediv_nonneg (by omega) (by omega), by omega, by omega, m0, m1⟩ fun b o h1 h2 e => ?_
        rw [upd_ne h1]
        exact hO b o h1 h2 e
      · walk_at "ls"
        refine ⟨.inl ⟨by decide, by decide⟩, ?_⟩
        walk_at "ls"
        refine ⟨⟨by decide, by decide, lt_pow m0 m1 (by omega) (by omega)⟩, ?_⟩
        walk_at "ls"
        refine ⟨(by show (0 : Int) < 2147483629; decide), ?_⟩
        walk_at "ls"
        refine ⟨.inr ⟨by decide, by decide⟩, ?_⟩
        walk_at "ls"
        refine ⟨.inl ⟨by decide, by decide⟩, ?_⟩
        walk_at "ls"
        refine ⟨.inr ⟨by omega, by omega⟩, ?_⟩
        walk_at "ls"
        have hx := emod_hi ((m + 104729 * (c + 1) + 17) ^ Int.toNat 5) (show (0 : Int) < 2147483629 by decide)
        have hx0 := emod_lo ((m + 104729 * (c + 1) + 17) ^ Int.toNat 5) (show (0 : Int) < 2147483629 by decide)
        have hsq := sq_le (c := c + 1) (by omega) (by omega)
        refine ⟨⟨by decide, by decide, ?_⟩, ?_⟩
        · show Int.natAbs ((m + 104729 * (c + 1) + 17) ^ Int.toNat 5 % 2147483629 * 48271 + 40503 * (c + 1) * (c + 1) + 13) < 2 ^ 64
          omega
        walk_at "ls"
        refine ⟨(by show (0 : Int) < 1000000007; decide), ?_⟩
        walk_at "ls"
        refine ⟨hk, ?_⟩
        refine q _ _ (emod_lo _ hk) (emod_hi _ hk) ⟨ns, d, c + 1, m, hS, hL, d0, by omega, by omega, m0, m1⟩ hO
end
end Ls
namespace Ls
open PySem PySem.Spec PyProof.Rows L2
/-! ### short steps -/
local macro_rules | `(tactic| walk_at "ls_ne") => `(tactic| first | assumption | exact Ne.symm (by assumption) | exact ne_of_none (by assumption) (by assumption) | exact Ne.symm (ne_of_none (by assumption) (by assumption)))
local macro_rules | `(tactic| walk_at "ls_hp") => `(tactic| first
  | with_reducible assumption
  | exact upd_same
  | exact Eq.trans (upd_ne (by walk_at "ls_ne")) (by walk_at "ls_hp"))
local macro_rules | `(tactic| walk_at "ls_st") => `(tactic| first
  | with_reducible assumption
  | exact Stm.upd (by walk_at "ls_st") (by first | walk_at "ls_ne" | exact (Stm.noneS (by assumption) (by assumption)).1) (by first | walk_at "ls_ne" | exact (Stm.noneS (by assumption) (by assumption)).2))
local macro_rules | `(tactic| walk_at "ls1") => `(tactic| first
  | refine ⟨_, rfl, ?_⟩
  | refine ⟨_, _, rfl, rfl, ?_⟩
  | refine ⟨_, _, _, _, rfl, rfl, .inl (.inl (by walk_at "ls_hp")), rfl, ?_⟩
  | refine ⟨_, _, _, _, rfl, rfl, (by walk_at "ls_hp"), rfl, ?_⟩
  | refine ⟨rfl, _, rfl, ?_⟩
  | refine ⟨.inl ⟨rfl, _, .inl (.inl (by walk_at "ls_hp"))⟩, ?_⟩)
local macro_rules | `(tactic| walk_at "ls") => `(tactic| repeat (walk_at "ls1"))

/-! ### texts -/
theorem abc_cps : (("abcdefghijklmnopqrstuvwxyz" : Str)).cps.toList = List.range' 97 26 := by decide +kernel
theorem abc_at {i : Int} (h0 : 0 ≤ i) (h1 : i < 26) : ∃ c : Nat, atI (("abcdefghijklmnopqrstuvwxyz" : Str)).cps.toList i = some c ∧ 97 ≤ c ∧ c ≤ 122 := by
  obtain ⟨n, rfl⟩ := Int.eq_ofNat_of_zero_le h0
  refine ⟨97 + n, ?_, by omega, by omega⟩
  rw [atI_nat (j := n) (v := 97 + n)]
  rw [abc_cps, List.getElem?_range' (by omega)]
  simp
/-- one to eight small letters -/
def Nm' (z : Str) : Prop := 1 ≤ z.length ∧ z.length ≤ 8 ∧ ∀ c ∈ z.cps.toList, 97 ≤ c ∧ c ≤ 122
def Nm (z : Str) : Prop := Nm' z ∧ z ≠ "strike"
def words : List Str := ["kind", "open", "column", "from", "to", "check", "fall", "clear", "lone", "fresh", "put", "turn", "fell", "spread", "stuck", "again", "bare", "hold"]
theorem words_nm : ∀ y ∈ words, Nm' y := by
  intro y hy
  have h : words.all (fun y => decide (1 ≤ y.length) && decide (y.length ≤ 8) && y.cps.toList.all fun c => decide (97 ≤ c) && decide (c ≤ 122)) = true := by decide +kernel
  have h2 := List.all_eq_true.mp h y hy
  simp only [Bool.and_eq_true, decide_eq_true_eq, List.all_eq_true] at h2
  exact ⟨h2.1.1, h2.1.2, fun c hc => h2.2 c hc⟩
theorem words_at {i : Int} (h0 : 0 ≤ i) (h1 : i < 18) : ∃ y, atI (words.map V.str) i = some (.str y) ∧ y ∈ words := by
  obtain ⟨n, rfl⟩ := Int.eq_ofNat_of_zero_le h0
  have hl : words.length = 18 := by decide +kernel
  have hn : n < words.length := by omega
  refine ⟨words[n], atI_nat ?_, List.getElem_mem hn⟩
  rw [List.getElem?_map, List.getElem?_eq_getElem hn]
  rfl
theorem all_flat : ∀ ts : List Str, (ts.map V.str).all flatV = true
  | [] => rfl
  | t :: r => by rw [List.map_cons, List.all_cons, all_flat r]; rfl
theorem in_strs (z : Str) : ∀ ts : List Str, inV (.str z) (ts.map V.str) = decide (z ∈ ts)
  | [] => rfl
  | t :: r => by
    have ih := in_strs z r
    unfold inV at ih ⊢
    rw [List.map_cons, List.any_cons, ih]
    by_cases h : t = z
    · subst h
      simp [eqV]
    · have h2 : ¬ z = t := fun e => h e.symm
      simp [eqV, h, h2]
theorem signs_at {z : Str} {i : Nat} {x : V} (h : (signs z)[i]? = some x) : ∃ c, x = .str ⟨#[c]⟩ := by
  unfold signs at h
  rw [List.getElem?_map] at h
  cases e : z.cps.toList[i]? with
  | none => rw [e] at h; cases h
  | some c => rw [e] at h; exact ⟨c, (Option.some.inj h).symm⟩
theorem str_at {ts : List Str} {i : Nat} {x : V} (h : (ts.map V.str)[i]? = some x) : ∃ y, x = .str y := by
  rw [List.getElem?_map] at h
  cases e : ts[i]? with
  | none => rw [e] at h; cases h
  | some c => rw [e] at h; exact ⟨c, (Option.some.inj h).symm⟩
def addQ : V → Option V
  | .str c => some (.str ("q" ++ c))
  | _ => none
def qs : List Str := (List.range' 97 26).map fun c => ("q" : Str) ++ (⟨#[c]⟩ : Str)
theorem addQ_all : (signs "abcdefghijklmnopqrstuvwxyz").filterMap addQ = qs.map V.str := by decide +kernel
theorem qs_nm : ∀ y ∈ qs, Nm y := by
  intro y hy
  have h : qs.all (fun y => decide (1 ≤ y.length) && decide (y.length ≤ 8) && (y.cps.toList.all fun c => decide (97 ≤ c) && decide (c ≤ 122)) && !decide (y = "strike")) = true := by decide +kernel
  have h2 := List.all_eq_true.mp h y hy
  simp only [Bool.and_eq_true, decide_eq_true_eq, List.all_eq_true, Bool.not_eq_true', decide_eq_false_iff_not] at h2
  exact ⟨⟨h2.1.1.1, h2.1.1.2, fun c hc => h2.1.2 c hc⟩, h2.2⟩
def notIn (ts : List Str) (v : V) : Option V := if inV v (ts.map V.str) = true then none else some v
theorem notIn_all (ts : List Str) : ∀ ys : List Str, (ys.map V.str).filterMap (notIn ts) = (ys.filter fun z => !decide (z ∈ ts)).map V.str
  | [] => rfl
  | y :: r => by
    rw [List.map_cons, List.filterMap_cons, List.filter_cons, notIn_all ts r]
    unfold notIn
    rw [in_strs]
    by_cases h : y ∈ ts
    · simp [h]
    · simp [h]
theorem sub_len : ∀ (l : List Str), l.Nodup → ∀ ts : List Str, (∀ x ∈ l, x ∈ ts) → l.length ≤ ts.length
  | [], _, ts, _ => Nat.zero_le _
  | a :: r, nd, ts, h => by
    have ha : a ∈ ts := h a (List.mem_cons_self ..)
    have nd' := List.nodup_cons.mp nd
    have ih := sub_len r nd'.2 (ts.erase a) fun x hx => (List.mem_erase_of_ne (fun e => nd'.1 (by rw [← e]; exact hx))).mpr (h x (List.mem_cons_of_mem _ hx))
    rw [List.length_erase_of_mem ha] at ih
    have : 0 < ts.length := List.length_pos_of_mem ha
    rw [List.length_cons]
    omega
theorem some_q {ts : List Str} (h : ts.length < 26) : ∃ y r, (qs.filter fun z => !decide (z ∈ ts)) = y :: r ∧ y ∈ qs ∧ y ∉ ts := by
  cases e : qs.filter fun z => !decide (z ∈ ts) with
  | nil =>
    have h2 : ∀ x ∈ qs, x ∈ ts := fun x hx => by
      have := List.filter_eq_nil_iff.mp e x hx
      simpa using this
    have h3 := sub_len qs (by decide +kernel) ts h2
    have h4 : qs.length = 26 := by decide +kernel
    omega
  | cons y r =>
    have hm : y ∈ qs.filter fun z => !decide (z ∈ ts) := by rw [e]; exact List.mem_cons_self ..
    have h2 := List.mem_filter.mp hm
    exact ⟨y, r, rfl, h2.1, by simpa using h2.2⟩
/-- a text of one sign -/
def one (c : Nat) : Str := ⟨#[c]⟩
theorem joinL_nil : ∀ ps : List (List Nat), TL.joinL [] ps = ps.flatten
  | [] => rfl
  | [p] => by simp [TL.joinL]
  | p :: q :: r => by
    show p ++ ([] ++ TL.joinL [] (q :: r)) = _
    rw [joinL_nil (q :: r)]
    simp
theorem join_ones (cs : List Nat) : Txt.join "" (cs.map one) = ⟨cs.toArray⟩ := by
  have e : cs.map one = (cs.map fun c => [c]).map SX.S := by rw [List.map_map]; rfl
  have e2 : (("" : Str)) = SX.S [] := by decide +kernel
  rw [e, e2, SX.join_S, joinL_nil]
  have : (cs.map fun c => [c]).flatten = cs := by
    clear e e2
    induction cs with
    | nil => rfl
    | cons a r ih =>
      rw [List.map_cons, List.flatten_cons, ih]
      rfl
  rw [this]
theorem ones_len (cs : List Nat) : ((cs.map one).map (·.length)).sum = cs.length := by
  induction cs with
  | nil => rfl
  | cons a r ih =>
    rw [List.map_cons, List.map_cons, List.sum_cons, ih]
    show (1 : Nat) + _ = _
    rw [List.length_cons]
    omega
section
variable {P : Program} {w : World} {K : PySem.W.Frag} {mg : Str → Option Value} {base : Heap}
theorem Old.sq {S L a : Addr} {H H' : Hp} {xs : List V} (h : Old S L H H') (h1 : a ≠ S) (h2 : a ≠ L) (q : SqL K H a xs) : SqL K H' a xs := by
  rcases q with (q | ⟨o, q⟩) | q
  · exact .inl (.inl (h _ _ h1 h2 q))
  · exact .inl (.inr ⟨o, h _ _ h1 h2 q⟩)
  · exact .inr q
/-! ### _law_pick -/
abbrev s__law_pick : Stmt := topS 29
theorem sc__law_pick : FnScope ["_law_stream", "_law_things"] ["_law_stream", "_law_things"] (defScope s__law_pick) := ⟨rfl, rfl, rfl, by decide +kernel, rfl, by decide +kernel, by decide +kernel⟩
abbrev N__law_pick : List Str := ["_law_stream", "_law_things"]
def spPick (K : PySem.W.Frag) : Sp := fun vs H Q _ => ∃ (S L a : Addr) (n : Nat) (xs : List V), vs = [.ref S, .ref a] ∧ Stm H S L n ∧ n ≤ 10000000 ∧ SqL K H a xs ∧ a ≠ S ∧ a ≠ L ∧ 0 < xs.length ∧ xs.length ≤ 1000000 ∧
  ∀ (H' : Hp) (v : V), v ∈ xs → Stm H' S L (n + 1) → Old S L H H' → Q v H'
theorem atI_mem {xs : List V} {i : Int} (h0 : 0 ≤ i) (h1 : i < (xs.length : Int)) : ∃ v, atI xs i = some v ∧ v ∈ xs := by
  obtain ⟨n, rfl⟩ := Int.eq_ofNat_of_zero_le h0
  have hn : n < xs.length := by omega
  exact ⟨xs[n], atI_nat (List.getElem?_eq_getElem hn), List.getElem_mem hn⟩
theorem ok_pick {f : Addr} {fd : FuncData} (F : Fun K "_law_pick" "_law_pick" s__law_pick f fd) (T : Bt mg) (O__law_draw : Own P w K mg base CX0 1 "_law_draw" ["_law_stream", "_law_many"] spDraw) : FnOk P w K mg base CX0 2 f fd ["_law_stream", "_law_things"] (spPick K) := by
  refine F.ok sc__law_pick (fun vs H Q E h => ?_) (fun cdv A outer s H vs Q E hr h => ?_)
  · obtain ⟨S, L, a, n, xs, rfl, _⟩ := h
    rfl
  · obtain ⟨S, L, a, n, xs, rfl, hst, hn, hq, aS, aL, x0, x1, q⟩ := h
    have hu := hu_of hr
    refine ⟨_, (pss_one (ps_ret (pe_ix (ixL K) (pv 1) (own_call O__law_draw hr (by first | decide | omega) (pa_cons (pv 0) (pa_cons (pe_callB (len_seq K) (by rfl) T.m_len (by decide +kernel) (pa_cons (pv 1) pa_nil)) pa_nil))) (fun _ _ => rfl)))), ?_⟩
    walk_at "ls"
    refine ⟨_, _, rfl, .inl hq, ?_⟩
    refine ⟨S, L, n, _, rfl, hst, hn, by omega, by omega, fun H' r r0 r1 hst' hO => ?_⟩
    obtain ⟨v, hv, hm⟩ := atI_mem r0 r1
    exact ⟨_, _, _, v, rfl, rfl, hO.sq aS aL hq, hv, q H' v hm hst' hO⟩
/-! ### _law_fresh -/
abbrev s__law_fresh : Stmt := topS 31
theorem sc__law_fresh : FnScope ["_law_stream", "_law_taken", "_law_letters", "_law_words", "_law_name", "_law_k", "_law_one", "_law_sign"] ["_law_stream", "_law_taken"] (defScope s__law_fresh) := ⟨rfl, rfl, rfl, by decide +kernel, rfl, by decide +kernel, by decide +kernel⟩
abbrev N__law_fresh : List Str := ["_law_stream", "_law_taken", "_law_letters", "_law_words", "_law_name", "_law_k", "_law_one", "_law_sign"]
def spFresh : Sp := fun vs H Q _ => ∃ (S L a : Addr) (n : Nat) (ts : List Str), vs = [.ref S, .ref a] ∧ Stm H S L n ∧ n ≤ 9999900 ∧ H a = some (.lst (ts.map V.str)) ∧ a ≠ S ∧ a ≠ L ∧ ts.length < 26 ∧
  ∀ (H' : Hp) (z : Str), Nm z → z ∉ ts → Stm H' S L (n + 12) → Old S L H H' → Q (.str z) H'
theorem ok_fresh {f : Addr} {fd : FuncData} (F : Fun K "_law_fresh" "_law_fresh" s__law_fresh f fd) (T : Bt mg) (O__law_draw : Own P w K mg base CX0 1 "_law_draw" ["_law_stream", "_law_many"] spDraw) : FnOk P w K mg base CX0 2 f fd ["_law_stream", "_law_taken"] spFresh := by
  refine F.ok sc__law_fresh (fun vs H Q E h => ?_) (fun cdv A outer s H vs Q E hr h => ?_)
  · obtain ⟨S, L, a, n, ts, rfl, _⟩ := h
    rfl
  · obtain ⟨S, L, a, n, ts, rfl, hst, hn, ha, aS, aL, tl, q⟩ := h
    have hu := hu_of hr
    refine ⟨_, (pss_cons (ps_asg (pe_tup (pa_cons pe_str (pa_cons (pe_lst (pa_cons pe_str (pa_cons pe_str (pa_cons pe_str (pa_cons pe_str (pa_cons pe_str (pa_cons pe_str (pa_cons pe_str pa_nil)))))))) pa_nil))) (pg_tup rfl (pgs_cons (pg_name (i := 2) sc__law_fresh.nd rfl (Or.inr rfl)) (pgs_cons (pg_name (i := 3) sc__law_fresh.nd rfl (Or.inl rfl)) pgs_nil))))
      (pss_cons (ps_set (i := 3) sc__law_fresh.nd rfl (Or.inl rfl) (pe_op op_cat (pv 3) (pe_lst (pa_cons pe_str (pa_cons pe_str (pa_cons pe_str (pa_cons pe_str (pa_cons pe_str (pa_cons pe_str (pa_cons pe_str (pa_cons pe_str (pa_cons pe_str (pa_cons pe_str (pa_cons pe_str pa_nil))))))))))))))
      (pss_cons (ps_set (i := 4) sc__law_fresh.nd rfl (Or.inl rfl) (pe_join pe_str (pe_lc (own := [("_law_k", 5)]) (g := gName 5) (by rfl) sc__law_fresh.nd (pi_range1 rfl T.m_range (pa_cons (pe_op op_add pe_int (own_call O__law_draw hr (by first | decide | omega) (pa_cons (pv 0) (pa_cons pe_int pa_nil)))) pa_nil)) (blkOk_by (own := [("_law_k", 5)]) (N := N__law_fresh) (sc := defScope s__law_fresh) (by decide +kernel)) (fun _ _ _ _ _ => (pg_name (i := 5) sc__law_fresh.nd rfl (Or.inl rfl) (Or.inr rfl))) (fun _ _ _ _ _ => pts_nil) (fun _ _ _ _ _ => (pe_ix ix_str (pv 2) (own_call O__law_draw hr (by first | decide | omega) (pa_cons (pv 0) (pa_cons pe_int pa_nil))) (fun _ _ => rfl))))))
      (C8.pss_cut (ps_set (i := 4) sc__law_fresh.nd rfl (Or.inl rfl) (pe_ifExp (pt_cmpR op_eq (own_call O__law_draw hr (by first | decide | omega) (pa_cons (pv 0) (pa_cons pe_int pa_nil))) pe_int (nomark _)) (pe_ix (ixL K) (pv 3) (own_call O__law_draw hr (by first | decide | omega) (pa_cons (pv 0) (pa_cons pe_int pa_nil))) (fun _ _ => rfl)) (pv 4)))
      (pss_cons (ps_if (PW.pt (pw_or (pt_cmpR (in_seq K) (pv 4) (pv 1) (by rfl)) (pw_or1 (pt_cmpR op_eq (pv 4) pe_str (nomark _))))) (pss_one (ps_ret (pe_ix (ixL K) (pe_lc (own := [("_law_one", 6)]) (g := gName 6) (by rfl) sc__law_fresh.nd (pi_list (pe_lc (own := [("_law_sign", 7)]) (g := gName 7) (by rfl) sc__law_fresh.nd (pi_str (pv 2)) (blkOk_by (own := [("_law_sign", 7)]) (N := N__law_fresh) (sc := defScope s__law_fresh) (by decide +kernel)) (fun _ _ _ _ _ => (pg_name (i := 7) sc__law_fresh.nd rfl (Or.inl rfl) (Or.inr rfl))) (fun _ _ _ _ _ => pts_nil) (fun _ _ _ _ _ => (pe_op op_add_str pe_str (pv 7))))) (blkOk_by (own := [("_law_one", 6)]) (N := N__law_fresh) (sc := defScope s__law_fresh) (by decide +kernel)) (fun _ _ _ _ _ => (pg_name (i := 6) sc__law_fresh.nd rfl (Or.inl rfl) (Or.inr rfl))) (fun _ _ _ _ _ => (pts_one (pt_cmpR (notIn_seq K) (pv 6) (pv 1) (by rfl)))) (fun _ _ _ _ _ => (pv 6))) pe_int (fun _ _ => rfl)))) pss_nil)
      (pss_one (ps_ret (pv 4)))))))), ?_⟩
    refine ⟨(by show 7 ≤ sizeLine; decide), fun w0 hw0 => ⟨(by show 2 ≤ sizeLine; decide), fun t0 ht0 => ?_⟩⟩
    have nw0 := hst.noneS hw0
    have nt0 : t0 ≠ w0 := fun e => by rw [e, upd_same] at ht0; cases ht0
    refine ⟨_, _, rfl, .inl (.inl upd_same), rfl, _, _, rfl, _, _, rfl, rfl, ?_⟩
    walk_at "ls"
    refine ⟨(by show 11 ≤ sizeLine; decide), fun w1 hw1 => ?_⟩
    have n10 : w1 ≠ w0 := fun e => by rw [e, upd_ne nt0.symm, upd_same] at hw1; cases hw1
    refine ⟨_, _, _, _, rfl, rfl, (by rw [upd_ne n10.symm, upd_ne nt0.symm]; exact upd_same), upd_same, (by show 7 + 11 ≤ sizeLine; decide), fun w2 hw2 => ?_⟩
    have mt := (Stm.upd hst nw0.1 nw0.2).noneS ht0
    have m1 := (Stm.upd (Stm.upd hst nw0.1 nw0.2) mt.1 mt.2).noneS hw1
    have m2 := (Stm.upd (Stm.upd (Stm.upd hst nw0.1 nw0.2) mt.1 mt.2) m1.1 m1.2).noneS hw2
    refine at_heap (φ := fun H1 => Stm H1 S L n ∧ Old S L H H1 ∧ H1 w2 = some (.lst (words.map V.str)) ∧ w2 ≠ S ∧ w2 ≠ L) ⟨?_, ?_, upd_same, m2⟩ ?_
    · exact (((hst.upd nw0.1 nw0.2).upd mt.1 mt.2).upd m1.1 m1.2).upd m2.1 m2.2
    · exact (((Old.new hw0).trans (.new ht0)).trans (.new hw1)).trans (.new hw2)
    rintro H1 ⟨st1, od1, h2, nw2⟩
    walk_at "ls"
    refine ⟨⟨_, rfl⟩, ?_⟩
    walk_at "ls"
    refine ⟨S, L, n, 8, rfl, st1, by omega, by decide, by decide, fun H2 r r0 r1 st2 od2 => ?_⟩
    walk_at "ls"
    refine ⟨by omega, by omega, fun D hD => ?_⟩
    have nD := st2.noneS hD
    refine lc_it walk_range (fun i H3 => ∃ cs : List Nat, cs.length = i ∧ (∀ c ∈ cs, 97 ≤ c ∧ c ≤ 122) ∧ H3 D = some (.lst ((cs.map one).map V.str)) ∧ Stm H3 S L (n + 1 + i) ∧ Old S L H2 H3) ⟨[], rfl, (fun _ h => nomatch h), upd_same, st2.upd nD.1 nD.2, .new hD⟩ (fun _ _ _ _ => trivial) (fun i x H3 H4 hi hP hy => ?_) (fun H3 hP => ?_)
    · obtain ⟨cs, hl, hc, h3, st3, od3⟩ := hP
      obtain ⟨rfl, rfl⟩ := hy
      refine ⟨rfl, ?_⟩
      walk_at "ls"
      refine ⟨S, L, n + 1 + i, 26, rfl, st3, by omega, by decide, by decide, fun H5 q0 q1 q2 st5 od5 => ?_⟩
      obtain ⟨c, hcat, hc1, hc2⟩ := abc_at q1 q2
      refine ⟨_, _, c, rfl, rfl, (by decide +kernel), hcat, _, od5 D _ nD.1 nD.2 h3, ?_, cs ++ [c], ?_, ?_, ?_, ?_, ?_⟩
      · rw [List.length_map, List.length_map, hl]
        exact small1000 (by omega)
      · rw [List.length_append, hl]
        rfl
      · intro d hd
        rcases List.mem_append.mp hd with h | h
        · exact hc d h
        · rw [List.mem_singleton.mp h]
          exact ⟨hc1, hc2⟩
      · rw [upd_same, List.map_append, List.map_append]
        rfl
      · exact (st5.mono (by omega)).upd nD.1 nD.2
      · intro b o h1 h2 e
        rw [upd_ne (ne_of_none e hD)]
        exact od5 b o h1 h2 (od3 b o h1 h2 e)
    · obtain ⟨cs, hl, hc, h3, st3, od3⟩ := hP
      refine ⟨_, D, cs.map one, rfl, rfl, .inl (.inl (.inl h3)), ?_, ?_⟩
      · rw [ones_len, List.length_map]
        show cs.length + cs.length * 0 ≤ 16777216
        omega
      rw [join_ones]
      refine at_heap (φ := fun H4 => Stm H4 S L (n + 10) ∧ Old S L H H4 ∧ H4 w2 = some (.lst (words.map V.str))) ⟨st3.mono (by omega), (od1.trans od2).trans od3, od3 _ _ nw2.1 nw2.2 (od2 _ _ nw2.1 nw2.2 h2)⟩ ?_
      rintro H4 ⟨st4, od4, h4⟩
      refine ⟨fun σ' H' => ∃ z, Nm' z ∧ σ' = [some (.ref S), some (.ref a), some (.str "abcdefghijklmnopqrstuvwxyz"), some (.ref w2), some (.str z), none, none, none] ∧ Stm H' S L (n + 12) ∧ Old S L H H', ?_, ?_⟩
      · walk_at "ls"
        refine ⟨S, L, n + 10, 8, rfl, st4, by omega, by decide, by decide, fun H5 q0 q1 q2 st5 od5 => ?_⟩
        walk_at "ls"
        refine ite2 (fun e => ?_) (fun e => ?_)
        · walk_at "ls"
          refine ⟨S, L, n + 11, 18, rfl, st5, by omega, by decide, by decide, fun H6 u0 u1 u2 st6 od6 => ?_⟩
          obtain ⟨y, hy, hm⟩ := words_at u1 u2
          exact ⟨_, _, _, _, rfl, rfl, .inl (.inl (od6 _ _ nw2.1 nw2.2 (od5 _ _ nw2.1 nw2.2 h4))), hy, y, words_nm y hm, rfl, st6, (od4.trans od5).trans od6⟩
        · walk_at "ls"
          exact ⟨_, ⟨(by show 1 ≤ cs.toArray.size; rw [List.size_toArray]; omega), (by show cs.toArray.size ≤ 8; rw [List.size_toArray]; omega), fun c h => hc c h⟩, rfl, st5.mono (by omega), od4.trans od5⟩
      · rintro σ' H6 ⟨z, hz, rfl, st6, od6⟩
        have ha6 : H6 a = some (.lst (ts.map V.str)) := od6 _ _ aS aL ha
        refine or2 (decide (z ∈ ts)) (decide (V.str z = V.str "strike")) (fun Q' q' => ?_) (fun _ Q' q' => ?_) ?_
        · walk_at "ls"
          refine ⟨_, _, rfl, .inl (.inl (.inl ha6)), rfl, all_flat ts, _, rfl, ?_⟩
          rw [in_strs]
          exact q'
        · walk_at "ls"
          exact q'
        refine ite2 (fun e => ?_) (fun e => ?_)
        · -- some name that is not taken
          walk_at "ls"
          intro D1 hD1
          refine lc_pure walk_str (signs "abcdefghijklmnopqrstuvwxyz") addQ (signs_len _) yld_str (by decide +kernel) (fun _ => trivial) (fun i x hi hx => ?_) ?_
          · obtain ⟨c, rfl⟩ := signs_at hx
            refine ⟨rfl, ?_⟩
            walk_at "ls"
            exact ⟨(by show 1 + 1 ≤ sizeLine; decide), lc_yes hx hi (by decide +kernel) rfl⟩
          have nd1 := st6.noneS hD1
          refine ⟨_, rfl, ⟨_, .inl (.inl upd_same)⟩, fun D2 hD2 => ?_⟩
          rw [addQ_all] at hD2 ⊢
          have n12 : D1 ≠ D2 := fun e => by rw [← e, upd_same] at hD2; cases hD2
          have naD : a ≠ D1 := ne_of_none ha6 hD1
          have ha7 : ∀ acc, (upd (upd H6 D1 (.lst (qs.map V.str))) D2 (.lst acc)) a = some (.lst (ts.map V.str)) := fun acc => by
            have naD2 : a ≠ D2 := ne_of_none (show (upd H6 D1 (.lst (qs.map V.str))) a = some _ by rw [upd_ne naD]; exact ha6) hD2
            rw [upd_ne naD2, upd_ne naD]
            exact ha6
          refine lc_pure (walk_list (xs := qs.map V.str)) (qs.map V.str) (notIn ts) rfl (fun i H x H' hi hy => hy) (by decide +kernel) (fun acc => .inl (.inl (by rw [upd_ne n12]; exact upd_same))) (fun i x hi hx => ?_) ?_
          · obtain ⟨y, rfl⟩ := str_at hx
            refine ⟨rfl, ?_⟩
            walk_at "ls"
            refine ⟨_, _, rfl, .inl (.inl (.inl (ha7 _))), rfl, all_flat ts, _, rfl, ?_⟩
            show if (!inV (V.str y) (ts.map V.str)) = true then _ else _
            rw [in_strs]
            refine ite2 (fun e => ?_) (fun e => ?_)
            · walk_at "ls"
              exact lc_yes hx hi (by decide +kernel) (by unfold notIn; rw [in_strs]; simpa using e)
            · exact lc_no hx (by unfold notIn; rw [in_strs]; simpa using e)
          · rw [notIn_all]
            obtain ⟨y, r, hy, hq, hn⟩ := some_q tl
            rw [hy]
            walk_at "ls"
            refine ⟨_, _, _, _, rfl, rfl, .inl (.inl upd_same), atI_nat (j := 0) rfl, q _ y (qs_nm y hq) hn ?_ ?_⟩
            · have nd2 := (st6.upd nd1.1 nd1.2).noneS hD2
              exact (st6.upd nd1.1 nd1.2).upd nd2.1 nd2.2
            · exact (od6.trans (.new hD1)).trans (.new hD2)
        · walk_at "ls"
          rw [Bool.or_eq_true, not_or, decide_eq_true_eq, decide_eq_true_eq] at e
          exact q H6 z ⟨hz, fun h => e.2 (congrArg V.str h)⟩ e.1 st6 od6
end
end Ls
namespace Ls
open PySem PySem.Spec PyProof.Rows L2
/-! ### short steps -/
local macro_rules | `(tactic| walk_at "ls_ne") => `(tactic| first | assumption | exact Ne.symm (by assumption) | exact ne_of_none (by assumption) (by assumption) | exact Ne.symm (ne_of_none (by assumption) (by assumption)))
local macro_rules | `(tactic| walk_at "ls_hp") => `(tactic| first
  | with_reducible assumption
  | exact upd_same
  | exact Eq.trans (upd_ne (by walk_at "ls_ne")) (by walk_at "ls_hp"))
local macro_rules | `(tactic| walk_at "ls_st") => `(tactic| first
  | with_reducible assumption
  | exact Stm.upd (by walk_at "ls_st") (by first | walk_at "ls_ne" | exact (Stm.noneS (by assumption) (by assumption)).1) (by first | walk_at "ls_ne" | exact (Stm.noneS (by assumption) (by assumption)).2))
local macro_rules | `(tactic| walk_at "ls1") => `(tactic| first
  | refine ⟨_, rfl, ?_⟩
  | refine ⟨_, _, rfl, rfl, ?_⟩
  | refine ⟨_, _, _, _, rfl, rfl, .inl (.inl (by walk_at "ls_hp")), rfl, ?_⟩
  | refine ⟨_, _, _, _, rfl, rfl, (by walk_at "ls_hp"), rfl, ?_⟩
  | refine ⟨rfl, _, rfl, ?_⟩
  | refine ⟨.inl ⟨rfl, _, .inl (.inl (by walk_at "ls_hp"))⟩, ?_⟩)
local macro_rules | `(tactic| walk_at "ls") => `(tactic| repeat (walk_at "ls1"))

section
variable {P : Program} {w : World} {K : PySem.W.Frag} {mg : Str → Option Value} {base : Heap}
theorem nodup_snoc {α : Type} {l : List α} {x : α} (h : l.Nodup) (hx : x ∉ l) : (l ++ [x]).Nodup := by
  rw [List.nodup_append]
  refine ⟨h, by simp, fun a ha b hb e => ?_⟩
  rw [List.mem_singleton.mp hb] at e
  exact hx (e ▸ ha)
theorem all_snoc {α : Type} {p : α → Prop} {l : List α} {x : α} (h : ∀ y ∈ l, p y) (hx : p x) : ∀ y ∈ l ++ [x], p y := fun y hy => by
  rcases List.mem_append.mp hy with h1 | h1
  · exact h y h1
  · rw [List.mem_singleton.mp h1]
    exact hx
/-! ### _law_names -/
abbrev s__law_names : Stmt := topS 32
theorem sc__law_names : FnScope ["_law_stream", "_law_many", "_law_found", "_law_k"] ["_law_stream", "_law_many"] (defScope s__law_names) := ⟨rfl, rfl, rfl, by decide +kernel, rfl, by decide +kernel, by decide +kernel⟩
abbrev N__law_names : List Str := ["_law_stream", "_law_many", "_law_found", "_law_k"]
/-- names, all unlike -/
def NmsOk (ts : List Str) : Prop := ts.Nodup ∧ ∀ z ∈ ts, Nm z
def spNames : Sp := fun vs H Q _ => ∃ (S L : Addr) (n m : Nat), vs = [.ref S, .int (m : Int)] ∧ Stm H S L n ∧ n ≤ 9999000 ∧ m ≤ 20 ∧
  ∀ (H' : Hp) (p : Addr) (ts : List Str), ts.length = m → NmsOk ts → H p = none → H' p = some (.lst (ts.map V.str)) → Stm H' S L (n + 12 * m) → Old S L H H' → Q (.ref p) H'
theorem ok_names {f : Addr} {fd : FuncData} (F : Fun K "_law_names" "_law_names" s__law_names f fd) (T : Bt mg) (O__law_fresh : Own P w K mg base CX0 2 "_law_fresh" ["_law_stream", "_law_taken"] spFresh) : FnOk P w K mg base CX0 3 f fd ["_law_stream", "_law_many"] spNames := by
  refine F.ok sc__law_names (fun vs H Q E h => ?_) (fun cdv A outer s H vs Q E hr h => ?_)
  · obtain ⟨S, L, n, m, rfl, _⟩ := h
    rfl
  · obtain ⟨S, L, n, m, rfl, hst, hn, hm, q⟩ := h
    have hu := hu_of hr
    refine ⟨_, (pss_cons (ps_set (i := 2) sc__law_names.nd rfl (Or.inl rfl) (pe_lst pa_nil))
      (pss_cons (ps_for PassesOwn.never rfl (pi_range1 rfl T.m_range (pa_cons (pv 1) pa_nil)) (pg_name (i := 3) sc__law_names.nd rfl (Or.inl rfl)) (pss_one (ps_expr (pe_bm PySem.F.plainAttrs_list PySem.F.slot_list_append PySem.F.type_list_append mt_append (pv 2) (pa_cons (own_call O__law_fresh hr (by first | decide | omega) (pa_cons (pv 0) (pa_cons (pv 2) pa_nil))) pa_nil)))))
      (pss_one (ps_ret (pv 2))))), ?_⟩
    refine ⟨Nat.zero_le _, fun p hp => ?_⟩
    have np := hst.noneS hp
    walk_at "ls"
    refine ⟨by omega, by omega, ?_⟩
    refine for_it walk_range (fun i σ H1 => ∃ (ts : List Str) (v : Option V), σ = [some (.ref S), some (.int (m : Int)), some (.ref p), v] ∧ ts.length = i ∧ NmsOk ts ∧ H1 p = some (.lst (ts.map V.str)) ∧ Stm H1 S L (n + 12 * i) ∧ Old S L H H1)
      ⟨[], none, rfl, rfl, ⟨List.nodup_nil, fun _ h => nomatch h⟩, upd_same, hst.upd np.1 np.2, .new hp⟩ (fun _ _ _ _ _ => trivial) ?_ ?_
    · rintro i x σ H1 H2 hi ⟨ts, v, rfl, hl, hok, h1, st1, od1⟩ ⟨rfl, rfl⟩
      walk_at "ls"
      refine ⟨S, L, p, n + 12 * i, ts, rfl, st1, by omega, h1, np.1, np.2, by omega, fun H3 z hz hn2 st3 od3 => ?_⟩
      refine ⟨_, _, _, rfl, rfl, od3 _ _ np.1 np.2 h1, ?_, ts ++ [z], _, rfl, ?_, ⟨?_, ?_⟩, ?_, ?_, ?_⟩
      · rw [List.length_map]
        exact small1000 (by omega)
      · rw [List.length_append, hl]
        rfl
      · exact nodup_snoc hok.1 hn2
      · exact all_snoc hok.2 hz
      · rw [upd_same, List.map_append]
        rfl
      · exact (st3.mono (by omega)).upd np.1 np.2
      · exact (od1.trans od3).set hp
    · rintro σ H1 ⟨ts, v, rfl, hl, hok, h1, st1, od1⟩
      walk_at "ls"
      exact q H1 p ts hl hok hp h1 st1 od1
/-! ### _law_shape -/
abbrev s__law_shape : Stmt := topS 33
theorem sc__law_shape : FnScope ["_law_stream", "_law_many", "_law_most", "_law_words", "_law_columns", "_law_name", "_law_home", "_law_goal", "_law_kinds"] ["_law_stream", "_law_many", "_law_most"] (defScope s__law_shape) := ⟨rfl, rfl, rfl, by decide +kernel, rfl, by decide +kernel, by decide +kernel⟩
abbrev N__law_shape : List Str := ["_law_stream", "_law_many", "_law_most", "_law_words", "_law_columns", "_law_name", "_law_home", "_law_goal", "_law_kinds"]
/-- what a book is made of: kinds, columns (a name, its home, its goal, does it fall) -/
structure Shp where
  ks : List (Str × Bool)
  cs : List (Str × Str × Str × Bool)
abbrev ruleS (b : Bool) : Str := if b then "fall" else "clear"
def kindV (k : Str × Bool) : List V := [.str k.1, .bl k.2]
def colV (c : Str × Str × Str × Bool) : List V := [.str c.1, .str c.2.1, .str c.2.2.1, .str (ruleS c.2.2.2)]
/-- v is a tuple of these values -/
def TupOf (H : Hp) (v : V) (ys : List V) : Prop := ∃ t, v = .ref t ∧ H t = some (.tup ys)
/-- a list of tuples stands at a -/
def TupsAt (H : Hp) (xs : List V) (yss : List (List V)) : Prop := Paired (TupOf H) xs yss
structure Shp.Ok (B : Shp) : Prop where
  nk : 0 < B.ks.length
  nk3 : B.ks.length ≤ 3
  nc : B.cs.length ≤ 8
  nd : (B.ks.map (·.1) ++ B.cs.map (·.1)).Nodup
  nm : ∀ z ∈ B.ks.map (·.1) ++ B.cs.map (·.1), Nm z
  home : ∀ c ∈ B.cs, c.2.1 ∈ B.ks.map (·.1)
  goal : ∀ c ∈ B.cs, c.2.2.1 ∈ B.ks.map (·.1)
  nc0 : 0 < B.cs.length
/-- the law's own record of a shape at b -/
structure ShpAt (S L : Addr) (H : Hp) (b : Addr) (B : Shp) (ck : List Str) : Prop where
  ex : ∃ (ka ca ea : Addr) (kx cx : List V), H b = some (.dK [(.inr "kinds", .ref ka), (.inr "columns", .ref ca), (.inr "checks", .ref ea)]) ∧
    H ka = some (.lst kx) ∧ TupsAt H kx (B.ks.map kindV) ∧ H ca = some (.lst cx) ∧ TupsAt H cx (B.cs.map colV) ∧ H ea = some (.lst (ck.map V.str)) ∧ (ka ≠ S ∧ ka ≠ L) ∧ (ca ≠ S ∧ ca ≠ L) ∧ (ea ≠ S ∧ ea ≠ L)
/-! ### what stays of tuples -/
def TK (H H' : Hp) : Prop := ∀ t ys, H t = some (.tup ys) → H' t = some (.tup ys)
theorem TK.refl (H : Hp) : TK H H := fun _ _ h => h
theorem TK.trans {H H1 H2 : Hp} (a : TK H H1) (b : TK H1 H2) : TK H H2 := fun t ys h => b t ys (a t ys h)
theorem TK.same {H H1 : Hp} (s : Same H H1) : TK H H1 := fun t ys h => s t _ h
theorem TK.new {H : Hp} {p : Addr} {o : HO} (h : H p = none) : TK H (upd H p o) := .same (same_new h)
theorem TK.lst {H : Hp} {p : Addr} {o : HO} {xs : List V} (h : H p = some (.lst xs)) : TK H (upd H p o) := fun t ys e => by
  rw [upd_ne (ne_of e h fun z => nomatch z)]
  exact e
theorem TK.dK {H : Hp} {p : Addr} {o : HO} {xs : List (Key × V)} (h : H p = some (.dK xs)) : TK H (upd H p o) := fun t ys e => by
  rw [upd_ne (ne_of e h fun z => nomatch z)]
  exact e
theorem TK.old {S L : Addr} {H H' : Hp} {n : Nat} (st : Stm H S L n) (od : Old S L H H') : TK H H' := fun t ys e => by
  obtain ⟨ns, d, c, k, h1, h2, _⟩ := st
  exact od _ _ (ne_of e h1 fun z => nomatch z) (ne_of e h2 fun z => nomatch z) e
theorem TupOf.keep {H H' : Hp} {v : V} {ys : List V} (h : TupOf H v ys) (k : TK H H') : TupOf H' v ys := by
  obtain ⟨t, e, h⟩ := h
  exact ⟨t, e, k _ _ h⟩
theorem TupsAt.keep {H H' : Hp} : ∀ {xs : List V} {yss : List (List V)}, TupsAt H xs yss → TK H H' → TupsAt H' xs yss
  | _, _, .nil, _ => .nil
  | _, _, .cons r t, k => .cons (r.keep k) (TupsAt.keep t k)
theorem TupsAt.snoc {H : Hp} : ∀ {xs : List V} {yss : List (List V)} {v : V} {ys : List V}, TupsAt H xs yss → TupOf H v ys → TupsAt H (xs ++ [v]) (yss ++ [ys])
  | _, _, _, _, .nil, r => .cons r .nil
  | _, _, _, _, .cons a t, r => .cons a (TupsAt.snoc t r)
theorem TupsAt.len {H : Hp} {xs : List V} {yss : List (List V)} (h : TupsAt H xs yss) : xs.length = yss.length := Paired.length h
theorem rule_at {i : Int} (h0 : 0 ≤ i) (h1 : i < 3) : ∃ b, atI [V.str "fall", V.str "fall", V.str "clear"] i = some (.str (ruleS b)) := by
  obtain ⟨n, rfl⟩ := Int.eq_ofNat_of_zero_le h0
  match n, h1 with
  | 0, _ => exact ⟨true, rfl⟩
  | 1, _ => exact ⟨true, rfl⟩
  | 2, _ => exact ⟨false, rfl⟩
  | k + 3, h => omega
theorem ShpAt.old {S L : Addr} {H H' : Hp} {b : Addr} {B : Shp} {ck : List Str} {n : Nat} (h : ShpAt S L H b B ck) (st : Stm H S L n) (od : Old S L H H') : ShpAt S L H' b B ck := by
  obtain ⟨ka, ca, ea, kx, cx, hb, hk, hkt, hc, hct, he, n1, n2, n3⟩ := h
  have k := TK.old st od
  have nb : b ≠ S ∧ b ≠ L := by
    obtain ⟨ns, d, c, k, h1, h2, _⟩ := st
    exact ⟨ne_of hb h1 (fun z => nomatch z), ne_of hb h2 (fun z => nomatch z)⟩
  exact ⟨ka, ca, ea, kx, cx, od _ _ nb.1 nb.2 hb, od _ _ n1.1 n1.2 hk, hkt.keep k, od _ _ n2.1 n2.2 hc, hct.keep k, od _ _ n3.1 n3.2 he, n1, n2, n3⟩
theorem ShpAt.same {S L : Addr} {H H' : Hp} {b : Addr} {B : Shp} {ck : List Str} (h : ShpAt S L H b B ck) (s : Same H H') : ShpAt S L H' b B ck := by
  obtain ⟨ka, ca, ea, kx, cx, hb, hk, hkt, hc, hct, he, n1, n2, n3⟩ := h
  exact ⟨ka, ca, ea, kx, cx, s _ _ hb, s _ _ hk, hkt.keep (.same s), s _ _ hc, hct.keep (.same s), s _ _ he, n1, n2, n3⟩
theorem cut_take (xs : List V) (n : Nat) : cutV xs none (some (n : Int)) = xs.take n := by
  unfold cutV
  rw [HT.sIx_nat, HT.sIx_none, List.drop_zero, Nat.sub_zero]
  by_cases h : n ≤ xs.length
  · rw [Nat.min_eq_left h]
  · rw [Nat.min_eq_right (by omega), List.take_of_length_le (Nat.le_refl _), List.take_of_length_le (by omega)]
theorem cut_mid (xs : List V) (m k : Nat) (hm : m ≤ xs.length) : cutV xs (some (m : Int)) (some ((m + k : Nat) : Int)) = (xs.drop m).take k := by
  unfold cutV
  rw [HT.sIx_nat, HT.sIx_nat, Nat.min_eq_left hm]
  by_cases h : m + k ≤ xs.length
  · rw [Nat.min_eq_left h, Nat.add_sub_cancel_left]
  · rw [Nat.min_eq_right (by omega), List.take_of_length_le (by rw [List.length_drop]; omega), List.take_of_length_le (by rw [List.length_drop]; omega)]
end
section
variable {P : Program} {w : World} {K : PySem.W.Frag} {mg : Str → Option Value} {base : Heap}
def spShape : Sp := fun vs H Q _ => ∃ (S L : Addr) (n m c : Nat), vs = [.ref S, .int (m : Int), .int (c : Int)] ∧ Stm H S L n ∧ n ≤ 9990000 ∧ 0 < m ∧ m ≤ 3 ∧ 0 < c ∧ c ≤ 8 ∧
  ∀ (H' : Hp) (b : Addr) (B : Shp), B.Ok → B.ks.length = m → B.cs.length ≤ c → H b = none → ShpAt S L H' b B [] → Stm H' S L (n + 200) → Old S L H H' → Q (.ref b) H'
theorem ok_shape {f : Addr} {fd : FuncData} (F : Fun K "_law_shape" "_law_shape" s__law_shape f fd) (T : Bt mg) (O__law_draw : Own P w K mg base CX0 1 "_law_draw" ["_law_stream", "_law_many"] spDraw)
    (O__law_pick : Own P w K mg base CX0 2 "_law_pick" ["_law_stream", "_law_things"] (spPick K)) (O__law_names : Own P w K mg base CX0 3 "_law_names" ["_law_stream", "_law_many"] spNames) :
    FnOk P w K mg base CX0 4 f fd ["_law_stream", "_law_many", "_law_most"] spShape := by
  refine F.ok sc__law_shape (fun vs H Q E h => ?_) (fun cdv A outer s H vs Q E hr h => ?_)
  · obtain ⟨S, L, n, m, c, rfl, _⟩ := h
    rfl
  · obtain ⟨S, L, n, m, c, rfl, hst, hn, m0, m3, c0, c8, q⟩ := h
    have hu := hu_of hr
    refine ⟨_, (pss_cons (ps_par (i := 3) (j := 4) (by rfl) sc__law_shape.nd rfl rfl (by decide) rfl rfl (pa_cons (own_call O__law_names hr (by first | decide | omega) (pa_cons (pv 0) (pa_cons (pe_op op_add (pv 1) (pv 2)) pa_nil))) (pa_cons (pe_lst pa_nil) pa_nil)) (by rfl))
      (pss_cons (ps_for PassesOwn.never rfl (pi_list (pe_slice sl_list (pv 3) (po_some (pv 1)) (po_some (pe_op op_add (pe_op op_add (pv 1) pe_int) (own_call O__law_draw hr (by first | decide | omega) (pa_cons (pv 0) (pa_cons (pv 2) pa_nil))))))) (pg_name (i := 5) sc__law_shape.nd rfl (Or.inl rfl)) (pss_cons (ps_par (i := 6) (j := 7) (by rfl) sc__law_shape.nd rfl rfl (by decide) rfl rfl (pa_cons (own_call O__law_pick hr (by first | decide | omega) (pa_cons (pv 0) (pa_cons (pe_slice sl_list (pv 3) po_none (po_some (pv 1))) pa_nil))) (pa_cons (own_call O__law_pick hr (by first | decide | omega) (pa_cons (pv 0) (pa_cons (pe_slice sl_list (pv 3) po_none (po_some (pv 1))) pa_nil))) pa_nil)) (by rfl))
      (pss_one (ps_expr (pe_bm PySem.F.plainAttrs_list PySem.F.slot_list_append PySem.F.type_list_append mt_append (pv 4) (pa_cons (pe_tup (pa_cons (pv 5) (pa_cons (pv 6) (pa_cons (pv 7) (pa_cons (pe_ix (ixL K) (pe_lst (pa_cons pe_str (pa_cons pe_str (pa_cons pe_str pa_nil)))) (own_call O__law_draw hr (by first | decide | omega) (pa_cons (pv 0) (pa_cons pe_int pa_nil))) (fun _ _ => rfl)) pa_nil))))) pa_nil))))))
      (pss_cons (ps_setLc (i := 8) (own := [("_law_name", 5)]) (g := gName 5) (by rfl) sc__law_shape.nd rfl rfl (sw_true rfl rfl rfl (by decide +kernel)) (pi_list (pe_slice sl_list (pv 3) po_none (po_some (pv 1)))) (blkOk_by (own := [("_law_name", 5)]) (N := N__law_shape) (sc := defScope s__law_shape) (by decide +kernel)) (fun _ _ _ _ _ => (pg_name (i := 5) sc__law_shape.nd rfl (Or.inl rfl) (Or.inr rfl))) (fun _ _ _ _ _ => pts_nil) (fun _ _ _ _ _ => (pe_tup (pa_cons (pv 5) (pa_cons (pe_cmpR op_gt (own_call O__law_draw hr (by first | decide | omega) (pa_cons (pv 0) (pa_cons pe_int pa_nil))) pe_int (nomark _)) pa_nil)))))
      (pss_one (ps_ret (pe_disp (pps_cons pe_str (pv 8) (pps_cons pe_str (pv 4) (pps_cons pe_str (pe_lst pa_nil) pps_nil))) (by rfl) (by rfl) (fun z => by cases z) (by decide))))))), ?_⟩
    walk_at "ls"
    refine ⟨S, L, n, m + c, rfl, hst, by omega, by omega, fun H1 pw ts tl tok hpw h1 st1 od1 => ?_⟩
    refine ⟨Nat.zero_le _, fun ca hca => ?_⟩
    refine ⟨_, _, rfl, ?_⟩
    have npw := hst.noneS hpw
    have hca0 : H ca = none := by
      cases e : H ca with
      | none => rfl
      | some o => rw [od1 _ _ (st1.noneS hca).1 (st1.noneS hca).2 e] at hca; cases hca
    have nca := st1.noneS hca
    have ncw : pw ≠ ca := ne_of_none h1 hca
    -- the slice of the columns' names
    walk_at "ls"
    refine ⟨S, L, n + 12 * (m + c), (c : Int), rfl, st1.upd nca.1 nca.2, by omega, by omega, by omega, fun H2 r r0 r1 st2 od2 => ?_⟩
    walk_at "ls"
    have h2 : H2 pw = some (.lst (ts.map V.str)) := od2 _ _ npw.1 npw.2 (by rw [upd_ne ncw]; exact h1)
    have h2c : H2 ca = some (.lst []) := od2 _ _ nca.1 nca.2 upd_same
    refine ⟨pw, _, rfl, .inl (.inl h2), fun sa hsa => ?_⟩
    have nsa := st2.noneS hsa
    have nsw : pw ≠ sa := ne_of_none h2 hsa
    have nsc : ca ≠ sa := ne_of_none h2c hsa
    obtain ⟨r, rfl⟩ := Int.eq_ofNat_of_zero_le r0
    have ecut : cutV (ts.map V.str) (some (m : Int)) (some ((m : Int) + 1 + (r : Int))) = (((ts.drop m).take (1 + r)).map V.str) := by
      have := cut_mid (ts.map V.str) m (1 + r) (by rw [List.length_map]; omega)
      rw [show ((m : Int) + 1 + (r : Int)) = ((m + (1 + r) : Nat) : Int) by omega, this, List.map_take, List.map_drop]
    refine at_heap (φ := fun H3 => Stm H3 S L (n + 12 * (m + c) + 1) ∧ Old S L H H3 ∧ H3 pw = some (.lst (ts.map V.str)) ∧ H3 ca = some (.lst []) ∧ H3 sa = some (.lst (((ts.drop m).take (1 + r)).map V.str)))
      ⟨st2.upd nsa.1 nsa.2, ((od1.trans (.new hca)).trans od2).trans (.new hsa), (by rw [upd_ne nsw]; exact h2), (by rw [upd_ne nsc]; exact h2c), (by rw [← ecut]; exact upd_same)⟩ ?_
    rintro H3 ⟨st3, od3, h3, h3c, h3s⟩
    refine ⟨sa, rfl, ⟨_, .inl (.inl h3s)⟩, ?_⟩
    have lC : ((ts.drop m).take (1 + r)).length ≤ c := by rw [List.length_take, List.length_drop]; omega
    refine for_it (walk_list (xs := (((ts.drop m).take (1 + r)).map V.str))) (fun i σ H4 => ∃ (cs : List (Str × Str × Str × Bool)) (cx : List V) (v5 v6 v7 : Option V), σ = [some (.ref S), some (.int (m : Int)), some (.int (c : Int)), some (.ref pw), some (.ref ca), v5, v6, v7, none] ∧
        cs.map (·.1) = ((ts.drop m).take (1 + r)).take i ∧ (∀ d ∈ cs, d.2.1 ∈ ts.take m ∧ d.2.2.1 ∈ ts.take m) ∧ H4 ca = some (.lst cx) ∧ TupsAt H4 cx (cs.map colV) ∧ Stm H4 S L (n + 12 * (m + c) + 1 + 3 * i) ∧ Old S L H H4 ∧
        H4 pw = some (.lst (ts.map V.str)) ∧ H4 sa = some (.lst (((ts.drop m).take (1 + r)).map V.str)))
      ⟨[], [], none, none, none, rfl, rfl, (fun _ h => nomatch h), h3c, .nil, st3, od3, h3, h3s⟩ (fun i σ H4 _ ⟨_, _, _, _, _, _, _, _, _, _, _, _, _, hs⟩ => .inl (.inl hs)) ?_ ?_
    · rintro i x σ Hz H4 hi ⟨cs, cx, v5, v6, v7, rfl, ecs, hcs, h4c, h4t, st4, od4, h4, h4s⟩ ⟨rfl, hx⟩
      obtain ⟨z, rfl⟩ := str_at hx
      rw [List.length_map] at hi
      walk_at "ls"
      -- home
      refine ⟨pw, _, rfl, .inl (.inl h4), fun p1 hp1 => ?_⟩
      have n1 := st4.noneS hp1
      have n1w : pw ≠ p1 := ne_of_none h4 hp1
      rw [cut_take, ← List.map_take]
      refine ⟨S, L, p1, _, _, rfl, st4.upd n1.1 n1.2, by omega, .inl (.inl upd_same), n1.1, n1.2, ?_, ?_, fun H5 v hv st5 od5 => ?_⟩
      · rw [List.length_map, List.length_take]
        omega
      · rw [List.length_map, List.length_take]
        omega
      obtain ⟨hm, hhm, rfl⟩ := List.mem_map.mp hv
      have h5 : H5 pw = some (.lst (ts.map V.str)) := od5 _ _ npw.1 npw.2 (by rw [upd_ne n1w]; exact h4)
      walk_at "ls"
      -- goal
      refine ⟨pw, _, rfl, .inl (.inl h5), fun p2 hp2 => ?_⟩
      have n2 := st5.noneS hp2
      have n2w : pw ≠ p2 := ne_of_none h5 hp2
      rw [cut_take, ← List.map_take]
      refine ⟨S, L, p2, _, _, rfl, st5.upd n2.1 n2.2, by omega, .inl (.inl upd_same), n2.1, n2.2, ?_, ?_, fun H6 v2 hv2 st6 od6 => ?_⟩
      · rw [List.length_map, List.length_take]
        omega
      · rw [List.length_map, List.length_take]
        omega
      obtain ⟨gl, hgl, rfl⟩ := List.mem_map.mp hv2
      have k46 : Old S L H4 H6 := (((Old.new hp1).trans od5).trans (.new hp2)).trans od6
      have h6c := k46 _ _ nca.1 nca.2 h4c
      refine ⟨_, _, rfl, ?_⟩
      walk_at "ls"
      refine ⟨(by show 3 ≤ sizeLine; decide), fun p3 hp3 => ?_⟩
      have n3 := st6.noneS hp3
      walk_at "ls"
      refine ⟨S, L, _, 3, rfl, st6.upd n3.1 n3.2, by omega, by decide, by decide, fun H7 q0 q1 q2 st7 od7 => ?_⟩
      obtain ⟨b, hb⟩ := rule_at q1 q2
      refine ⟨_, _, _, _, rfl, rfl, .inl (.inl (od7 _ _ n3.1 n3.2 upd_same)), hb, ?_⟩
      refine ⟨(by show 4 ≤ sizeLine; decide), fun t ht => ?_⟩
      have k47 : Old S L H4 H7 := (k46.trans (.new hp3)).trans od7
      have h7c := k47 _ _ nca.1 nca.2 h4c
      have nct : ca ≠ t := ne_of_none h7c ht
      have nt := st7.noneS ht
      refine ⟨_, _, _, rfl, rfl, (by rw [upd_ne nct]; exact h7c), ?_, ?_⟩
      · have := h4t.len
        have e2 : cs.length = i := by
          have := congrArg List.length ecs
          rw [List.length_map, List.length_take, Nat.min_eq_left (by omega)] at this
          exact this
        rw [List.length_map] at this
        exact small1000 (by omega)
      · have kt : TK H4 (upd (upd H7 t (.tup [.str z, .str hm, .str gl, .str (ruleS b)])) ca (.lst (cx ++ [.ref t]))) := ((TK.old st4 k47).trans (.new ht)).trans (.lst (by rw [upd_ne nct]; exact h7c))
        refine ⟨cs ++ [(z, hm, gl, b)], cx ++ [.ref t], _, _, _, rfl, ?_, ?_, upd_same, ?_, ?_, ?_, ?_, ?_⟩
        · have hz : ((ts.drop m).take (1 + r))[i]? = some z := by
            rw [List.getElem?_map] at hx
            cases e : ((ts.drop m).take (1 + r))[i]? with
            | none => rw [e] at hx; cases hx
            | some y => rw [e] at hx; cases hx; rfl
          rw [List.map_append, ecs, List.take_add_one, hz]
          rfl
        · exact all_snoc hcs ⟨hhm, hgl⟩
        · rw [List.map_append]
          exact (h4t.keep kt).snoc ⟨t, rfl, by rw [upd_ne nct.symm]; exact upd_same⟩
        · exact ((st7.mono (by omega)).upd nt.1 nt.2).upd nca.1 nca.2
        · exact ((od4.trans k47).trans (.new ht)).set hca0
        · rw [upd_ne ncw, upd_ne (ne_of_none (k47 _ _ npw.1 npw.2 h4) ht)]
          exact k47 _ _ npw.1 npw.2 h4
        · rw [upd_ne nsc.symm, upd_ne (ne_of_none (k47 _ _ nsa.1 nsa.2 h4s) ht)]
          exact k47 _ _ nsa.1 nsa.2 h4s
    · rintro σ H4 ⟨cs, cx, v5, v6, v7, rfl, ecs, hcs, h4c, h4t, st4, od4, h4, h4s⟩
      rw [List.length_map, List.take_length] at ecs
      rw [List.length_map] at st4
      walk_at "ls"
      refine ⟨pw, _, rfl, .inl (.inl h4), fun sk hsk => ?_⟩
      have nsk := st4.noneS hsk
      rw [cut_take, ← List.map_take]
      have nskw : pw ≠ sk := ne_of_none h4 hsk
      have nskc : ca ≠ sk := ne_of_none h4c hsk
      refine ⟨sk, rfl, ⟨_, .inl (.inl upd_same)⟩, fun D hD => ?_⟩
      have st5 := st4.upd (o := .lst ((ts.take m).map V.str)) nsk.1 nsk.2
      have nD := st5.noneS hD
      have nDk : sk ≠ D := ne_of_none upd_same hD
      have od4s : Old S L H (upd H4 sk (.lst ((ts.take m).map V.str))) := od4.trans (.new hsk)
      have h5c : (upd H4 sk (.lst ((ts.take m).map V.str))) ca = some (.lst cx) := by rw [upd_ne nskc]; exact h4c
      have nDc : ca ≠ D := ne_of_none h5c hD
      refine lc_it (walk_list (xs := (ts.take m).map V.str)) (fun i H5 => ∃ (ks : List (Str × Bool)) (kx : List V), ks.map (·.1) = (ts.take m).take i ∧ H5 D = some (.lst kx) ∧ TupsAt H5 kx (ks.map kindV) ∧ H5 sk = some (.lst ((ts.take m).map V.str)) ∧ H5 ca = some (.lst cx) ∧
          TupsAt H5 cx (cs.map colV) ∧ Stm H5 S L (n + 12 * (m + c) + 1 + 3 * ((ts.drop m).take (1 + r)).length + i) ∧ Old S L H H5)
        ⟨[], [], rfl, upd_same, .nil, (by rw [upd_ne nDk]; exact upd_same), (by rw [upd_ne nDc]; exact h5c), (h4t.keep (.new hsk)).keep (.new hD), st5.upd nD.1 nD.2, (od4.trans (.new hsk)).trans (.new hD)⟩
        (fun i H5 _ ⟨_, _, _, _, _, h, _⟩ => .inl (.inl h)) ?_ ?_
      · rintro i x Hz H5 hi ⟨ks, kx, eks, h5D, h5t, h5s, h5c, h5ct, st5, od5⟩ ⟨rfl, hx⟩
        obtain ⟨z, rfl⟩ := str_at hx
        rw [List.length_map] at hi
        refine ⟨rfl, ?_⟩
        walk_at "ls"
        have lm : (ts.take m).length ≤ m := by rw [List.length_take]; omega
        refine ⟨S, L, _, 3, rfl, st5, by omega, by decide, by decide, fun H6 q0 q1 q2 st6 od6 => ?_⟩
        walk_at "ls"
        refine ⟨(by show 2 ≤ sizeLine; decide), fun t ht => ?_⟩
        have nt := st6.noneS ht
        have h6D := od6 _ _ nD.1 nD.2 h5D
        have nDt : D ≠ t := ne_of_none h6D ht
        have h6D' : (upd H6 t (.tup [V.str z, V.bl (decide (0 < q0))])) D = some (.lst kx) := by rw [upd_ne nDt]; exact h6D
        have kt : TK H5 (upd (upd H6 t (.tup [V.str z, V.bl (decide (0 < q0))])) D (.lst (kx ++ [.ref t]))) := ((TK.old st5 od6).trans (.new ht)).trans (.lst h6D')
        have ek : ks.length = i := by
          have := congrArg List.length eks
          rw [List.length_map, List.length_take, Nat.min_eq_left (by omega)] at this
          exact this
        have hkl : kx.length = i := by rw [h5t.len, List.length_map, ek]
        have hz : (ts.take m)[i]? = some z := by
          rw [List.getElem?_map] at hx
          cases e : (ts.take m)[i]? with
          | none => rw [e] at hx; cases hx
          | some y => rw [e] at hx; cases hx; rfl
        have h6s := od6 _ _ nsk.1 nsk.2 h5s
        have h6c := od6 _ _ nca.1 nca.2 h5c
        have lm : (ts.take m).length ≤ m := by rw [List.length_take]; omega
        refine ⟨kx, h6D', small1000 (by omega), ks ++ [(z, decide (0 < q0))], kx ++ [.ref t], ?_, upd_same, ?_, ?_, ?_, h5ct.keep kt, ?_, ?_⟩
        · rw [List.map_append, eks, List.take_add_one, hz]
          rfl
        · rw [List.map_append]
          exact (h5t.keep kt).snoc ⟨t, rfl, by rw [upd_ne nDt.symm]; exact upd_same⟩
        · rw [upd_ne nDk, upd_ne (ne_of_none h6s ht)]
          exact h6s
        · rw [upd_ne nDc, upd_ne (ne_of_none h6c ht)]
          exact h6c
        · exact ((st6.mono (by omega)).upd nt.1 nt.2).upd nD.1 nD.2
        · exact ((od5.trans od6).trans (.new ht)).set (od4s.none hD nD)
      · rintro H5 ⟨ks, kx, eks, h5D, h5t, h5s, h5c, h5ct, st5, od5⟩
        rw [List.length_map, List.take_length] at eks
        rw [List.length_map] at st5
        intro b hb
        have nb := st5.noneS hb
        have nDb : D ≠ b := ne_of_none h5D hb
        have ncb : ca ≠ b := ne_of_none h5c hb
        walk_at "ls"
        refine ⟨Nat.zero_le _, fun ea hea => ?_⟩
        have neb : b ≠ ea := ne_of_none upd_same hea
        have nea := (st5.upd nb.1 nb.2).noneS hea
        have nDe : D ≠ ea := ne_of_none (show (upd H5 b (.dK [])) D = _ by rw [upd_ne nDb]; exact h5D) hea
        have nce : ca ≠ ea := ne_of_none (show (upd H5 b (.dK [])) ca = _ by rw [upd_ne ncb]; exact h5c) hea
        refine ⟨(by rw [upd_ne neb]; exact upd_same), [(.inr "kinds", .ref D), (.inr "columns", .ref ca), (.inr "checks", .ref ea)], rfl, (by show 3 ≤ 15; decide), ?_⟩
        have lm : (ts.take m).length = m := by rw [List.length_take]; omega
        have elk : ks.length = m := by
          have := congrArg List.length eks
          rw [List.length_map, lm] at this
          exact this
        have elc : cs.length ≤ c := by
          have := congrArg List.length ecs
          rw [List.length_map] at this
          omega
        have elc0 : 0 < cs.length := by
          have := congrArg List.length ecs
          rw [List.length_map, List.length_take, List.length_drop] at this
          omega
        have emb : ∀ z ∈ (ks.map (·.1) ++ cs.map (·.1)), z ∈ ts := by
          rw [eks, ecs]
          intro z hz
          rcases List.mem_append.mp hz with h | h
          · exact List.mem_of_mem_take h
          · exact List.mem_of_mem_drop (List.mem_of_mem_take h)
        have kt : TK H5 (upd (upd (upd H5 b (.dK [])) ea (.lst [])) b (.dK (mergeK [] [(.inr "kinds", .ref D), (.inr "columns", .ref ca), (.inr "checks", .ref ea)]))) :=
          ((TK.new hb).trans (.new hea)).trans (.dK (by rw [upd_ne neb]; exact upd_same))
        refine q _ b ⟨ks, cs⟩ ⟨by show 0 < ks.length; omega, by show ks.length ≤ 3; omega, by show cs.length ≤ 8; omega, ?_, fun z hz => tok.2 z (emb z hz), fun d hd => by show d.2.1 ∈ ks.map (·.1); rw [eks]; exact (hcs d hd).1, fun d hd => by show d.2.2.1 ∈ ks.map (·.1); rw [eks]; exact (hcs d hd).2, elc0⟩
          elk elc (od5.none hb nb) ⟨D, ca, ea, kx, cx, upd_same, ?_, h5t.keep kt, ?_, h5ct.keep kt, ?_, nD, nca, nea⟩ ?_ ?_
        · show (ks.map (·.1) ++ cs.map (·.1)).Nodup
          rw [eks, ecs]
          have nd := tok.1
          rw [← List.take_append_drop m ts] at nd
          have h1 := List.nodup_append.mp nd
          refine List.nodup_append.mpr ⟨h1.1, h1.2.1.sublist (List.take_sublist _ _), fun x hx y hy => h1.2.2 x hx y (List.mem_of_mem_take hy)⟩
        · rw [upd_ne nDb, upd_ne nDe, upd_ne nDb]
          exact h5D
        · rw [upd_ne ncb, upd_ne nce, upd_ne ncb]
          exact h5c
        · rw [upd_ne neb.symm]
          exact upd_same
        · exact (((st5.mono (by omega)).upd nb.1 nb.2).upd nea.1 nea.2).upd nb.1 nb.2
        · exact ((od5.trans (.new hb)).trans (.new hea)).set (od5.none hb nb)
end
end Ls
namespace Ls
open PySem PySem.Spec PyProof.Rows L2
/-! ### short steps -/
local macro_rules | `(tactic| walk_at "ls_ne") => `(tactic| first | assumption | exact Ne.symm (by assumption) | exact ne_of_none (by assumption) (by assumption) | exact Ne.symm (ne_of_none (by assumption) (by assumption)))
local macro_rules | `(tactic| walk_at "ls_hp") => `(tactic| first
  | with_reducible assumption
  | exact upd_same
  | exact Eq.trans (upd_ne (by walk_at "ls_ne")) (by walk_at "ls_hp"))
local macro_rules | `(tactic| walk_at "ls_st") => `(tactic| first
  | with_reducible assumption
  | exact Stm.upd (by walk_at "ls_st") (by first | walk_at "ls_ne" | exact (Stm.noneS (by assumption) (by assumption)).1) (by first | walk_at "ls_ne" | exact (Stm.noneS (by assumption) (by assumption)).2))
local macro_rules | `(tactic| walk_at "ls1") => `(tactic| first
  | refine ⟨_, rfl, ?_⟩
  | refine ⟨_, _, rfl, rfl, ?_⟩
  | refine ⟨_, _, _, _, rfl, rfl, .inl (.inl (by walk_at "ls_hp")), rfl, ?_⟩
  | refine ⟨_, _, _, _, rfl, rfl, (by walk_at "ls_hp"), rfl, ?_⟩
  | refine ⟨rfl, _, rfl, ?_⟩
  | refine ⟨.inl ⟨rfl, _, .inl (.inl (by walk_at "ls_hp"))⟩, ?_⟩)
local macro_rules | `(tactic| walk_at "ls") => `(tactic| repeat (walk_at "ls1"))

/-! ### the menu -/
def colW : List Str := ["put", "turn", "keep", "hold", "again"]
def kindW : List Str := ["bare", "calm", "again"]
def bookW : List Str := ["lone", "fresh"]
def withN (ws : List Str) (z : Str) : List Str := ws.map fun a => a ++ " " ++ z
def menu (B : Shp) : List Str := ((B.cs.flatMap fun c => withN colW c.1) ++ B.ks.flatMap fun k => withN kindW k.1) ++ bookW
def addN (z : Str) : V → Option V
  | .str a => some (.str (a ++ " " ++ z))
  | _ => none
theorem addN_all (z : Str) : ∀ ws : List Str, (ws.map V.str).filterMap (addN z) = (withN ws z).map V.str
  | [] => rfl
  | a :: r => by
    rw [List.map_cons, List.filterMap_cons]
    show V.str (a ++ " " ++ z) :: (r.map V.str).filterMap (addN z) = _
    rw [addN_all z r]
    rfl
theorem cat_len (a b : Str) : (a ++ b).length = a.length + b.length := Array.size_append
theorem flat_len {α : Type} (f : α → List Str) (k : Nat) (h : ∀ x, (f x).length = k) : ∀ l : List α, (l.flatMap f).length = k * l.length
  | [] => by simp
  | a :: r => by rw [List.flatMap_cons, List.length_append, flat_len f k h r, h, List.length_cons, Nat.mul_succ]; omega
theorem menu_len (B : Shp) : (menu B).length = 5 * B.cs.length + 3 * B.ks.length + 2 := by
  unfold menu
  rw [List.length_append, List.length_append, flat_len _ 5 (fun c => by rw [withN, List.length_map]; rfl), flat_len _ 3 (fun c => by rw [withN, List.length_map]; rfl)]
  rfl
theorem TupsAt.get {H : Hp} : ∀ {xs : List V} {yss : List (List V)} {i : Nat} {x : V}, TupsAt H xs yss → xs[i]? = some x → ∃ ys, yss[i]? = some ys ∧ TupOf H x ys
  | _, _, _, _, .nil, e => by simp at e
  | _, _, 0, x, .cons r _, e => by simp at e; subst e; exact ⟨_, rfl, r⟩
  | _, _, i + 1, x, .cons _ t, e => by
    obtain ⟨u, h1, h2⟩ := TupsAt.get (i := i) (x := x) t (by simpa using e)
    exact ⟨u, by simpa using h1, h2⟩
theorem map_get {α β : Type} {f : α → β} {l : List α} {i : Nat} {y : β} (h : (l.map f)[i]? = some y) : ∃ x, l[i]? = some x ∧ y = f x := by
  rw [List.getElem?_map] at h
  cases e : l[i]? with
  | none => rw [e] at h; cases h
  | some x => rw [e] at h; exact ⟨x, rfl, (Option.some.inj h).symm⟩
theorem colW_len : ∀ a ∈ colW, a.length ≤ 5 := by decide +kernel
theorem kindW_len : ∀ a ∈ kindW, a.length ≤ 5 := by decide +kernel
theorem room_str {a b : Str} {n m : Nat} (h1 : a.length ≤ n) (h2 : b.length ≤ m) (h3 : n + m ≤ 1000) : a.length + b.length ≤ sizeLine := Nat.le_trans (by omega) (show 1000 ≤ sizeLine by decide)
theorem word_len {a : Str} (h : a.length ≤ 5) : (a ++ " ").length ≤ 6 := by
  rw [cat_len]
  have : (" " : Str).length = 1 := by decide +kernel
  omega
theorem flat_snoc {α : Type} {f : α → List Str} {l : List α} {i : Nat} {c : α} (h : l[i]? = some c) : ((l.take (i + 1)).flatMap f) = (l.take i).flatMap f ++ f c := by
  rw [List.take_add_one, h, List.flatMap_append]
  simp
/-! ### the record's three lists -/
theorem nkc : ¬ ((Sum.inr ("kinds" : Str) : Key) = Sum.inr ("columns" : Str)) := by decide +kernel
theorem nkh : ¬ ((Sum.inr ("kinds" : Str) : Key) = Sum.inr ("checks" : Str)) := by decide +kernel
theorem nch : ¬ ((Sum.inr ("columns" : Str) : Key) = Sum.inr ("checks" : Str)) := by decide +kernel
section
variable {H : Hp} {b : Addr} {x y z : V}
theorem dg {k : Key} {v : V} {kvs : List (Key × V)} (h : H b = some (.dK kvs)) (e : valV kvs k = some v) : DGet H b (kV k) (some v) := by rw [← e]; exact DGet.k h
theorem dg_kinds (h : H b = some (.dK [(.inr "kinds", x), (.inr "columns", y), (.inr "checks", z)])) : DGet H b (.str "kinds") (some x) := dg (k := .inr "kinds") h (valV_pos rfl)
theorem dg_columns (h : H b = some (.dK [(.inr "kinds", x), (.inr "columns", y), (.inr "checks", z)])) : DGet H b (.str "columns") (some y) := dg (k := .inr "columns") h (by rw [valV_neg nkc]; exact valV_pos rfl)
theorem dg_checks (h : H b = some (.dK [(.inr "kinds", x), (.inr "columns", y), (.inr "checks", z)])) : DGet H b (.str "checks") (some z) := dg (k := .inr "checks") h (by rw [valV_neg nkh, valV_neg nch]; exact valV_pos rfl)
end
section
variable {P : Program} {w : World} {K : PySem.W.Frag} {mg : Str → Option Value} {base : Heap}
abbrev s__law_all_checks : Stmt := topS 34
theorem sc__law_all_checks : FnScope ["_law_b", "_law_found", "_law_column", "_law_kind", "_law_word"] ["_law_b"] (defScope s__law_all_checks) := ⟨rfl, rfl, rfl, by decide +kernel, rfl, by decide +kernel, by decide +kernel⟩
abbrev N__law_all_checks : List Str := ["_law_b", "_law_found", "_law_column", "_law_kind", "_law_word"]
def spAll : Sp := fun vs H Q _ => ∃ (S L b : Addr) (B : Shp) (ck : List Str), vs = [.ref b] ∧ ShpAt S L H b B ck ∧ B.Ok ∧
  ∀ (H' : Hp) (p : Addr), H p = none → H' p = some (.lst ((menu B).map V.str)) → Same H H' → Q (.ref p) H'
theorem ok_all {f : Addr} {fd : FuncData} (F : Fun K "_law_all_checks" "_law_all_checks" s__law_all_checks f fd) (T : Bt mg) : FnOk P w K mg base CX0 1 f fd ["_law_b"] spAll := by
  refine F.ok sc__law_all_checks (fun vs H Q E h => ?_) (fun cdv A outer s H vs Q E hr h => ?_)
  · obtain ⟨S, L, b, B, ck, rfl, _⟩ := h
    rfl
  · obtain ⟨S, L, b, B, ck, rfl, ⟨ka, ca, ea, kx, cx, hb, hka, hkt, hca, hct, hea, _⟩, hB, q⟩ := h
    have hu := hu_of hr
    refine ⟨_, (pss_cons (ps_set (i := 1) sc__law_all_checks.nd rfl (Or.inl rfl) (pe_lst pa_nil))
      (pss_cons (ps_for PassesOwn.never rfl (pi_list (pe_dget hu (pv 0) pe_str (fun _ _ => rfl))) (pg_name (i := 2) sc__law_all_checks.nd rfl (Or.inr rfl)) (pss_one (ps_expr (pe_bm PySem.F.plainAttrs_list PySem.F.slot_list_extend PySem.F.type_list_extend mt_extend (pv 1) (pa_cons (pe_lc (own := [("_law_word", 4)]) (g := gName 4) (by rfl) sc__law_all_checks.nd (pi_list (pe_lst (pa_cons pe_str (pa_cons pe_str (pa_cons pe_str (pa_cons pe_str (pa_cons pe_str pa_nil))))))) (blkOk_by (own := [("_law_word", 4)]) (N := N__law_all_checks) (sc := defScope s__law_all_checks) (by decide +kernel)) (fun _ _ _ _ _ => (pg_name (i := 4) sc__law_all_checks.nd rfl (Or.inl rfl) (Or.inr rfl))) (fun _ _ _ _ _ => pts_nil) (fun _ _ _ _ _ => (pe_op op_add_str (pe_op op_add_str (pv 4) pe_str) (pe_ix (ixT K) (pv 2) pe_int (fun _ _ => rfl))))) pa_nil)))))
      (pss_cons (ps_for PassesOwn.never rfl (pi_list (pe_dget hu (pv 0) pe_str (fun _ _ => rfl))) (pg_name (i := 3) sc__law_all_checks.nd rfl (Or.inr rfl)) (pss_one (ps_expr (pe_bm PySem.F.plainAttrs_list PySem.F.slot_list_extend PySem.F.type_list_extend mt_extend (pv 1) (pa_cons (pe_lc (own := [("_law_word", 4)]) (g := gName 4) (by rfl) sc__law_all_checks.nd (pi_list (pe_lst (pa_cons pe_str (pa_cons pe_str (pa_cons pe_str pa_nil))))) (blkOk_by (own := [("_law_word", 4)]) (N := N__law_all_checks) (sc := defScope s__law_all_checks) (by decide +kernel)) (fun _ _ _ _ _ => (pg_name (i := 4) sc__law_all_checks.nd rfl (Or.inl rfl) (Or.inr rfl))) (fun _ _ _ _ _ => pts_nil) (fun _ _ _ _ _ => (pe_op op_add_str (pe_op op_add_str (pv 4) pe_str) (pe_ix (ixT K) (pv 3) pe_int (fun _ _ => rfl))))) pa_nil)))))
      (pss_one (ps_ret (pe_op op_cat (pv 1) (pe_lst (pa_cons pe_str (pa_cons pe_str pa_nil))))))))), ?_⟩
    refine ⟨Nat.zero_le _, fun p hp => ?_⟩
    walk_at "ls"
    have nbp : b ≠ p := ne_of_none hb hp
    have nca : ca ≠ p := ne_of_none hca hp
    have s0 : Same H (upd H p (.lst [])) := same_new hp
    refine ⟨b, _, rfl, dg_columns (s0 _ _ hb), ca, rfl, ⟨_, .inl (.inl (s0 _ _ hca))⟩, ?_⟩
    refine for_it (walk_list (xs := cx)) (fun i σ H1 => ∃ v : Option V, σ = [some (.ref b), some (.ref p), v, none, none] ∧ H1 p = some (.lst (((B.cs.take i).flatMap fun c => withN colW c.1).map V.str)) ∧ Same H H1)
      ⟨none, rfl, upd_same, s0⟩ (fun i σ H1 _ ⟨_, _, _, s1⟩ => .inl (.inl (s1 _ _ hca))) ?_ ?_
    · rintro i x σ Hz H1 hi ⟨v, rfl, h1, s1⟩ ⟨rfl, hx⟩
      obtain ⟨ys, hys, t, rfl, ht⟩ := TupsAt.get (hct.keep (.same s1)) hx
      obtain ⟨c, hc, rfl⟩ := map_get hys
      have hci : i < B.cs.length := (List.getElem?_eq_some_iff.mp hc).1
      have hnm : c.1.length ≤ 8 := (hB.nm _ (List.mem_append_right _ (List.mem_map_of_mem (List.mem_of_getElem? hc)))).1.2.1
      walk_at "ls"
      refine ⟨(by show 5 ≤ sizeLine; decide), fun w1 hw1 => ?_⟩
      refine ⟨w1, rfl, ⟨_, .inl (.inl upd_same)⟩, fun D hD => ?_⟩
      have nwD : w1 ≠ D := ne_of_none upd_same hD
      have npw : p ≠ w1 := ne_of_none h1 hw1
      have npD : p ≠ D := ne_of_none (by rw [upd_ne npw]; exact h1) hD
      have ntw : t ≠ w1 := ne_of_none ht hw1
      have ntD : t ≠ D := ne_of_none (by rw [upd_ne ntw]; exact ht) hD
      refine lc_pure (walk_list (xs := colW.map V.str)) (colW.map V.str) (addN c.1) rfl (fun i H x H' hi hy => hy) (by decide +kernel) (fun acc => .inl (.inl (by rw [upd_ne nwD]; exact upd_same))) (fun k y hk hy => ?_) ?_
      · obtain ⟨a, ha, rfl⟩ := map_get hy
        have hal : a.length ≤ 5 := colW_len a (List.mem_of_getElem? ha)
        refine ⟨rfl, ?_⟩
        walk_at "ls"
        refine ⟨room_str (m := 1) hal (by decide +kernel) (by decide), ?_⟩
        walk_at "ls"
        refine ⟨room_str (n := 6) (m := 8) (word_len hal) hnm (by decide), ?_⟩
        exact lc_yes hy hk (by decide +kernel) rfl
      rw [addN_all]
      refine ⟨_, _, _, _, rfl, rfl, (by rw [upd_ne npD, upd_ne npw]; exact h1), upd_same, ?_, ?_⟩
      · rw [List.length_map, List.length_map, flat_len _ 5 (fun c => by rw [withN, List.length_map]; rfl), withN, List.length_map, List.length_take]
        have := hB.nc
        show 5 * _ + 5 ≤ sizeLine
        exact Nat.le_trans (by omega) (show 1000 ≤ sizeLine by decide)
      · refine ⟨_, rfl, ?_, ?_⟩
        · rw [upd_same, flat_snoc hc, List.map_append]
        · intro u o e
          have nup : u ≠ p := ne_of_none e hp
          have e1 := s1 _ _ e
          have nuw : u ≠ w1 := ne_of_none e1 hw1
          rw [upd_ne nup, upd_ne (ne_of_none (by rw [upd_ne nuw]; exact e1) hD), upd_ne nuw]
          exact e1
    · rintro σ H1 ⟨v, rfl, h1, s1⟩
      have e1 : B.cs.take cx.length = B.cs := by
        have := hct.len
        rw [List.length_map] at this
        rw [this, List.take_length]
      rw [e1] at h1
      walk_at "ls"
      refine ⟨b, _, rfl, dg_kinds (s1 _ _ hb), ka, rfl, ⟨_, .inl (.inl (s1 _ _ hka))⟩, ?_⟩
      refine for_it (walk_list (xs := kx)) (fun i σ H1 => ∃ v v3 : Option V, σ = [some (.ref b), some (.ref p), v, v3, none] ∧ H1 p = some (.lst (((B.cs.flatMap fun c => withN colW c.1) ++ (B.ks.take i).flatMap fun c => withN kindW c.1).map V.str)) ∧ Same H H1)
        ⟨v, none, rfl, (by rw [List.take_zero, List.flatMap_nil, List.append_nil]; exact h1), s1⟩ (fun i σ H1 _ ⟨_, _, _, _, s1⟩ => .inl (.inl (s1 _ _ hka))) ?_ ?_
      · clear h1 s1 v
        rintro i x σ Hz H1 hi ⟨v, v3, rfl, h1, s1⟩ ⟨rfl, hx⟩
        obtain ⟨ys, hys, t, rfl, ht⟩ := TupsAt.get (hkt.keep (.same s1)) hx
        obtain ⟨c, hc, rfl⟩ := map_get hys
        have hci : i < B.ks.length := (List.getElem?_eq_some_iff.mp hc).1
        have hnm : c.1.length ≤ 8 := (hB.nm _ (List.mem_append_left _ (List.mem_map_of_mem (List.mem_of_getElem? hc)))).1.2.1
        walk_at "ls"
        refine ⟨(by show 3 ≤ sizeLine; decide), fun w1 hw1 => ?_⟩
        refine ⟨w1, rfl, ⟨_, .inl (.inl upd_same)⟩, fun D hD => ?_⟩
        have nwD : w1 ≠ D := ne_of_none upd_same hD
        have npw : p ≠ w1 := ne_of_none h1 hw1
        have npD : p ≠ D := ne_of_none (by rw [upd_ne npw]; exact h1) hD
        have ntw : t ≠ w1 := ne_of_none ht hw1
        have ntD : t ≠ D := ne_of_none (by rw [upd_ne ntw]; exact ht) hD
        refine lc_pure (walk_list (xs := kindW.map V.str)) (kindW.map V.str) (addN c.1) rfl (fun i H x H' hi hy => hy) (by decide +kernel) (fun acc => .inl (.inl (by rw [upd_ne nwD]; exact upd_same))) (fun k y hk hy => ?_) ?_
        · obtain ⟨a, ha, rfl⟩ := map_get hy
          have hal : a.length ≤ 5 := kindW_len a (List.mem_of_getElem? ha)
          refine ⟨rfl, ?_⟩
          walk_at "ls"
          refine ⟨room_str (m := 1) hal (by decide +kernel) (by decide), ?_⟩
          walk_at "ls"
          refine ⟨room_str (n := 6) (m := 8) (word_len hal) hnm (by decide), ?_⟩
          exact lc_yes hy hk (by decide +kernel) rfl
        rw [addN_all]
        refine ⟨_, _, _, _, rfl, rfl, (by rw [upd_ne npD, upd_ne npw]; exact h1), upd_same, ?_, ?_⟩
        · rw [List.length_map, List.length_append, List.length_map, flat_len _ 5 (fun c => by rw [withN, List.length_map]; rfl), flat_len _ 3 (fun c => by rw [withN, List.length_map]; rfl), withN, List.length_map, List.length_take]
          have := hB.nc
          have := hB.nk3
          show 5 * _ + 3 * _ + 3 ≤ sizeLine
          exact Nat.le_trans (by omega) (show 1000 ≤ sizeLine by decide)
        · refine ⟨_, _, rfl, ?_, ?_⟩
          · rw [upd_same, flat_snoc hc, List.map_append, List.map_append, List.map_append, List.append_assoc]
          · intro u o e
            have nup : u ≠ p := ne_of_none e hp
            have e1 := s1 _ _ e
            have nuw : u ≠ w1 := ne_of_none e1 hw1
            rw [upd_ne nup, upd_ne (ne_of_none (by rw [upd_ne nuw]; exact e1) hD), upd_ne nuw]
            exact e1
      · clear h1 s1 v
        rintro σ H1 ⟨v, v3, rfl, h1, s1⟩
        have e2 : B.ks.take kx.length = B.ks := by
          have := hkt.len
          rw [List.length_map] at this
          rw [this, List.take_length]
        rw [e2] at h1
        walk_at "ls"
        refine ⟨(by show 2 ≤ sizeLine; decide), fun p2 hp2 => ?_⟩
        have np2 : p ≠ p2 := ne_of_none h1 hp2
        refine ⟨_, _, _, _, rfl, rfl, (by rw [upd_ne np2]; exact h1), upd_same, ?_, fun p3 hp3 => ?_⟩
        · have l1 := flat_len (fun c : Str × Str × Str × Bool => withN colW c.1) 5 (fun c => by show (withN colW c.1).length = 5; rw [withN, List.length_map]; rfl) B.cs
          have l2 := flat_len (fun c : Str × Bool => withN kindW c.1) 3 (fun c => by show (withN kindW c.1).length = 3; rw [withN, List.length_map]; rfl) B.ks
          have := hB.nc
          have := hB.nk3
          rw [List.length_map, List.length_append, l1, l2]
          refine Nat.le_trans ?_ (show 1000 ≤ sizeLine by decide)
          show _ + 2 ≤ 1000
          omega
        · have s2 : Same H (upd H1 p2 (.lst [.str "lone", .str "fresh"])) := s1.trans (same_new hp2)
          refine q _ p3 (s2.free hp3) ?_ (s2.trans (same_new hp3))
          rw [upd_same]
          unfold menu
          rw [List.map_append (l₂ := bookW)]
          rfl
/-! ### _law_checked -/
abbrev s__law_checked : Stmt := topS 35
theorem sc__law_checked : FnScope ["_law_stream", "_law_b", "_law_share", "_law_checks", "_law_check"] ["_law_stream", "_law_b"] (defScope s__law_checked) := ⟨rfl, rfl, rfl, by decide +kernel, rfl, by decide +kernel, by decide +kernel⟩
abbrev N__law_checked : List Str := ["_law_stream", "_law_b", "_law_share", "_law_checks", "_law_check"]
def spChecked : Sp := fun vs H Q _ => ∃ (S L b : Addr) (n : Nat) (B : Shp) (ck : List Str), vs = [.ref S, .ref b] ∧ Stm H S L n ∧ n ≤ 9990000 ∧ ShpAt S L H b B ck ∧ B.Ok ∧
  ∀ (H' : Hp) (p : Addr) (ck' : List Str), H p = none → ck'.Sublist (menu B) → ShpAt S L H' p B ck' → Stm H' S L (n + 60) → Old S L H H' → Q (.ref p) H'
theorem share_at {i : Int} (h0 : 0 ≤ i) (h1 : i < 6) : ∃ k : Int, atI [V.int 0, V.int 2, V.int 4, V.int 6, V.int 9, V.int 12] i = some (.int k) := by
  obtain ⟨n, rfl⟩ := Int.eq_ofNat_of_zero_le h0
  match n, h1 with
  | 0, _ => exact ⟨0, rfl⟩
  | 1, _ => exact ⟨2, rfl⟩
  | 2, _ => exact ⟨4, rfl⟩
  | 3, _ => exact ⟨6, rfl⟩
  | 4, _ => exact ⟨9, rfl⟩
  | 5, _ => exact ⟨12, rfl⟩
  | k + 6, h => omega
theorem sub_snoc {α : Type} {l m : List α} {x : α} (h : l.Sublist m) : (l ++ [x]).Sublist (m ++ [x]) := List.Sublist.append h (List.Sublist.refl _)
theorem sub_skip {α : Type} {l m : List α} {x : α} (h : l.Sublist m) : l.Sublist (m ++ [x]) := h.trans (List.sublist_append_left _ _)
theorem ok_checked {f : Addr} {fd : FuncData} (F : Fun K "_law_checked" "_law_checked" s__law_checked f fd) (T : Bt mg) (O__law_draw : Own P w K mg base CX0 1 "_law_draw" ["_law_stream", "_law_many"] spDraw)
    (O__law_all_checks : Own P w K mg base CX0 1 "_law_all_checks" ["_law_b"] spAll) : FnOk P w K mg base CX0 2 f fd ["_law_stream", "_law_b"] spChecked := by
  refine F.ok sc__law_checked (fun vs H Q E h => ?_) (fun cdv A outer s H vs Q E hr h => ?_)
  · obtain ⟨S, L, b, n, B, ck, rfl, _⟩ := h
    rfl
  · obtain ⟨S, L, b, n, B, ck, rfl, hst, hn, hs, hB, q⟩ := h
    have hu := hu_of hr
    refine ⟨_, (pss_cons (ps_set (i := 2) sc__law_checked.nd rfl (Or.inr rfl) (pe_ix (ixL K) (pe_lst (pa_cons pe_int (pa_cons pe_int (pa_cons pe_int (pa_cons pe_int (pa_cons pe_int (pa_cons pe_int pa_nil))))))) (own_call O__law_draw hr (by first | decide | omega) (pa_cons (pv 0) (pa_cons pe_int pa_nil))) (fun _ _ => rfl)))
      (pss_cons (ps_setLc (i := 3) (own := [("_law_check", 4)]) (g := gName 4) (by rfl) sc__law_checked.nd rfl rfl (sw_true rfl rfl rfl (by decide +kernel)) (pi_list (own_call O__law_all_checks hr (by first | decide | omega) (pa_cons (pv 1) pa_nil))) (blkOk_by (own := [("_law_check", 4)]) (N := N__law_checked) (sc := defScope s__law_checked) (by decide +kernel)) (fun _ _ _ _ _ => (pg_name (i := 4) sc__law_checked.nd rfl (Or.inl rfl) (Or.inr rfl))) (fun _ _ _ _ _ => (pts_one (pt_cmpR op_lt (own_call O__law_draw hr (by first | decide | omega) (pa_cons (pv 0) (pa_cons pe_int pa_nil))) (pv 2) (nomark _)))) (fun _ _ _ _ _ => (pv 4)))
      (pss_one (ps_ret (pe_disp (pps_cons pe_str (pe_dget hu (pv 1) pe_str (fun _ _ => rfl)) (pps_cons pe_str (pe_dget hu (pv 1) pe_str (fun _ _ => rfl)) (pps_cons pe_str (pv 3) pps_nil))) (by rfl) (by rfl) (fun z => by cases z) (by decide)))))), ?_⟩
    refine ⟨(by show 6 ≤ sizeLine; decide), fun p0 hp0 => ?_⟩
    have n0 := hst.noneS hp0
    walk_at "ls"
    refine ⟨S, L, n, 6, rfl, hst.upd n0.1 n0.2, by omega, by decide, by decide, fun H1 r r0 r1 st1 od1 => ?_⟩
    obtain ⟨k, hk⟩ := share_at r0 r1
    refine ⟨_, _, _, _, rfl, rfl, .inl (.inl (od1 _ _ n0.1 n0.2 upd_same)), hk, ?_⟩
    have od1' : Old S L H H1 := (Old.new hp0).trans od1
    have hs1 := hs.old hst od1'
    walk_at "ls"
    refine ⟨S, L, b, B, ck, rfl, hs1, hB, fun H2 pm hpm h2 s2 => ?_⟩
    have hs2 := hs1.same s2
    have st2 := st1.keep s2
    have nm := st1.noneS hpm
    refine ⟨pm, rfl, ⟨_, .inl (.inl h2)⟩, fun D hD => ?_⟩
    have nD := st2.noneS hD
    have nmD : pm ≠ D := ne_of_none h2 hD
    have od2 : Old S L H H2 := od1'.trans (.same s2)
    have lm : (menu B).length ≤ 51 := by have := menu_len B; have := hB.nc; have := hB.nk3; omega
    refine lc_it (walk_list (xs := (menu B).map V.str)) (fun i H3 => ∃ cs : List Str, cs.Sublist ((menu B).take i) ∧ H3 D = some (.lst (cs.map V.str)) ∧ H3 pm = some (.lst ((menu B).map V.str)) ∧ Stm H3 S L (n + 1 + i) ∧ Old S L H H3)
      ⟨[], List.Sublist.refl _, upd_same, (by rw [upd_ne nmD]; exact h2), st2.upd nD.1 nD.2, od2.trans (.new hD)⟩ (fun i H3 _ ⟨_, _, _, h, _⟩ => .inl (.inl h)) ?_ ?_
    · rintro i x Hz H3 hi ⟨cs, hcs, h3D, h3m, st3, od3⟩ ⟨rfl, hx⟩
      obtain ⟨z, hz, rfl⟩ := map_get hx
      rw [List.length_map] at hi
      refine ⟨rfl, ?_⟩
      walk_at "ls"
      refine ⟨S, L, _, 12, rfl, st3, by omega, by decide, by decide, fun H4 u u0 u1 st4 od4 => ?_⟩
      have h4D := od4 _ _ nD.1 nD.2 h3D
      have h4m := od4 _ _ nm.1 nm.2 h3m
      walk_at "ls"
      have et : (menu B).take (i + 1) = (menu B).take i ++ [z] := by rw [List.take_add_one, hz]; rfl
      refine ite2 (fun e => ?_) (fun e => ?_)
      · walk_at "ls"
        have lcs : cs.length ≤ i := by have := hcs.length_le; rw [List.length_take] at this; omega
        refine ⟨_, h4D, (by rw [List.length_map]; exact small1000 (by omega)), cs ++ [z], ?_, ?_, ?_, (st4.mono (by omega)).upd nD.1 nD.2, (od3.trans od4).set (od2.none hD nD)⟩
        · rw [et]
          exact sub_snoc hcs
        · rw [upd_same, List.map_append]
          rfl
        · rw [upd_ne nmD]
          exact h4m
      · exact ⟨cs, (by rw [et]; exact sub_skip hcs), h4D, h4m, st4.mono (by omega), od3.trans od4⟩
    · rintro H3 ⟨cs, hcs, h3D, h3m, st3, od3⟩
      rw [List.length_map, List.take_length] at hcs
      obtain ⟨ka, ca, ea, kx, cx, hb, hka, hkt, hca, hct, hea, nk, nc, ne⟩ := hs.old hst od3
      intro p hp
      have np := st3.noneS hp
      have nbp : b ≠ p := ne_of_none hb hp
      have nDp : D ≠ p := ne_of_none h3D hp
      have hb' : (upd H3 p (.dK [])) b = _ := (upd_ne nbp).trans hb
      walk_at "ls"
      refine ⟨b, _, rfl, dg_kinds hb', ?_⟩
      walk_at "ls"
      refine ⟨b, _, rfl, dg_columns hb', ?_⟩
      walk_at "ls"
      refine ⟨upd_same, [(.inr "kinds", .ref ka), (.inr "columns", .ref ca), (.inr "checks", .ref D)], rfl, (by show 3 ≤ 15; decide), ?_⟩
      have kt : TK H3 (upd (upd H3 p (.dK [])) p (.dK (mergeK [] [(.inr "kinds", .ref ka), (.inr "columns", .ref ca), (.inr "checks", .ref D)]))) := (TK.new hp).trans (.dK upd_same)
      have hpn := od3.none hp np
      refine q _ p cs hpn hcs ⟨ka, ca, D, kx, cx, upd_same, ?_, hkt.keep kt, ?_, hct.keep kt, ?_, nk, nc, nD⟩ ((st3.mono (by rw [List.length_map]; omega)).upd np.1 np.2 |>.upd np.1 np.2) ((od3.trans (.new hp)).set hpn)
      · rw [upd_upd, upd_ne (ne_of_none hka hp)]
        exact hka
      · rw [upd_upd, upd_ne (ne_of_none hca hp)]
        exact hca
      · rw [upd_upd, upd_ne nDp]
        exact h3D
end
end Ls
namespace Ls
open PySem PySem.Spec PyProof.Rows L2
/-! ### short steps -/
local macro_rules | `(tactic| walk_at "ls_ne") => `(tactic| first | assumption | exact Ne.symm (by assumption) | exact ne_of_none (by assumption) (by assumption) | exact Ne.symm (ne_of_none (by assumption) (by assumption)))
local macro_rules | `(tactic| walk_at "ls_hp") => `(tactic| first
  | with_reducible assumption
  | exact upd_same
  | exact Eq.trans (upd_ne (by walk_at "ls_ne")) (by walk_at "ls_hp"))
local macro_rules | `(tactic| walk_at "ls_st") => `(tactic| first
  | with_reducible assumption
  | exact Stm.upd (by walk_at "ls_st") (by first | walk_at "ls_ne" | exact (Stm.noneS (by assumption) (by assumption)).1) (by first | walk_at "ls_ne" | exact (Stm.noneS (by assumption) (by assumption)).2))
local macro_rules | `(tactic| walk_at "ls1") => `(tactic| first
  | refine ⟨_, rfl, ?_⟩
  | refine ⟨_, _, rfl, rfl, ?_⟩
  | refine ⟨_, _, _, _, rfl, rfl, .inl (.inl (by walk_at "ls_hp")), rfl, ?_⟩
  | refine ⟨_, _, _, _, rfl, rfl, (by walk_at "ls_hp"), rfl, ?_⟩
  | refine ⟨rfl, _, rfl, ?_⟩
  | refine ⟨.inl ⟨rfl, _, .inl (.inl (by walk_at "ls_hp"))⟩, ?_⟩)
local macro_rules | `(tactic| walk_at "ls") => `(tactic| repeat (walk_at "ls1"))

/-- the module's constants -/
structure Gn (K : PySem.W.Frag) (mg : Str → Option Value) (aR aC aK aB : Addr) (tS tL tN : Tok) : Prop where
  STRIKE : mg "STRIKE" = some (.str "strike" tS)
  LETTERS : mg "LETTERS" = some (.str "abcdefghijklmnopqrstuvwxyz" tL)
  LONGEST_NAME : mg "LONGEST_NAME" = some (.int 8 tN)
  RULES : mg "RULES" = some (.ref aR)
  COLUMN_CHECKS : mg "COLUMN_CHECKS" = some (.ref aC)
  KIND_CHECKS : mg "KIND_CHECKS" = some (.ref aK)
  BOOK_CHECKS : mg "BOOK_CHECKS" = some (.ref aB)
  kRULES : KTup K aR [.str "fall", .str "clear"]
  kCOL : KTup K aC (colW.map V.str)
  kKIND : KTup K aK (kindW.map V.str)
  kBOOK : KTup K aB (bookW.map V.str)
def letters : List Nat := ("abcdefghijklmnopqrstuvwxyz" : Str).cps.toList
def isNameB (z : Str) : Bool := !decide (z = "strike") && (decide (1 ≤ z.length) && decide (z.length ≤ 8)) && z.cps.toList.all fun c => decide (c ∈ letters)
theorem letters_eq : letters = List.range' 97 26 := abc_cps
theorem nm_is {z : Str} (h : Nm z) : isNameB z = true := by
  obtain ⟨⟨h1, h2, h3⟩, h4⟩ := h
  unfold isNameB
  simp only [h1, h2, h4, decide_false, decide_true, Bool.not_false, Bool.and_true, Bool.true_and, List.all_eq_true, decide_eq_true_eq]
  intro c hc
  rw [letters_eq, List.mem_range']
  have := h3 c hc
  exact ⟨c - 97, by omega, by omega⟩
def inL : V → Option V
  | .str z => some (.bl (z.cps.toList.all fun c => decide (c ∈ letters)))
  | _ => none
theorem inL_all (z : Str) : (signs z).filterMap inL = (z.cps.toList.map fun c => decide (c ∈ letters)).map V.bl := by
  unfold signs
  generalize z.cps.toList = l
  induction l with
  | nil => rfl
  | cons c r ih =>
    rw [List.map_cons, List.filterMap_cons, List.map_cons, List.map_cons]
    show V.bl ([c].all fun c => decide (c ∈ letters)) :: _ = _
    rw [ih]
    simp
section
variable {P : Program} {w : World} {K : PySem.W.Frag} {mg : Str → Option Value} {base : Heap}
/-! ### is_name -/
abbrev s_is_name : Stmt := topS 13
theorem sc_is_name : FnScope ["thing", "letter"] ["thing"] (defScope s_is_name) := ⟨rfl, rfl, rfl, by decide +kernel, rfl, by decide +kernel, by decide +kernel⟩
abbrev N_is_name : List Str := ["thing", "letter"]
def spIsName : Sp := fun vs H Q _ => ∃ (z : Str), vs = [.str z] ∧ z.length ≤ 1000 ∧ ∀ H', Same H H' → Q (.bl (isNameB z)) H'
theorem ok_is_name {f : Addr} {fd : FuncData} {aR aC aK aB : Addr} {tS tL tN : Tok} (F : Fun K "is_name" "is_name" s_is_name f fd) (T : Bt mg) (G : Gn K mg aR aC aK aB tS tL tN) : FnOk P w K mg base CX0 1 f fd ["thing"] spIsName := by
  refine F.ok sc_is_name (fun vs H Q E h => ?_) (fun cdv A outer s H vs Q E hr h => ?_)
  · obtain ⟨z, rfl, _⟩ := h
    rfl
  · obtain ⟨z, rfl, hz, q⟩ := h
    have hu := hu_of hr
    refine ⟨_, (pss_cons (ps_if (PW.pt (pw_or (pt_not (pt_val (pe_callB call_isi (by rfl) T.m_isinstance (by decide +kernel) (pa_cons (pv 0) (pa_cons (pe_bltn (v := V.ty "str") (by rfl) T.m_str boot_str rfl) pa_nil))))) (pw_or1 (pt_cmpR op_eq (pv 0) (glob_str G.STRIKE) (nomark _))))) (pss_one (ps_ret pe_bl)) pss_nil)
      (pss_one (ps_ret (pe_and (pe_chain op_le op_le pe_int (pe_callB call_len_str (by rfl) T.m_len (by decide +kernel) (pa_cons (pv 0) pa_nil)) (glob_int G.LONGEST_NAME)) (pe_one (pe_callB (cr_all rfl) (by rfl) T.m_all (by decide +kernel) (pa_cons (pe_lc (own := [("letter", 1)]) (g := gName 1) (by rfl) sc_is_name.nd (pi_str (pv 0)) (blkOk_by (own := [("letter", 1)]) (N := N_is_name) (sc := defScope s_is_name) (by decide +kernel)) (fun _ _ _ _ _ => (pg_name (i := 1) sc_is_name.nd rfl (Or.inl rfl) (Or.inr rfl))) (fun _ _ _ _ _ => pts_nil) (fun _ _ _ _ _ => (pe_cmpR op_in_sign (pv 1) (glob_str G.LETTERS) (by rfl)))) pa_nil))))))), ?_⟩
    refine or2 false (decide (V.str z = V.str "strike")) (fun Q' q' => ?_) (fun _ Q' q' => ?_) ?_
    · refine ⟨_, rfl, ?_⟩
      exact ⟨_, _, _, _, true, rfl, .ty "str", .base (.str z), kit_ty (by decide +kernel), _, rfl, q'⟩
    · walk_at "ls"
      exact q'
    refine ite2 (fun e => ?_) (fun e => ?_)
    · have e1 : z = "strike" := V.str.inj (of_decide_eq_true (by simpa using e))
      have : isNameB z = false := by rw [e1]; decide +kernel
      have h := q H (Same.refl H)
      rw [this] at h
      exact h
    · have e1 : ¬ z = "strike" := fun h => e (by rw [h]; simp)
      refine ⟨_, rfl, ?_⟩
      refine ⟨z, rfl, Nat.le_trans hz (show 1000 ≤ sizeLine by decide), ?_⟩
      refine ⟨_, _, rfl, rfl, _, rfl, ?_⟩
      refine ite2 (fun e2 => ?_) (fun e2 => ?_)
      · refine ⟨_, _, rfl, rfl, _, rfl, ?_⟩
        refine ite2 (fun e3 => ?_) (fun e3 => ?_)
        · walk_at "ls"
          intro D hD
          refine lc_pure walk_str (signs z) inL (signs_len _) yld_str (Nat.lt_of_le_of_lt hz (show 1000 < sizeLine by decide)) (fun _ => trivial) (fun i x hi hx => ?_) ?_
          · obtain ⟨c, rfl⟩ := signs_at hx
            refine ⟨rfl, ?_⟩
            walk_at "ls"
            exact lc_yes hx hi (Nat.lt_of_le_of_lt hz (show 1000 < sizeLine by decide)) (by show some (V.bl ([c].all fun c => decide (c ∈ letters))) = _; simp [letters])
          · rw [inL_all]
            refine ⟨D, _, rfl, .inl (.inl upd_same), ?_⟩
            have h := q _ (same_new (o := .lst ((z.cps.toList.map fun c => decide (c ∈ letters)).map V.bl)) hD)
            have e4 : isNameB z = (z.cps.toList.map fun c => decide (c ∈ letters)).all id := by
              have h2 : 1 ≤ z.length := by have := of_decide_eq_true e2; omega
              have h3 : z.length ≤ 8 := by have := of_decide_eq_true e3; omega
              unfold isNameB
              rw [List.all_map]
              simp [e1, h2, h3]
            rw [e4] at h
            exact h
        · have : isNameB z = false := by
            have h3 : ¬ z.length ≤ 8 := fun h => e3 (decide_eq_true (by omega))
            unfold isNameB
            simp [h3]
          have h := q H (Same.refl H)
          rw [this] at h
          exact h
      · refine ⟨_, rfl, ?_⟩
        have : isNameB z = false := by
          have h3 : ¬ 1 ≤ z.length := fun h => e2 (decide_eq_true (by omega))
          unfold isNameB
          simp [h3]
        have h := q H (Same.refl H)
        rw [this] at h
        exact h
/-! ### is_word_of -/
abbrev s_is_word_of : Stmt := topS 14
theorem sc_is_word_of : FnScope ["thing", "words"] ["thing", "words"] (defScope s_is_word_of) := ⟨rfl, rfl, rfl, by decide +kernel, rfl, by decide +kernel, by decide +kernel⟩
abbrev N_is_word_of : List Str := ["thing", "words"]
def spWord (K : PySem.W.Frag) : Sp := fun vs H Q _ => ∃ (z : Str) (a : Addr) (ts : List Str), vs = [.str z, .ref a] ∧ (SqL K H a (ts.map V.str) ∨ SqT K H a (ts.map V.str)) ∧ Q (.bl (decide (z ∈ ts))) H
theorem ok_word {f : Addr} {fd : FuncData} (F : Fun K "is_word_of" "is_word_of" s_is_word_of f fd) (T : Bt mg) : FnOk P w K mg base CX0 1 f fd ["thing", "words"] (spWord K) := by
  refine F.ok sc_is_word_of (fun vs H Q E h => ?_) (fun cdv A outer s H vs Q E hr h => ?_)
  · obtain ⟨z, a, ts, rfl, _⟩ := h
    rfl
  · obtain ⟨z, a, ts, rfl, hs, q⟩ := h
    have hu := hu_of hr
    refine ⟨_, (pss_one (ps_ret (pe_and (pe_callB call_isi (by rfl) T.m_isinstance (by decide +kernel) (pa_cons (pv 0) (pa_cons (pe_bltn (v := V.ty "str") (by rfl) T.m_str boot_str rfl) pa_nil))) (pe_one (pe_cmpR (in_seq K) (pv 0) (pv 1) (by rfl)))))), ?_⟩
    refine ⟨_, rfl, ?_⟩
    refine ⟨_, _, _, _, true, rfl, .ty "str", .base (.str z), kit_ty (by decide +kernel), _, rfl, iteT ?_⟩
    walk_at "ls"
    refine ⟨a, _, rfl, hs, rfl, all_flat ts, ?_⟩
    show Q (.bl (inV (.str z) (ts.map V.str))) H
    rw [in_strs]
    exact q
/-! ### _want_free_name -/
abbrev s__want_free_name : Stmt := topS 24
theorem sc__want_free_name : FnScope ["name", "taken"] ["name", "taken"] (defScope s__want_free_name) := ⟨rfl, rfl, rfl, by decide +kernel, rfl, by decide +kernel, by decide +kernel⟩
abbrev N__want_free_name : List Str := ["name", "taken"]
def spFree (K : PySem.W.Frag) : Sp := fun vs H Q _ => ∃ (z : Str) (a : Addr) (ts : List Str), vs = [.str z, .ref a] ∧ Nm z ∧ H a = some (.lst (ts.map V.str)) ∧ z ∉ ts ∧ ∀ H', Same H H' → Q .non H'
theorem ok_free {f : Addr} {fd : FuncData} (F : Fun K "_want_free_name" "_want_free_name" s__want_free_name f fd) (O_is_name : Own P w K mg base CX0 1 "is_name" ["thing"] spIsName) : FnOk P w K mg base CX0 2 f fd ["name", "taken"] (spFree K) := by
  refine F.ok sc__want_free_name (fun vs H Q E h => ?_) (fun cdv A outer s H vs Q E hr h => ?_)
  · obtain ⟨z, a, ts, rfl, _⟩ := h
    rfl
  · obtain ⟨z, a, ts, rfl, hz, ha, hn, q⟩ := h
    have hu := hu_of hr
    refine ⟨_, (pss_cons (ps_if (pt_not (pt_val (own_call O_is_name hr (by first | decide | omega) (pa_cons (pv 0) pa_nil)))) (pss_one ps_dead) pss_nil)
      (pss_one (ps_if (pt_cmpR (in_seq K) (pv 0) (pv 1) (by rfl)) (pss_one ps_dead) pss_nil))), ?_⟩
    refine ⟨_, rfl, ?_⟩
    refine ⟨z, rfl, Nat.le_trans hz.1.2.1 (by decide), fun H1 s1 => ?_⟩
    rw [nm_is hz]
    refine ⟨_, rfl, iteF ?_⟩
    walk_at "ls"
    refine ⟨a, _, rfl, .inl (.inl (.inl (s1 _ _ ha))), rfl, all_flat ts, _, rfl, ?_⟩
    show if inV (.str z) (ts.map V.str) = true then _ else _
    rw [in_strs, decide_eq_false hn]
    exact iteF (q H1 s1)
end
end Ls
namespace Ls
open PySem PySem.Spec PyProof.Rows L2
/-! ### short steps -/
local macro_rules | `(tactic| walk_at "ls_ne") => `(tactic| first | assumption | exact Ne.symm (by assumption) | exact ne_of_none (by assumption) (by assumption) | exact Ne.symm (ne_of_none (by assumption) (by assumption)))
local macro_rules | `(tactic| walk_at "ls_hp") => `(tactic| first
  | with_reducible assumption
  | exact upd_same
  | exact Eq.trans (upd_ne (by walk_at "ls_ne")) (by walk_at "ls_hp"))
local macro_rules | `(tactic| walk_at "ls_st") => `(tactic| first
  | with_reducible assumption
  | exact Stm.upd (by walk_at "ls_st") (by first | walk_at "ls_ne" | exact (Stm.noneS (by assumption) (by assumption)).1) (by first | walk_at "ls_ne" | exact (Stm.noneS (by assumption) (by assumption)).2))
local macro_rules | `(tactic| walk_at "ls1") => `(tactic| first
  | refine ⟨_, rfl, ?_⟩
  | refine ⟨_, _, rfl, rfl, ?_⟩
  | refine ⟨_, _, _, _, rfl, rfl, .inl (.inl (by walk_at "ls_hp")), rfl, ?_⟩
  | refine ⟨_, _, _, _, rfl, rfl, (by walk_at "ls_hp"), rfl, ?_⟩
  | refine ⟨rfl, _, rfl, ?_⟩
  | refine ⟨.inl ⟨rfl, _, .inl (.inl (by walk_at "ls_hp"))⟩, ?_⟩)
local macro_rules | `(tactic| walk_at "ls") => `(tactic| repeat (walk_at "ls1"))

/-- the first item of a tuple -/
def fstOf (H : Hp) : V → Option V
  | .ref t => match H t with
    | some (.tup (y :: _)) => some y
    | _ => none
  | _ => none
theorem fst_tup {H : Hp} {v y : V} {ys : List V} (h : TupOf H v (y :: ys)) : fstOf H v = some y := by
  obtain ⟨t, rfl, h⟩ := h
  show (match H t with | some (.tup (y :: _)) => some y | _ => none) = some y
  rw [h]
theorem fst_all {α : Type} {H : Hp} (g : α → Str) (r : α → List V) : ∀ {xs : List V} {l : List α}, TupsAt H xs (l.map fun a => V.str (g a) :: r a) → xs.filterMap (fstOf H) = (l.map g).map V.str
  | [], [], _ => rfl
  | x :: xs, a :: l, h => by
    cases h with
    | cons h1 h2 =>
      rw [List.filterMap_cons, fst_tup h1, fst_all g r h2]
      rfl
  | [], a :: l, h => by cases h
  | x :: xs, [], h => by cases h
theorem kind_fst (l : List (Str × Bool)) : l.map kindV = l.map fun a => V.str a.1 :: [V.bl a.2] := rfl
theorem col_fst (l : List (Str × Str × Str × Bool)) : l.map colV = l.map fun a => V.str a.1 :: [.str a.2.1, .str a.2.2.1, .str (ruleS a.2.2.2)] := rfl
theorem rule_mem (b : Bool) : ruleS b ∈ (["fall", "clear"] : List Str) := by cases b <;> simp [ruleS]
theorem Same.set {H H1 : Hp} {p : Addr} {o : HO} (s : Same H H1) (hp : H p = none) : Same H (upd H1 p o) := fun b u e => by
  rw [upd_ne (ne_of_none e hp)]
  exact s _ _ e
theorem nd_take {l : List Str} {i : Nat} {z : Str} (nd : l.Nodup) (h : l[i]? = some z) : z ∉ l.take i := by
  intro hm
  obtain ⟨j, hj, e⟩ := List.mem_iff_getElem.mp hm
  rw [List.length_take] at hj
  have hj2 : j < l.length := by omega
  rw [List.getElem_take] at e
  have := nd_ix nd (show l[j]? = some z by rw [List.getElem?_eq_getElem hj2, e]) h
  omega
section
variable {P : Program} {w : World} {K : PySem.W.Frag} {mg : Str → Option Value} {base : Heap}
/-! ### _read_kinds -/
abbrev s__read_kinds : Stmt := topS 22
theorem sc__read_kinds : FnScope ["kinds", "found", "name", "is_open", "kind"] ["kinds"] (defScope s__read_kinds) := ⟨rfl, rfl, rfl, by decide +kernel, rfl, by decide +kernel, by decide +kernel⟩
abbrev N__read_kinds : List Str := ["kinds", "found", "name", "is_open", "kind"]
def spReadK (K : PySem.W.Frag) : Sp := fun vs H Q _ => ∃ (a : Addr) (xs : List V) (B : Shp), vs = [.ref a] ∧ SqL K H a xs ∧ TupsAt H xs (B.ks.map kindV) ∧ B.Ok ∧
  ∀ (H' : Hp) (p : Addr) (ys : List V), H' p = some (.tup ys) → TupsAt H' ys (B.ks.map kindV) → Same H H' → Q (.ref p) H'
theorem ok_readK {f : Addr} {fd : FuncData} (F : Fun K "_read_kinds" "_read_kinds" s__read_kinds f fd) (T : Bt mg) (O__want_free_name : Own P w K mg base CX0 2 "_want_free_name" ["name", "taken"] (spFree K)) : FnOk P w K mg base CX0 3 f fd ["kinds"] (spReadK K) := by
  refine F.ok sc__read_kinds (fun vs H Q E h => ?_) (fun cdv A outer s H vs Q E hr h => ?_)
  · obtain ⟨a, xs, B, rfl, _⟩ := h
    rfl
  · obtain ⟨a, xs, B, rfl, ha, hx, hB, q⟩ := h
    have hu := hu_of hr
    refine ⟨_, (pss_cons (ps_set (i := 1) sc__read_kinds.nd rfl (Or.inl rfl) (pe_lst pa_nil))
      (pss_cons (ps_for PassesOwn.never rfl (pi_list (pv 0)) (pg_tup rfl (pgs_cons (pg_name (i := 2) sc__read_kinds.nd rfl (Or.inl rfl)) (pgs_cons (pg_name (i := 3) sc__read_kinds.nd rfl (Or.inl rfl)) pgs_nil))) (pss_cons (ps_expr (own_call O__want_free_name hr (by first | decide | omega) (pa_cons (pv 2) (pa_cons (pe_lc (own := [("kind", 4)]) (g := gName 4) (by rfl) sc__read_kinds.nd (pi_list (pv 1)) (blkOk_by (own := [("kind", 4)]) (N := N__read_kinds) (sc := defScope s__read_kinds) (by decide +kernel)) (fun _ _ _ _ _ => (pg_name (i := 4) sc__read_kinds.nd rfl (Or.inl rfl) (Or.inr rfl))) (fun _ _ _ _ _ => pts_nil) (fun _ _ _ _ _ => (pe_ix (ixT K) (pv 4) pe_int (fun _ _ => rfl)))) pa_nil))))
      (pss_one (ps_expr (pe_bm PySem.F.plainAttrs_list PySem.F.slot_list_append PySem.F.type_list_append mt_append (pv 1) (pa_cons (pe_tup (pa_cons (pv 2) (pa_cons (pv 3) pa_nil))) pa_nil))))))
      (pss_one (ps_ret (pe_callTy (tuple_of K) (by rfl) T.m_tuple (by decide +kernel) (pa_cons (pv 1) pa_nil)))))), ?_⟩
    refine ⟨Nat.zero_le _, fun p hp => ?_⟩
    have s0 : Same H (upd H p (.lst [])) := same_new hp
    walk_at "ls"
    refine ⟨⟨_, s0.seq ha⟩, ?_⟩
    have lx : xs.length = B.ks.length := by rw [hx.len, List.length_map]
    refine for_it (walk_list (xs := xs)) (fun i σ H1 => ∃ (fx : List V) (v2 v3 : Option V), σ = [some (.ref a), some (.ref p), v2, v3, none] ∧ H1 p = some (.lst fx) ∧ TupsAt H1 fx ((B.ks.take i).map kindV) ∧ Same H H1)
      ⟨[], none, none, rfl, upd_same, .nil, s0⟩ (fun i σ H1 _ ⟨_, _, _, _, _, _, s1⟩ => s1.seq ha) ?_ ?_
    · rintro i x σ Hz H1 hi ⟨fx, v2, v3, rfl, h1, h1t, s1⟩ ⟨rfl, hxi⟩
      obtain ⟨ys, hys, t, rfl, ht⟩ := TupsAt.get (hx.keep (.same s1)) hxi
      obtain ⟨k, hk, rfl⟩ := map_get hys
      have hki : i < B.ks.length := (List.getElem?_eq_some_iff.mp hk).1
      refine ⟨t, _, rfl, .inl (.inl ht), rfl, _, _, rfl, _, _, rfl, rfl, ?_⟩
      walk_at "ls"
      have lf : fx.length ≤ 3 := by rw [h1t.len, List.length_map, List.length_take]; have := hB.nk3; omega
      have lz : fx.length < sizeLine := Nat.lt_of_le_of_lt lf (show 3 < sizeLine by decide)
      refine ⟨⟨_, .inl (.inl h1)⟩, fun D hD => ?_⟩
      have npD : p ≠ D := ne_of_none h1 hD
      refine lc_pure (walk_list (xs := fx)) fx (fstOf H1) rfl (fun i H x H' hi hy => hy) lz (fun acc => .inl (.inl (by rw [upd_ne npD]; exact h1))) (fun j y hj hy => ?_) ?_
      · obtain ⟨zs, hzs, hto⟩ := TupsAt.get h1t hy
        obtain ⟨k2, hk2, rfl⟩ := map_get hzs
        obtain ⟨t2, rfl, ht2⟩ := id hto
        have n2 : t2 ≠ D := ne_of_none ht2 hD
        refine ⟨rfl, ?_⟩
        walk_at "ls"
        exact lc_yes hy hj lz (fst_tup hto)
      rw [fst_all (fun a : Str × Bool => a.1) (fun a => [V.bl a.2]) (l := B.ks.take i) h1t]
      have hnd : (B.ks.map (·.1)).Nodup := (List.nodup_append.mp hB.nd).1
      have hkn : (B.ks.map (·.1))[i]? = some k.1 := by rw [List.getElem?_map, hk]; rfl
      refine ⟨_, D, (B.ks.take i).map (·.1), rfl, hB.nm _ (List.mem_append_left _ (List.mem_of_getElem? hkn)), upd_same, (by rw [List.map_take]; exact nd_take hnd hkn), fun H2 s2 => ?_⟩
      have s12 : Same H1 H2 := (same_new hD).trans s2
      have h2 := s12 _ _ h1
      walk_at "ls"
      refine ⟨(by show 2 ≤ sizeLine; decide), fun t2 ht2 => ?_⟩
      have npt : p ≠ t2 := ne_of_none h2 ht2
      have h2' : (upd H2 t2 (.tup [.str k.1, .bl k.2])) p = some (.lst fx) := by rw [upd_ne npt]; exact h2
      refine ⟨_, _, _, rfl, rfl, h2', lz, fx ++ [.ref t2], _, _, rfl, upd_same, ?_, ?_⟩
      · rw [List.take_add_one, hk, List.map_append]
        exact (h1t.keep (((TK.same s12).trans (.new ht2)).trans (.lst h2'))).snoc ⟨t2, rfl, by rw [upd_ne npt.symm]; exact upd_same⟩
      · exact Same.set ((s1.trans s12).trans (same_new ht2)) hp
    · rintro σ H1 ⟨fx, v2, v3, rfl, h1, h1t, s1⟩
      rw [lx, List.take_length] at h1t
      walk_at "ls"
      refine ⟨p, fx, rfl, .inl ⟨.inl (.inl h1), fun l hl => ?_⟩⟩
      exact q _ l fx upd_same (h1t.keep (.new hl)) (s1.trans (same_new hl))
/-! ### _read_columns -/
abbrev s__read_columns : Stmt := topS 23
theorem sc__read_columns : FnScope ["columns", "kinds", "kind", "names", "found", "name", "home", "goal", "rule", "column"] ["columns", "kinds"] (defScope s__read_columns) := ⟨rfl, rfl, rfl, by decide +kernel, rfl, by decide +kernel, by decide +kernel⟩
abbrev N__read_columns : List Str := ["columns", "kinds", "kind", "names", "found", "name", "home", "goal", "rule", "column"]
def spReadC (K : PySem.W.Frag) : Sp := fun vs H Q _ => ∃ (a b : Addr) (xs ys : List V) (B : Shp), vs = [.ref a, .ref b] ∧ SqL K H a xs ∧ TupsAt H xs (B.cs.map colV) ∧ H b = some (.tup ys) ∧ TupsAt H ys (B.ks.map kindV) ∧ B.Ok ∧
  ∀ (H' : Hp) (p : Addr) (zs : List V), H' p = some (.tup zs) → TupsAt H' zs (B.cs.map colV) → Same H H' → Q (.ref p) H'
theorem ok_readC {f : Addr} {fd : FuncData} {aR aC aK aB : Addr} {tS tL tN : Tok} (F : Fun K "_read_columns" "_read_columns" s__read_columns f fd) (T : Bt mg) (G : Gn K mg aR aC aK aB tS tL tN) (O__want_free_name : Own P w K mg base CX0 2 "_want_free_name" ["name", "taken"] (spFree K))
    (O_is_word_of : Own P w K mg base CX0 1 "is_word_of" ["thing", "words"] (spWord K)) : FnOk P w K mg base CX0 3 f fd ["columns", "kinds"] (spReadC K) := by
  refine F.ok sc__read_columns (fun vs H Q E h => ?_) (fun cdv A outer s H vs Q E hr h => ?_)
  · obtain ⟨a, b, xs, ys, B, rfl, _⟩ := h
    rfl
  · obtain ⟨a, b, xs, ys, B, rfl, ha, hx, hb, hy, hB, q⟩ := h
    have hu := hu_of hr
    refine ⟨_, (pss_cons (ps_setLc (i := 3) (own := [("kind", 2)]) (g := gName 2) (by rfl) sc__read_columns.nd rfl rfl (sw_true rfl rfl rfl (by decide +kernel)) (pi_tup (pv 1)) (blkOk_by (own := [("kind", 2)]) (N := N__read_columns) (sc := defScope s__read_columns) (by decide +kernel)) (fun _ _ _ _ _ => (pg_name (i := 2) sc__read_columns.nd rfl (Or.inl rfl) (Or.inr rfl))) (fun _ _ _ _ _ => pts_nil) (fun _ _ _ _ _ => (pe_ix (ixT K) (pv 2) pe_int (fun _ _ => rfl))))
      (pss_cons (ps_set (i := 4) sc__read_columns.nd rfl (Or.inl rfl) (pe_lst pa_nil))
      (pss_cons (ps_for PassesOwn.never rfl (pi_list (pv 0)) (pg_tup rfl (pgs_cons (pg_name (i := 5) sc__read_columns.nd rfl (Or.inl rfl)) (pgs_cons (pg_name (i := 6) sc__read_columns.nd rfl (Or.inl rfl)) (pgs_cons (pg_name (i := 7) sc__read_columns.nd rfl (Or.inl rfl)) (pgs_cons (pg_name (i := 8) sc__read_columns.nd rfl (Or.inl rfl)) pgs_nil))))) (pss_cons (ps_expr (own_call O__want_free_name hr (by first | decide | omega) (pa_cons (pv 5) (pa_cons (pe_op op_cat (pv 3) (pe_lc (own := [("column", 9)]) (g := gName 9) (by rfl) sc__read_columns.nd (pi_list (pv 4)) (blkOk_by (own := [("column", 9)]) (N := N__read_columns) (sc := defScope s__read_columns) (by decide +kernel)) (fun _ _ _ _ _ => (pg_name (i := 9) sc__read_columns.nd rfl (Or.inl rfl) (Or.inr rfl))) (fun _ _ _ _ _ => pts_nil) (fun _ _ _ _ _ => (pe_ix (ixT K) (pv 9) pe_int (fun _ _ => rfl))))) pa_nil))))
      (pss_cons (ps_for PassesOwn.never rfl (pi_tup (pe_tup (pa_cons (pv 6) (pa_cons (pv 7) pa_nil)))) (pg_name (i := 2) sc__read_columns.nd rfl (Or.inl rfl)) (pss_one (ps_if (pt_not (pt_val (own_call O_is_word_of hr (by first | decide | omega) (pa_cons (pv 2) (pa_cons (pv 3) pa_nil))))) (pss_one ps_dead) pss_nil)))
      (pss_cons (ps_if (pt_not (pt_val (own_call O_is_word_of hr (by first | decide | omega) (pa_cons (pv 8) (pa_cons (glob_ref G.RULES) pa_nil))))) (pss_one ps_dead) pss_nil)
      (pss_one (ps_expr (pe_bm PySem.F.plainAttrs_list PySem.F.slot_list_append PySem.F.type_list_append mt_append (pv 4) (pa_cons (pe_tup (pa_cons (pv 5) (pa_cons (pv 6) (pa_cons (pv 7) (pa_cons (pv 8) pa_nil))))) pa_nil))))))))
      (pss_one (ps_ret (pe_callTy (tuple_of K) (by rfl) T.m_tuple (by decide +kernel) (pa_cons (pv 4) pa_nil))))))), ?_⟩
    walk_at "ls"
    have ly : ys.length < sizeLine := Nat.lt_of_le_of_lt (by rw [hy.len, List.length_map]; exact hB.nk3) (show 3 < sizeLine by decide)
    refine ⟨⟨_, .inl (.inl hb)⟩, fun D1 hD1 => ?_⟩
    have nbD : b ≠ D1 := ne_of_none hb hD1
    refine lc_pure (walk_tup (xs := ys)) ys (fstOf H) rfl (fun i H x H' hi hy => hy) ly (fun acc => .inl (.inl (by rw [upd_ne nbD]; exact hb))) (fun j y hj hyj => ?_) ?_
    · obtain ⟨zs, hzs, hto⟩ := TupsAt.get hy hyj
      obtain ⟨k2, hk2, rfl⟩ := map_get hzs
      obtain ⟨t2, rfl, ht2⟩ := id hto
      have n2 : t2 ≠ D1 := ne_of_none ht2 hD1
      refine ⟨rfl, ?_⟩
      walk_at "ls"
      exact lc_yes hyj hj ly (fst_tup hto)
    rw [fst_all (fun a : Str × Bool => a.1) (fun a => [V.bl a.2]) (l := B.ks) hy]
    refine at_heap (φ := fun H1 => Same H H1 ∧ H1 D1 = some (.lst ((B.ks.map (·.1)).map V.str))) ⟨same_new hD1, upd_same⟩ ?_
    rintro H1 ⟨s1, h1D⟩
    refine ⟨Nat.zero_le _, fun p hp => ?_⟩
    have s1p : Same H1 (upd H1 p (.lst [])) := same_new hp
    walk_at "ls"
    refine ⟨⟨_, (s1.trans s1p).seq ha⟩, ?_⟩
    have lx : xs.length = B.cs.length := by rw [hx.len, List.length_map]
    have hpn : H p = none := s1.free hp
    refine for_it (walk_list (xs := xs)) (fun i σ H2 => ∃ (fx : List V) (v2 v5 v6 v7 v8 : Option V), σ = [some (.ref a), some (.ref b), v2, some (.ref D1), some (.ref p), v5, v6, v7, v8, none] ∧ H2 p = some (.lst fx) ∧ TupsAt H2 fx ((B.cs.take i).map colV) ∧ Same H1 H2)
      ⟨[], none, none, none, none, none, rfl, upd_same, .nil, s1p⟩ (fun i σ H2 _ ⟨_, _, _, _, _, _, _, _, _, s2⟩ => (s1.trans s2).seq ha) ?_ ?_
    · rintro i x σ Hz H2 hi ⟨fx, v2, v5, v6, v7, v8, rfl, h2, h2t, s2⟩ ⟨rfl, hxi⟩
      obtain ⟨zs, hzs, t, rfl, ht⟩ := TupsAt.get (hx.keep (.same (s1.trans s2))) hxi
      obtain ⟨c, hc, rfl⟩ := map_get hzs
      have hci : i < B.cs.length := (List.getElem?_eq_some_iff.mp hc).1
      have hcm : c ∈ B.cs := List.mem_of_getElem? hc
      refine ⟨t, _, rfl, .inl (.inl ht), rfl, _, _, rfl, _, _, rfl, _, _, rfl, _, _, rfl, rfl, ?_⟩
      have h2D := s2 _ _ h1D
      walk_at "ls"
      have lf : fx.length ≤ 8 := by rw [h2t.len, List.length_map, List.length_take]; have := hB.nc; omega
      have lz : fx.length < sizeLine := Nat.lt_of_le_of_lt lf (show 8 < sizeLine by decide)
      -- names + [column[0] for column in found]
      refine ⟨⟨_, .inl (.inl h2)⟩, fun D hD => ?_⟩
      have npD : p ≠ D := ne_of_none h2 hD
      refine lc_pure (walk_list (xs := fx)) fx (fstOf H2) rfl (fun i H x H' hi hy => hy) lz (fun acc => .inl (.inl (by rw [upd_ne npD]; exact h2))) (fun j y hj hyj => ?_) ?_
      · obtain ⟨zs, hzs, hto⟩ := TupsAt.get h2t hyj
        obtain ⟨k2, hk2, rfl⟩ := map_get hzs
        obtain ⟨t2, rfl, ht2⟩ := id hto
        have n2 : t2 ≠ D := ne_of_none ht2 hD
        refine ⟨rfl, ?_⟩
        walk_at "ls"
        exact lc_yes hyj hj lz (fst_tup hto)
      rw [fst_all (fun a : Str × Str × Str × Bool => a.1) (fun a => [.str a.2.1, .str a.2.2.1, .str (ruleS a.2.2.2)]) (l := B.cs.take i) h2t]
      have n1D : D1 ≠ D := ne_of_none h2D hD
      refine ⟨_, _, _, _, rfl, rfl, (by rw [upd_ne n1D]; exact h2D), upd_same, ?_, fun E1 hE1 => ?_⟩
      · rw [List.length_map, List.length_map, List.length_map, List.length_map, List.length_take]
        have := hB.nk3
        have := hB.nc
        exact Nat.le_trans (show _ ≤ 1000 by omega) (show 1000 ≤ sizeLine by decide)
      have hcn : (B.cs.map (·.1))[i]? = some c.1 := by rw [List.getElem?_map, hc]; rfl
      have hnd := List.nodup_append.mp hB.nd
      refine ⟨_, E1, (B.ks.map (·.1)) ++ (B.cs.take i).map (·.1), rfl, hB.nm _ (List.mem_append_right _ (List.mem_of_getElem? hcn)), (by rw [upd_same, List.map_append]), ?_, fun H3 s3 => ?_⟩
      · intro hm
        rcases List.mem_append.mp hm with h | h
        · exact hnd.2.2 _ h _ (List.mem_of_getElem? hcn) rfl
        · rw [List.map_take] at h
          exact nd_take hnd.2.1 hcn h
      have s23 : Same H2 H3 := ((same_new hD).trans (same_new hE1)).trans s3
      have h3D := s23 _ _ h2D
      have h3 := s23 _ _ h2
      -- for kind in (home, goal)
      walk_at "ls"
      refine ⟨(by show 2 ≤ sizeLine; decide), fun g hg => ?_⟩
      refine ⟨g, rfl, ⟨_, .inl (.inl upd_same)⟩, ?_⟩
      have n3g : D1 ≠ g := ne_of_none h3D hg
      have npg : p ≠ g := ne_of_none h3 hg
      refine for_it (walk_tup (xs := [.str c.2.1, .str c.2.2.1])) (fun j σ H4 => ∃ v2 : Option V, σ = [some (.ref a), some (.ref b), v2, some (.ref D1), some (.ref p), some (.str c.1), some (.str c.2.1), some (.str c.2.2.1), some (.str (ruleS c.2.2.2)), none] ∧ H4 = upd H3 g (.tup [.str c.2.1, .str c.2.2.1]))
        ⟨v2, rfl, rfl⟩ (fun j σ H4 _ ⟨_, _, e⟩ => .inl (.inl (by rw [e]; exact upd_same))) ?_ ?_
      · rintro j y σ Hy H4 hj ⟨v2, rfl, e4⟩ ⟨rfl, hyj⟩
        obtain ⟨z, rfl, hz⟩ : ∃ z, y = .str z ∧ z ∈ B.ks.map (·.1) := by
          match j, hj, hyj with
          | 0, _, h => exact ⟨_, (Option.some.inj h).symm, hB.home c hcm⟩
          | 1, _, h => exact ⟨_, (Option.some.inj h).symm, hB.goal c hcm⟩
        walk_at "ls"
        refine ⟨z, D1, B.ks.map (·.1), rfl, .inl (.inl (.inl (by rw [e4, upd_ne n3g]; exact h3D))), ?_⟩
        rw [decide_eq_true hz]
        refine ⟨_, rfl, iteF ?_⟩
        exact ⟨_, rfl, e4⟩
      · rintro σ H4 ⟨v2, rfl, e4⟩
        walk_at "ls"
        refine ⟨_, aR, ["fall", "clear"], rfl, .inr (G.kRULES.sq _), ?_⟩
        rw [decide_eq_true (rule_mem c.2.2.2)]
        refine ⟨_, rfl, iteF ?_⟩
        walk_at "ls"
        refine ⟨.inl ⟨rfl, _, .inl (.inl (show H4 p = some (.lst fx) by rw [e4, upd_ne npg]; exact h3))⟩, ?_⟩
        walk_at "ls"
        refine ⟨(by show 4 ≤ sizeLine; decide), fun t2 ht2 => ?_⟩
        have h4 : H4 p = some (.lst fx) := by rw [e4, upd_ne npg]; exact h3
        have npt : p ≠ t2 := ne_of_none h4 ht2
        have s24 : Same H2 H4 := s23.trans (by rw [e4]; exact same_new hg)
        have h4' : (upd H4 t2 (.tup [.str c.1, .str c.2.1, .str c.2.2.1, .str (ruleS c.2.2.2)])) p = some (.lst fx) := by rw [upd_ne npt]; exact h4
        refine ⟨_, _, _, rfl, rfl, h4', lz, fx ++ [.ref t2], _, _, _, _, _, rfl, upd_same, ?_, ?_⟩
        · rw [List.take_add_one, hc, List.map_append]
          exact (h2t.keep (((TK.same s24).trans (.new ht2)).trans (.lst h4'))).snoc ⟨t2, rfl, by rw [upd_ne npt.symm]; exact upd_same⟩
        · exact Same.set ((s2.trans s24).trans (same_new ht2)) hp
    · rintro σ H2 ⟨fx, v2, v5, v6, v7, v8, rfl, h2, h2t, s2⟩
      rw [lx, List.take_length] at h2t
      walk_at "ls"
      refine ⟨p, fx, rfl, .inl ⟨.inl (.inl h2), fun l hl => ?_⟩⟩
      exact q _ l fx upd_same (h2t.keep (.new hl)) ((s1.trans s2).trans (same_new hl))
end
end Ls
namespace Ls
open PySem PySem.Spec PyProof.Rows L2
/-! ### short steps -/
local macro_rules | `(tactic| walk_at "ls_ne") => `(tactic| first | assumption | exact Ne.symm (by assumption) | exact ne_of_none (by assumption) (by assumption) | exact Ne.symm (ne_of_none (by assumption) (by assumption)))
local macro_rules | `(tactic| walk_at "ls_hp") => `(tactic| first
  | with_reducible assumption
  | exact upd_same
  | exact Eq.trans (upd_ne (by walk_at "ls_ne")) (by walk_at "ls_hp"))
local macro_rules | `(tactic| walk_at "ls_st") => `(tactic| first
  | with_reducible assumption
  | exact Stm.upd (by walk_at "ls_st") (by first | walk_at "ls_ne" | exact (Stm.noneS (by assumption) (by assumption)).1) (by first | walk_at "ls_ne" | exact (Stm.noneS (by assumption) (by assumption)).2))
local macro_rules | `(tactic| walk_at "ls1") => `(tactic| first
  | refine ⟨_, rfl, ?_⟩
  | refine ⟨_, _, rfl, rfl, ?_⟩
  | refine ⟨_, _, _, _, rfl, rfl, .inl (.inl (by walk_at "ls_hp")), rfl, ?_⟩
  | refine ⟨_, _, _, _, rfl, rfl, (by walk_at "ls_hp"), rfl, ?_⟩
  | refine ⟨rfl, _, rfl, ?_⟩
  | refine ⟨.inl ⟨rfl, _, .inl (.inl (by walk_at "ls_hp"))⟩, ?_⟩)
local macro_rules | `(tactic| walk_at "ls") => `(tactic| repeat (walk_at "ls1"))

def onlyIn (ts : List Str) (v : V) : Option V := if inV v (ts.map V.str) = true then some v else none
theorem onlyIn_all (ts : List Str) : ∀ ys : List Str, (ys.map V.str).filterMap (onlyIn ts) = (ys.filter fun z => decide (z ∈ ts)).map V.str
  | [] => rfl
  | y :: r => by
    rw [List.map_cons, List.filterMap_cons, List.filter_cons, onlyIn_all ts r]
    unfold onlyIn
    rw [in_strs]
    by_cases h : y ∈ ts
    · simp [h]
    · simp [h]
section
variable {P : Program} {w : World} {K : PySem.W.Frag} {mg : Str → Option Value} {base : Heap}
/-! ### _menu_of -/
abbrev s__menu_of : Stmt := topS 25
theorem sc__menu_of : FnScope ["kinds", "columns", "found", "column", "kind", "word"] ["kinds", "columns"] (defScope s__menu_of) := ⟨rfl, rfl, rfl, by decide +kernel, rfl, by decide +kernel, by decide +kernel⟩
abbrev N__menu_of : List Str := ["kinds", "columns", "found", "column", "kind", "word"]
def spMenu : Sp := fun vs H Q _ => ∃ (a b : Addr) (xs ys : List V) (B : Shp), vs = [.ref a, .ref b] ∧ H a = some (.tup xs) ∧ TupsAt H xs (B.ks.map kindV) ∧ H b = some (.tup ys) ∧ TupsAt H ys (B.cs.map colV) ∧ B.Ok ∧
  ∀ (H' : Hp) (p : Addr), H' p = some (.tup ((menu B).map V.str)) → Same H H' → Q (.ref p) H'
theorem ok_menu {f : Addr} {fd : FuncData} {aR aC aK aB : Addr} {tS tL tN : Tok} (F : Fun K "_menu_of" "_menu_of" s__menu_of f fd) (T : Bt mg) (G : Gn K mg aR aC aK aB tS tL tN) : FnOk P w K mg base CX0 1 f fd ["kinds", "columns"] spMenu := by
  refine F.ok sc__menu_of (fun vs H Q E h => ?_) (fun cdv A outer s H vs Q E hr h => ?_)
  · obtain ⟨a, b, xs, ys, B, rfl, _⟩ := h
    rfl
  · obtain ⟨ka, ca, kx, cx, B, rfl, hka, hkt, hca, hct, hB, q⟩ := h
    have hu := hu_of hr
    refine ⟨_, (pss_cons (ps_set (i := 2) sc__menu_of.nd rfl (Or.inl rfl) (pe_lst pa_nil))
      (pss_cons (ps_for PassesOwn.never rfl (pi_tup (pv 1)) (pg_name (i := 3) sc__menu_of.nd rfl (Or.inr rfl)) (pss_one (ps_expr (pe_bm PySem.F.plainAttrs_list PySem.F.slot_list_extend PySem.F.type_list_extend mt_extend (pv 2) (pa_cons (pe_lc (own := [("word", 5)]) (g := gName 5) (by rfl) sc__menu_of.nd (pi_tup (glob_ref G.COLUMN_CHECKS)) (blkOk_by (own := [("word", 5)]) (N := N__menu_of) (sc := defScope s__menu_of) (by decide +kernel)) (fun _ _ _ _ _ => (pg_name (i := 5) sc__menu_of.nd rfl (Or.inl rfl) (Or.inr rfl))) (fun _ _ _ _ _ => pts_nil) (fun _ _ _ _ _ => (pe_op op_add_str (pe_op op_add_str (pv 5) pe_str) (pe_ix (ixT K) (pv 3) pe_int (fun _ _ => rfl))))) pa_nil)))))
      (pss_cons (ps_for PassesOwn.never rfl (pi_tup (pv 0)) (pg_name (i := 4) sc__menu_of.nd rfl (Or.inr rfl)) (pss_one (ps_expr (pe_bm PySem.F.plainAttrs_list PySem.F.slot_list_extend PySem.F.type_list_extend mt_extend (pv 2) (pa_cons (pe_lc (own := [("word", 5)]) (g := gName 5) (by rfl) sc__menu_of.nd (pi_tup (glob_ref G.KIND_CHECKS)) (blkOk_by (own := [("word", 5)]) (N := N__menu_of) (sc := defScope s__menu_of) (by decide +kernel)) (fun _ _ _ _ _ => (pg_name (i := 5) sc__menu_of.nd rfl (Or.inl rfl) (Or.inr rfl))) (fun _ _ _ _ _ => pts_nil) (fun _ _ _ _ _ => (pe_op op_add_str (pe_op op_add_str (pv 5) pe_str) (pe_ix (ixT K) (pv 4) pe_int (fun _ _ => rfl))))) pa_nil)))))
      (pss_cons (ps_expr (pe_bm PySem.F.plainAttrs_list PySem.F.slot_list_extend PySem.F.type_list_extend (mt_extK K) (pv 2) (pa_cons (glob_ref G.BOOK_CHECKS) pa_nil)))
      (pss_one (ps_ret (pe_callTy (tuple_of K) (by rfl) T.m_tuple (by decide +kernel) (pa_cons (pv 2) pa_nil)))))))), ?_⟩
    refine ⟨Nat.zero_le _, fun p hp => ?_⟩
    have s0 : Same H (upd H p (.lst [])) := same_new hp
    walk_at "ls"
    refine ⟨⟨_, .inl (.inl (s0 _ _ hca))⟩, ?_⟩
    refine for_it (walk_tup (xs := cx)) (fun i σ H1 => ∃ v : Option V, σ = [some (.ref ka), some (.ref ca), some (.ref p), v, none, none] ∧ H1 p = some (.lst (((B.cs.take i).flatMap fun c => withN colW c.1).map V.str)) ∧ Same H H1)
      ⟨none, rfl, upd_same, s0⟩ (fun i σ H1 _ ⟨_, _, _, s1⟩ => .inl (.inl (s1 _ _ hca))) ?_ ?_
    · rintro i x σ Hz H1 hi ⟨v, rfl, h1, s1⟩ ⟨rfl, hx⟩
      obtain ⟨ys, hys, t, rfl, ht⟩ := TupsAt.get (hct.keep (.same s1)) hx
      obtain ⟨c, hc, rfl⟩ := map_get hys
      have hci : i < B.cs.length := (List.getElem?_eq_some_iff.mp hc).1
      have hnm : c.1.length ≤ 8 := (hB.nm _ (List.mem_append_right _ (List.mem_map_of_mem (List.mem_of_getElem? hc)))).1.2.1
      walk_at "ls"
      refine ⟨⟨_, G.kCOL.sq _⟩, fun D hD => ?_⟩
      have npD : p ≠ D := ne_of_none h1 hD
      have ntD : t ≠ D := ne_of_none ht hD
      refine lc_pure (walk_tup (xs := colW.map V.str)) (colW.map V.str) (addN c.1) rfl (fun i H x H' hi hy => hy) (by decide +kernel) (fun acc => G.kCOL.sq _) (fun k y hk hy => ?_) ?_
      · obtain ⟨a, ha, rfl⟩ := map_get hy
        have hal : a.length ≤ 5 := colW_len a (List.mem_of_getElem? ha)
        refine ⟨rfl, ?_⟩
        walk_at "ls"
        refine ⟨room_str (m := 1) hal (by decide +kernel) (by decide), ?_⟩
        walk_at "ls"
        refine ⟨room_str (n := 6) (m := 8) (word_len hal) hnm (by decide), ?_⟩
        exact lc_yes hy hk (by decide +kernel) rfl
      rw [addN_all]
      refine ⟨_, _, _, _, rfl, rfl, (by rw [upd_ne npD]; exact h1), upd_same, ?_, ?_⟩
      · rw [List.length_map, List.length_map, flat_len _ 5 (fun c => by rw [withN, List.length_map]; rfl), withN, List.length_map, List.length_take]
        have := hB.nc
        show 5 * _ + 5 ≤ sizeLine
        exact Nat.le_trans (by omega) (show 1000 ≤ sizeLine by decide)
      · refine ⟨_, rfl, ?_, ?_⟩
        · rw [upd_same, flat_snoc hc, List.map_append]
        · exact Same.set (s1.trans (same_new hD)) hp
    · rintro σ H1 ⟨v, rfl, h1, s1⟩
      have e1 : B.cs.take cx.length = B.cs := by
        have := hct.len
        rw [List.length_map] at this
        rw [this, List.take_length]
      rw [e1] at h1
      walk_at "ls"
      refine ⟨⟨_, .inl (.inl (s1 _ _ hka))⟩, ?_⟩
      refine for_it (walk_tup (xs := kx)) (fun i σ H1 => ∃ v v3 : Option V, σ = [some (.ref ka), some (.ref ca), some (.ref p), v, v3, none] ∧ H1 p = some (.lst (((B.cs.flatMap fun c => withN colW c.1) ++ (B.ks.take i).flatMap fun c => withN kindW c.1).map V.str)) ∧ Same H H1)
        ⟨v, none, rfl, (by rw [List.take_zero, List.flatMap_nil, List.append_nil]; exact h1), s1⟩ (fun i σ H1 _ ⟨_, _, _, _, s1⟩ => .inl (.inl (s1 _ _ hka))) ?_ ?_
      · clear h1 s1 v
        rintro i x σ Hz H1 hi ⟨v, v3, rfl, h1, s1⟩ ⟨rfl, hx⟩
        obtain ⟨ys, hys, t, rfl, ht⟩ := TupsAt.get (hkt.keep (.same s1)) hx
        obtain ⟨c, hc, rfl⟩ := map_get hys
        have hci : i < B.ks.length := (List.getElem?_eq_some_iff.mp hc).1
        have hnm : c.1.length ≤ 8 := (hB.nm _ (List.mem_append_left _ (List.mem_map_of_mem (List.mem_of_getElem? hc)))).1.2.1
        walk_at "ls"
        refine ⟨⟨_, G.kKIND.sq _⟩, fun D hD => ?_⟩
        have npD : p ≠ D := ne_of_none h1 hD
        have ntD : t ≠ D := ne_of_none ht hD
        refine lc_pure (walk_tup (xs := kindW.map V.str)) (kindW.map V.str) (addN c.1) rfl (fun i H x H' hi hy => hy) (by decide +kernel) (fun acc => G.kKIND.sq _) (fun k y hk hy => ?_) ?_
        · obtain ⟨a, ha, rfl⟩ := map_get hy
          have hal : a.length ≤ 5 := kindW_len a (List.mem_of_getElem? ha)
          refine ⟨rfl, ?_⟩
          walk_at "ls"
          refine ⟨room_str (m := 1) hal (by decide +kernel) (by decide), ?_⟩
          walk_at "ls"
          refine ⟨room_str (n := 6) (m := 8) (word_len hal) hnm (by decide), ?_⟩
          exact lc_yes hy hk (by decide +kernel) rfl
        rw [addN_all]
        refine ⟨_, _, _, _, rfl, rfl, (by rw [upd_ne npD]; exact h1), upd_same, ?_, ?_⟩
        · rw [List.length_map, List.length_append, List.length_map, flat_len _ 5 (fun c => by rw [withN, List.length_map]; rfl), flat_len _ 3 (fun c => by rw [withN, List.length_map]; rfl), withN, List.length_map, List.length_take]
          have := hB.nc
          have := hB.nk3
          show 5 * _ + 3 * _ + 3 ≤ sizeLine
          exact Nat.le_trans (by omega) (show 1000 ≤ sizeLine by decide)
        · refine ⟨_, _, rfl, ?_, ?_⟩
          · rw [upd_same, flat_snoc hc, List.map_append, List.map_append, List.map_append, List.append_assoc]
          · exact Same.set (s1.trans (same_new hD)) hp
      · clear h1 s1 v
        rintro σ H1 ⟨v, v3, rfl, h1, s1⟩
        have e2 : B.ks.take kx.length = B.ks := by
          have := hkt.len
          rw [List.length_map] at this
          rw [this, List.take_length]
        rw [e2] at h1
        walk_at "ls"
        have em : ((B.cs.flatMap fun c => withN colW c.1) ++ B.ks.flatMap fun c => withN kindW c.1).map V.str ++ bookW.map V.str = (menu B).map V.str := by
          unfold menu
          rw [List.map_append (l₂ := bookW)]
        have lm : ((menu B).map V.str).length ≤ 100 := by rw [List.length_map]; have := menu_len B; have := hB.nc; have := hB.nk3; omega
        refine ⟨_, _, _, _, rfl, rfl, h1, G.kBOOK, ?_, ?_⟩
        · rw [← List.length_append, em]
          exact Nat.le_trans lm (show 100 ≤ sizeLine by decide)
        rw [em]
        have s2 : Same H (upd H1 p (.lst ((menu B).map V.str))) := Same.set s1 hp
        walk_at "ls"
        refine ⟨p, _, rfl, .inl ⟨.inl (.inl upd_same), fun l hl => ?_⟩⟩
        exact q _ l upd_same (s2.trans (same_new hl))
/-! ### _read_checks -/
abbrev s__read_checks : Stmt := topS 26
theorem sc__read_checks : FnScope ["checks", "menu", "given", "check"] ["checks", "menu"] (defScope s__read_checks) := ⟨rfl, rfl, rfl, by decide +kernel, rfl, by decide +kernel, by decide +kernel⟩
abbrev N__read_checks : List Str := ["checks", "menu", "given", "check"]
def spReadX (K : PySem.W.Frag) : Sp := fun vs H Q _ => ∃ (a b : Addr) (ck mn : List Str), vs = [.ref a, .ref b] ∧ SqL K H a (ck.map V.str) ∧ H b = some (.tup (mn.map V.str)) ∧ ck.length ≤ 1000 ∧ mn.length ≤ 1000 ∧ (∀ z ∈ ck, z ∈ mn) ∧
  ∀ (H' : Hp) (p : Addr), H' p = some (.tup ((mn.filter fun z => decide (z ∈ ck)).map V.str)) → Same H H' → Q (.ref p) H'
theorem ok_readX {f : Addr} {fd : FuncData} (F : Fun K "_read_checks" "_read_checks" s__read_checks f fd) (T : Bt mg) (O_is_word_of : Own P w K mg base CX0 1 "is_word_of" ["thing", "words"] (spWord K)) : FnOk P w K mg base CX0 2 f fd ["checks", "menu"] (spReadX K) := by
  refine F.ok sc__read_checks (fun vs H Q E h => ?_) (fun cdv A outer s H vs Q E hr h => ?_)
  · obtain ⟨a, b, ck, mn, rfl, _⟩ := h
    rfl
  · obtain ⟨a, b, ck, mn, rfl, ha, hb, lc, lm, hsub, q⟩ := h
    have hu := hu_of hr
    refine ⟨_, (pss_cons (ps_set (i := 2) sc__read_checks.nd rfl (Or.inr rfl) (pe_callTy (list_of K) (by rfl) T.m_list (by decide +kernel) (pa_cons (pv 0) pa_nil)))
      (pss_cons (ps_for PassesOwn.never rfl (pi_list (pv 2)) (pg_name (i := 3) sc__read_checks.nd rfl (Or.inl rfl)) (pss_one (ps_if (pt_not (pt_val (own_call O_is_word_of hr (by first | decide | omega) (pa_cons (pv 3) (pa_cons (pv 1) pa_nil))))) (pss_one ps_dead) pss_nil)))
      (pss_one (ps_ret (pe_callTy (tuple_of K) (by rfl) T.m_tuple (by decide +kernel) (pa_cons (pe_lc (own := [("check", 3)]) (g := gName 3) (by rfl) sc__read_checks.nd (pi_tup (pv 1)) (blkOk_by (own := [("check", 3)]) (N := N__read_checks) (sc := defScope s__read_checks) (by decide +kernel)) (fun _ _ _ _ _ => (pg_name (i := 3) sc__read_checks.nd rfl (Or.inl rfl) (Or.inr rfl))) (fun _ _ _ _ _ => (pts_one (pt_cmpR (in_seq K) (pv 3) (pv 2) (by rfl)))) (fun _ _ _ _ _ => (pv 3))) pa_nil)))))), ?_⟩
    walk_at "ls"
    refine ⟨a, _, rfl, .inl ha, fun g hg => ?_⟩
    have s0 : Same H (upd H g (.lst (ck.map V.str))) := same_new hg
    walk_at "ls"
    refine ⟨⟨_, .inl (.inl upd_same)⟩, ?_⟩
    refine for_it (walk_list (xs := ck.map V.str)) (fun i σ H1 => ∃ v : Option V, σ = [some (.ref a), some (.ref b), some (.ref g), v] ∧ H1 = upd H g (.lst (ck.map V.str)))
      ⟨none, rfl, rfl⟩ (fun i σ H1 _ ⟨_, _, e⟩ => .inl (.inl (by rw [e]; exact upd_same))) ?_ ?_
    · rintro i x σ Hz H1 hi ⟨v, rfl, e1⟩ ⟨rfl, hx⟩
      obtain ⟨z, hz, rfl⟩ := map_get hx
      walk_at "ls"
      refine ⟨z, b, mn, rfl, .inr (.inl (.inl (by rw [e1]; exact s0 _ _ hb))), ?_⟩
      rw [decide_eq_true (hsub z (List.mem_of_getElem? hz))]
      refine ⟨_, rfl, iteF ?_⟩
      exact ⟨_, rfl, e1⟩
    · rintro σ H1 ⟨v, rfl, e1⟩
      subst e1
      walk_at "ls"
      have hb1 := s0 _ _ hb
      refine ⟨⟨_, .inl (.inl hb1)⟩, fun D hD => ?_⟩
      have nbD : b ≠ D := ne_of_none hb1 hD
      have ngD : g ≠ D := ne_of_none upd_same hD
      have lz : (mn.map V.str).length < sizeLine := Nat.lt_of_le_of_lt (by rw [List.length_map]; exact lm) (show 1000 < sizeLine by decide)
      refine lc_pure (walk_tup (xs := mn.map V.str)) (mn.map V.str) (onlyIn ck) rfl (fun i H x H' hi hy => hy) lz (fun acc => .inl (.inl (by rw [upd_ne nbD]; exact hb1))) (fun k y hk hy => ?_) ?_
      · obtain ⟨z, hz, rfl⟩ := map_get hy
        refine ⟨rfl, ?_⟩
        walk_at "ls"
        refine ⟨g, _, rfl, .inl (.inl (.inl (by rw [upd_ne ngD]; exact upd_same))), rfl, all_flat ck, _, rfl, ?_⟩
        show if inV (V.str z) (ck.map V.str) = true then _ else _
        rw [in_strs]
        refine ite2 (fun e => ?_) (fun e => ?_)
        · walk_at "ls"
          exact lc_yes hy hk lz (by unfold onlyIn; rw [in_strs]; simpa using e)
        · exact lc_no hy (by unfold onlyIn; rw [in_strs]; simpa using e)
      rw [onlyIn_all]
      refine ⟨D, _, rfl, .inl ⟨.inl (.inl upd_same), fun l hl => ?_⟩⟩
      exact q _ l upd_same ((s0.trans (same_new hD)).trans (same_new hl))
end
end Ls
namespace Ls
open PySem PySem.Spec PyProof.Rows L2
/-! ### short steps -/
local macro_rules | `(tactic| walk_at "ls_ne") => `(tactic| first | assumption | exact Ne.symm (by assumption) | exact ne_of_none (by assumption) (by assumption) | exact Ne.symm (ne_of_none (by assumption) (by assumption)))
local macro_rules | `(tactic| walk_at "ls_hp") => `(tactic| first
  | with_reducible assumption
  | exact upd_same
  | exact Eq.trans (upd_ne (by walk_at "ls_ne")) (by walk_at "ls_hp"))
local macro_rules | `(tactic| walk_at "ls_st") => `(tactic| first
  | with_reducible assumption
  | exact Stm.upd (by walk_at "ls_st") (by first | walk_at "ls_ne" | exact (Stm.noneS (by assumption) (by assumption)).1) (by first | walk_at "ls_ne" | exact (Stm.noneS (by assumption) (by assumption)).2))
local macro_rules | `(tactic| walk_at "ls1") => `(tactic| first
  | refine ⟨_, rfl, ?_⟩
  | refine ⟨_, _, rfl, rfl, ?_⟩
  | refine ⟨_, _, _, _, rfl, rfl, .inl (.inl (by walk_at "ls_hp")), rfl, ?_⟩
  | refine ⟨_, _, _, _, rfl, rfl, (by walk_at "ls_hp"), rfl, ?_⟩
  | refine ⟨rfl, _, rfl, ?_⟩
  | refine ⟨.inl ⟨rfl, _, .inl (.inl (by walk_at "ls_hp"))⟩, ?_⟩)
local macro_rules | `(tactic| walk_at "ls") => `(tactic| repeat (walk_at "ls1"))

/-! ### a book -/
def bookF (k c m x : Addr) : List (Str × V) := putF "_checks" (.ref x) (putF "_menu" (.ref m) (putF "_columns" (.ref c) (putF "_kinds" (.ref k) [])))
theorem b12 : ¬ (("_kinds" : Str) = "_columns") := by decide +kernel
theorem b13 : ¬ (("_kinds" : Str) = "_menu") := by decide +kernel
theorem b14 : ¬ (("_kinds" : Str) = "_checks") := by decide +kernel
theorem b23 : ¬ (("_columns" : Str) = "_menu") := by decide +kernel
theorem b24 : ¬ (("_columns" : Str) = "_checks") := by decide +kernel
theorem b34 : ¬ (("_menu" : Str) = "_checks") := by decide +kernel
theorem bookF_k {k c m x : Addr} : (bookF k c m x).lookup ("_kinds" : Str) = some (.ref k) := by
  unfold bookF
  rw [lookup_putF, if_neg b14, lookup_putF, if_neg b13, lookup_putF, if_neg b12, lookup_putF, if_pos rfl]
theorem bookF_c {k c m x : Addr} : (bookF k c m x).lookup ("_columns" : Str) = some (.ref c) := by
  unfold bookF
  rw [lookup_putF, if_neg b24, lookup_putF, if_neg b23, lookup_putF, if_pos rfl]
theorem bookF_m {k c m x : Addr} : (bookF k c m x).lookup ("_menu" : Str) = some (.ref m) := by
  unfold bookF
  rw [lookup_putF, if_neg b34, lookup_putF, if_pos rfl]
theorem bookF_x {k c m x : Addr} : (bookF k c m x).lookup ("_checks" : Str) = some (.ref x) := by
  unfold bookF
  rw [lookup_putF, if_pos rfl]
theorem bookF_no {k c m x : Addr} {f : Str} (h1 : ¬ f = "_checks") (h2 : ¬ f = "_menu") (h3 : ¬ f = "_columns") (h4 : ¬ f = "_kinds") : (bookF k c m x).lookup f = none := by
  unfold bookF
  rw [lookup_putF, if_neg h1, lookup_putF, if_neg h2, lookup_putF, if_neg h3, lookup_putF, if_neg h4]
  rfl
structure BookAt (C : Addr) (H : Hp) (o : Addr) (B : Shp) (ck : List Str) : Prop where
  ex : ∃ (dx k c m x : Addr) (kx cx : List V), H o = some (.ins C dx (bookF k c m x)) ∧ H k = some (.tup kx) ∧ TupsAt H kx (B.ks.map kindV) ∧ H c = some (.tup cx) ∧ TupsAt H cx (B.cs.map colV) ∧
    H m = some (.tup ((menu B).map V.str)) ∧ H x = some (.tup (ck.map V.str))
theorem BookAt.same {C : Addr} {H H' : Hp} {o : Addr} {B : Shp} {ck : List Str} (h : BookAt C H o B ck) (s : Same H H') : BookAt C H' o B ck := by
  obtain ⟨dx, k, c, m, x, kx, cx, h1, h2, h3, h4, h5, h6, h7⟩ := h
  exact ⟨dx, k, c, m, x, kx, cx, s _ _ h1, s _ _ h2, h3.keep (.same s), s _ _ h4, h5.keep (.same s), s _ _ h6, s _ _ h7⟩
/-- what is asked of the class -/
structure BkT (K : PySem.W.Frag) (C : Addr) : Prop where
  cl : Cls K C
  nk : NoAttr K C "_kinds"
  nc : NoAttr K C "_columns"
  nm : NoAttr K C "_menu"
  nx : NoAttr K C "_checks"
section
variable {P : Program} {w : World} {K : PySem.W.Frag} {mg : Str → Option Value} {base : Heap}
/-! ### Book.__init__ -/
abbrev s_Book_init : Stmt := inClass (topS 20) 0
theorem sc_Book_init : FnScope ["self", "kinds", "columns", "checks"] ["self", "kinds", "columns", "checks"] (defScope s_Book_init) := ⟨rfl, rfl, rfl, by decide +kernel, rfl, by decide +kernel, by decide +kernel⟩
abbrev N_Book_init : List Str := ["self", "kinds", "columns", "checks"]
/-- all but o stays -/
def But (o : Addr) (H H' : Hp) : Prop := ∀ b u, b ≠ o → H b = some u → H' b = some u
theorem But.same {o : Addr} {H H' : Hp} (s : Same H H') : But o H H' := fun b u _ e => s b u e
theorem But.trans {o : Addr} {H H1 H2 : Hp} (a : But o H H1) (b : But o H1 H2) : But o H H2 := fun c u h e => b c u h (a c u h e)
theorem But.set {o : Addr} {H : Hp} {u : HO} : But o H (upd H o u) := fun b u h e => by rw [upd_ne h]; exact e
theorem But.tk {o C dx : Addr} {H H' : Hp} {fs : List (Str × V)} (b : But o H H') (h : H o = some (.ins C dx fs)) : TK H H' := fun t ys e => b t _ (ne_of e h fun z => nomatch z) e
def spInit (K : PySem.W.Frag) (C : Addr) : Sp := fun vs H Q _ => ∃ (o dx ka ca xa : Addr) (kx cx : List V) (B : Shp) (ck : List Str), vs = [.ref o, .ref ka, .ref ca, .ref xa] ∧ H o = some (.ins C dx []) ∧
  H ka = some (.lst kx) ∧ TupsAt H kx (B.ks.map kindV) ∧ H ca = some (.lst cx) ∧ TupsAt H cx (B.cs.map colV) ∧ H xa = some (.lst (ck.map V.str)) ∧ B.Ok ∧ ck.length ≤ 1000 ∧ (∀ z ∈ ck, z ∈ menu B) ∧
  ∀ H' : Hp, BookAt C H' o B ((menu B).filter fun z => decide (z ∈ ck)) → But o H H' → Q .non H'
theorem ok_init {C : Addr} {f : Addr} {fd : FuncData} (F : FunE K "__init__" "Book.__init__" s_Book_init f fd) (T : BkT K C) (O__read_kinds : Own P w K mg base CX0 3 "_read_kinds" ["kinds"] (spReadK K)) (O__read_columns : Own P w K mg base CX0 3 "_read_columns" ["columns", "kinds"] (spReadC K))
    (O__menu_of : Own P w K mg base CX0 1 "_menu_of" ["kinds", "columns"] spMenu) (O__read_checks : Own P w K mg base CX0 2 "_read_checks" ["checks", "menu"] (spReadX K)) : FnOk P w K mg base CX0 4 f fd ["self", "kinds", "columns", "checks"] (spInit K C) := by
  refine F.ok sc_Book_init (fun vs H Q E h => ?_) (fun cdv A outer s H vs Q E hr h => ?_)
  · obtain ⟨o, dx, ka, ca, xa, kx, cx, B, ck, rfl, _⟩ := h
    rfl
  · obtain ⟨o, dx, ka, ca, xa, kx, cx, B, ck, rfl, ho, hka, hkt, hca, hct, hxa, hB, lck, hsub, q⟩ := h
    have hu := hu_of hr
    refine ⟨_, (pss_cons (ps_fld (pv 0) (own_call O__read_kinds hr (by first | decide | omega) (pa_cons (pv 1) pa_nil)) rfl)
      (pss_cons (ps_fld (pv 0) (own_call O__read_columns hr (by first | decide | omega) (pa_cons (pv 2) (pa_cons (pe_fld (pv 0) rfl) pa_nil))) rfl)
      (pss_cons (ps_fld (pv 0) (own_call O__menu_of hr (by first | decide | omega) (pa_cons (pe_fld (pv 0) rfl) (pa_cons (pe_fld (pv 0) rfl) pa_nil))) rfl)
      (pss_one (ps_fld (pv 0) (own_call O__read_checks hr (by first | decide | omega) (pa_cons (pv 3) (pa_cons (pe_fld (pv 0) rfl) pa_nil))) rfl))))), ?_⟩
    walk_at "ls"
    refine ⟨ka, kx, B, rfl, .inl (.inl hka), hkt, hB, fun H1 k ys h1k h1t s1 => ?_⟩
    have h1o := s1 _ _ ho
    refine ⟨_, rfl, o, C, dx, [], rfl, h1o, T.cl, T.nk, (by show 0 < 1000; decide), ?_⟩
    refine at_heap (φ := fun H2 => H2 o = some (.ins C dx (putF "_kinds" (.ref k) [])) ∧ But o H H2 ∧ H2 k = some (.tup ys) ∧ TupsAt H2 ys (B.ks.map kindV))
      ⟨upd_same, (But.same s1).trans .set, But.set (o := o) _ _ (ne_of h1k h1o fun z => nomatch z) h1k, h1t.keep ((But.set (o := o)).tk h1o)⟩ ?_
    rintro H2 ⟨h2o, bt2, h2k, h2t⟩
    walk_at "ls"
    have l1 : (putF "_kinds" (.ref k) []).lookup ("_kinds" : Str) = some (V.ref k) := by rw [lookup_putF, if_pos rfl]
    refine ⟨o, C, dx, _, _, rfl, h2o, T.cl, T.nk, l1, ?_⟩
    have nca : ca ≠ o := ne_of hca ho fun z => nomatch z
    have nxa : xa ≠ o := ne_of hxa ho fun z => nomatch z
    refine ⟨ca, k, cx, ys, B, rfl, .inl (.inl (bt2 _ _ nca hca)), hct.keep (bt2.tk ho), h2k, h2t, hB, fun H3 c zs h3c h3t s3 => ?_⟩
    have h3o := s3 _ _ h2o
    refine ⟨_, rfl, o, C, dx, _, rfl, h3o, T.cl, T.nc, (by show 1 < 1000; decide), ?_⟩
    have set3 : But o H3 (upd H3 o (.ins C dx (putF "_columns" (.ref c) (putF "_kinds" (.ref k) [])))) := .set
    refine at_heap (φ := fun H4 => H4 o = some (.ins C dx (putF "_columns" (.ref c) (putF "_kinds" (.ref k) []))) ∧ But o H H4 ∧ H4 k = some (.tup ys) ∧ TupsAt H4 ys (B.ks.map kindV) ∧ H4 c = some (.tup zs) ∧ TupsAt H4 zs (B.cs.map colV))
      ⟨upd_same, (bt2.trans (.same s3)).trans set3, set3 _ _ (ne_of (s3 _ _ h2k) h3o fun z => nomatch z) (s3 _ _ h2k), (h2t.keep (.same s3)).keep (set3.tk h3o), set3 _ _ (ne_of h3c h3o fun z => nomatch z) h3c, h3t.keep (set3.tk h3o)⟩ ?_
    clear h1k h1t s1 h1o h2k h2t h3c h3t s3 h3o set3 h2o bt2 l1
    rintro H4 ⟨h4o, bt4, h4k, h4kt, h4c, h4ct⟩
    have l1 : (putF "_columns" (.ref c) (putF "_kinds" (.ref k) [])).lookup ("_kinds" : Str) = some (V.ref k) := by rw [lookup_putF, if_neg b12, lookup_putF, if_pos rfl]
    have l2 : (putF "_columns" (.ref c) (putF "_kinds" (.ref k) [])).lookup ("_columns" : Str) = some (V.ref c) := by rw [lookup_putF, if_pos rfl]
    walk_at "ls"
    refine ⟨o, C, dx, _, _, rfl, h4o, T.cl, T.nk, l1, ?_⟩
    walk_at "ls"
    refine ⟨o, C, dx, _, _, rfl, h4o, T.cl, T.nc, l2, ?_⟩
    refine ⟨k, c, ys, zs, B, rfl, h4k, h4kt, h4c, h4ct, hB, fun H5 m h5m s5 => ?_⟩
    have h5o := s5 _ _ h4o
    refine ⟨_, rfl, o, C, dx, _, rfl, h5o, T.cl, T.nm, (by show 2 < 1000; decide), ?_⟩
    have set5 : But o H5 (upd H5 o (.ins C dx (putF "_menu" (.ref m) (putF "_columns" (.ref c) (putF "_kinds" (.ref k) []))))) := .set
    refine at_heap (φ := fun H6 => H6 o = some (.ins C dx (putF "_menu" (.ref m) (putF "_columns" (.ref c) (putF "_kinds" (.ref k) [])))) ∧ But o H H6 ∧ H6 k = some (.tup ys) ∧ TupsAt H6 ys (B.ks.map kindV) ∧ H6 c = some (.tup zs) ∧ TupsAt H6 zs (B.cs.map colV) ∧ H6 m = some (.tup ((menu B).map V.str)))
      ⟨upd_same, (bt4.trans (.same s5)).trans set5, set5 _ _ (ne_of (s5 _ _ h4k) h5o fun z => nomatch z) (s5 _ _ h4k), (h4kt.keep (.same s5)).keep (set5.tk h5o), set5 _ _ (ne_of (s5 _ _ h4c) h5o fun z => nomatch z) (s5 _ _ h4c), (h4ct.keep (.same s5)).keep (set5.tk h5o), set5 _ _ (ne_of h5m h5o fun z => nomatch z) h5m⟩ ?_
    clear h4o bt4 h4k h4kt h4c h4ct l1 l2 h5m s5 h5o set5
    rintro H6 ⟨h6o, bt6, h6k, h6kt, h6c, h6ct, h6m⟩
    have l3 : (putF "_menu" (.ref m) (putF "_columns" (.ref c) (putF "_kinds" (.ref k) []))).lookup ("_menu" : Str) = some (V.ref m) := by rw [lookup_putF, if_pos rfl]
    walk_at "ls"
    refine ⟨o, C, dx, _, _, rfl, h6o, T.cl, T.nm, l3, ?_⟩
    have lm : (menu B).length ≤ 1000 := by have := menu_len B; have := hB.nc; have := hB.nk3; omega
    refine ⟨xa, m, ck, menu B, rfl, .inl (.inl (bt6 _ _ nxa hxa)), h6m, lck, lm, hsub, fun H7 x h7x s7 => ?_⟩
    have h7o := s7 _ _ h6o
    refine ⟨_, rfl, o, C, dx, _, rfl, h7o, T.cl, T.nx, (by show 3 < 1000; decide), ?_⟩
    have set7 : But o H7 (upd H7 o (.ins C dx (bookF k c m x))) := .set
    exact q _ ⟨dx, k, c, m, x, ys, zs, upd_same, set7 _ _ (ne_of (s7 _ _ h6k) h7o fun z => nomatch z) (s7 _ _ h6k), (h6kt.keep (.same s7)).keep (set7.tk h7o), set7 _ _ (ne_of (s7 _ _ h6c) h7o fun z => nomatch z) (s7 _ _ h6c), (h6ct.keep (.same s7)).keep (set7.tk h7o),
      set7 _ _ (ne_of (s7 _ _ h6m) h7o fun z => nomatch z) (s7 _ _ h6m), set7 _ _ (ne_of h7x h7o fun z => nomatch z) h7x⟩ ((bt6.trans (.same s7)).trans set7)
/-! ### Book.markable -/
abbrev s_Book_markable : Stmt := inClass (topS 20) 6
theorem sc_Book_markable : FnScope ["self", "name", "found", "_", "home", "goal", "rule", "is_open"] ["self"] (defScope s_Book_markable) := ⟨rfl, rfl, rfl, by decide +kernel, rfl, by decide +kernel, by decide +kernel⟩
abbrev N_Book_markable : List Str := ["self", "name", "found", "_", "home", "goal", "rule", "is_open"]
end
end Ls
namespace Ls
open PySem PySem.Spec PyProof.Rows L2
/-! ### short steps -/
local macro_rules | `(tactic| walk_at "ls_ne") => `(tactic| first | assumption | exact Ne.symm (by assumption) | exact ne_of_none (by assumption) (by assumption) | exact Ne.symm (ne_of_none (by assumption) (by assumption)))
local macro_rules | `(tactic| walk_at "ls_hp") => `(tactic| first
  | with_reducible assumption
  | exact upd_same
  | exact Eq.trans (upd_ne (by walk_at "ls_ne")) (by walk_at "ls_hp"))
local macro_rules | `(tactic| walk_at "ls_st") => `(tactic| first
  | with_reducible assumption
  | exact Stm.upd (by walk_at "ls_st") (by first | walk_at "ls_ne" | exact (Stm.noneS (by assumption) (by assumption)).1) (by first | walk_at "ls_ne" | exact (Stm.noneS (by assumption) (by assumption)).2))
local macro_rules | `(tactic| walk_at "ls1") => `(tactic| first
  | refine ⟨_, rfl, ?_⟩
  | refine ⟨_, _, rfl, rfl, ?_⟩
  | refine ⟨_, _, _, _, rfl, rfl, .inl (.inl (by walk_at "ls_hp")), rfl, ?_⟩
  | refine ⟨_, _, _, _, rfl, rfl, (by walk_at "ls_hp"), rfl, ?_⟩
  | refine ⟨rfl, _, rfl, ?_⟩
  | refine ⟨.inl ⟨rfl, _, .inl (.inl (by walk_at "ls_hp"))⟩, ?_⟩)
local macro_rules | `(tactic| walk_at "ls") => `(tactic| repeat (walk_at "ls1"))

/-! ### what can be marked: the mathematics -/
def openB (B : Shp) (z : Str) : Bool := B.ks.any fun k => decide (k.1 = z) && k.2
def stepF (F : Str → Bool) (c : Str × Str × Str × Bool) : Str → Bool := fun z => F z || (c.2.2.2 && F c.2.2.1 && decide (z = c.2.1))
def roundF (B : Shp) (F : Str → Bool) : Str → Bool := B.cs.foldl stepF F
def markF (B : Shp) : Nat → Str → Bool
  | 0 => openB B
  | n + 1 => roundF B (markF B n)
def comesB (B : Shp) : Nat → Str → Bool
  | 0, z => openB B z
  | n + 1, z => openB B z || B.cs.any fun c => (decide (c.2.1 = z) && c.2.2.2) && comesB B n c.2.2.1
theorem comes_mono (B : Shp) : ∀ (n : Nat) (z : Str), comesB B n z = true → comesB B (n + 1) z = true
  | 0, z, h => by
    show (openB B z || _) = true
    rw [show openB B z = true from h]
    rfl
  | n + 1, z, h => by
    have h' : (openB B z || B.cs.any fun c => (decide (c.2.1 = z) && c.2.2.2) && comesB B n c.2.2.1) = true := h
    show (openB B z || B.cs.any fun c => (decide (c.2.1 = z) && c.2.2.2) && comesB B (n + 1) c.2.2.1) = true
    rw [Bool.or_eq_true] at h' ⊢
    refine h'.imp id fun h2 => ?_
    rw [List.any_eq_true] at h2 ⊢
    obtain ⟨c, hc, h3⟩ := h2
    rw [Bool.and_eq_true] at h3
    exact ⟨c, hc, by rw [Bool.and_eq_true]; exact ⟨h3.1, comes_mono B n _ h3.2⟩⟩
theorem comes_le (B : Shp) {n m : Nat} (h : n ≤ m) {z : Str} (e : comesB B n z = true) : comesB B m z = true := by
  induction h with
  | refl => exact e
  | step _ ih => exact comes_mono B _ _ ih
theorem comes_open (B : Shp) {z : Str} (h : openB B z = true) (n : Nat) : comesB B n z = true := comes_le B (Nat.zero_le n) h
/-- equal at the kinds at one step: equal ever after -/
theorem comes_next {B : Shp} (hB : B.Ok) {n m : Nat} (h : ∀ z ∈ B.ks.map (·.1), comesB B n z = comesB B m z) (z : Str) : comesB B (n + 1) z = comesB B (m + 1) z := by
  show (openB B z || B.cs.any fun c => (decide (c.2.1 = z) && c.2.2.2) && comesB B n c.2.2.1) = (openB B z || B.cs.any fun c => (decide (c.2.1 = z) && c.2.2.2) && comesB B m c.2.2.1)
  congr 1
  rw [Bool.eq_iff_iff, List.any_eq_true, List.any_eq_true]
  constructor
  · rintro ⟨c, hc, e⟩
    exact ⟨c, hc, by rw [← h _ (hB.goal c hc)]; exact e⟩
  · rintro ⟨c, hc, e⟩
    exact ⟨c, hc, by rw [h _ (hB.goal c hc)]; exact e⟩
def cnt (B : Shp) (n : Nat) : Nat := (B.ks.filter fun k => comesB B n k.1).length
theorem cnt_le (B : Shp) (n : Nat) : cnt B n ≤ B.ks.length := List.length_filter_le _ _
theorem filt_eq {α : Type} {p q : α → Bool} (h : ∀ x, p x = true → q x = true) : ∀ l : List α, (l.filter p).length = (l.filter q).length → ∀ x ∈ l, p x = q x
  | [], _, x, hx => nomatch hx
  | a :: l, e, x, hx => by
    have mono : ∀ l : List α, (l.filter p).length ≤ (l.filter q).length := fun l => by
      induction l with
      | nil => exact Nat.le_refl _
      | cons b r ih =>
        rw [List.filter_cons, List.filter_cons]
        cases hp : p b with
        | true => rw [h b hp]; simpa using ih
        | false =>
          cases hq : q b with
          | true => simp; omega
          | false => simpa using ih
    rw [List.filter_cons, List.filter_cons] at e
    cases hp : p a with
    | true =>
      have hq := h a hp
      rw [hp, hq] at e
      have e' : (l.filter p).length = (l.filter q).length := by simpa using e
      rcases List.mem_cons.mp hx with rfl | hx
      · rw [hp, hq]
      · exact filt_eq h l e' x hx
    | false =>
      cases hq : q a with
      | true =>
        rw [hp, hq] at e
        have e' : (l.filter p).length = (l.filter q).length + 1 := by simpa using e
        have := mono l
        omega
      | false =>
        rw [hp, hq] at e
        have e' : (l.filter p).length = (l.filter q).length := by simpa using e
        rcases List.mem_cons.mp hx with rfl | hx
        · rw [hp, hq]
        · exact filt_eq h l e' x hx
theorem cnt_eq {B : Shp} {n : Nat} (h : cnt B n = cnt B (n + 1)) : ∀ z ∈ B.ks.map (·.1), comesB B n z = comesB B (n + 1) z := by
  intro z hz
  obtain ⟨k, hk, rfl⟩ := List.mem_map.mp hz
  exact filt_eq (p := fun k : Str × Bool => comesB B n k.1) (q := fun k : Str × Bool => comesB B (n + 1) k.1) (fun x hx => comes_mono B n _ hx) B.ks h k hk
theorem cnt_mono (B : Shp) (n : Nat) : cnt B n ≤ cnt B (n + 1) := by
  unfold cnt
  generalize B.ks = l
  induction l with
  | nil => exact Nat.le_refl _
  | cons b r ih =>
    rw [List.filter_cons, List.filter_cons]
    cases hp : comesB B n b.1 with
    | true => rw [comes_mono B n _ hp]; simpa using ih
    | false =>
      cases hq : comesB B (n + 1) b.1 with
      | true => simp; omega
      | false => simpa using ih
theorem stop_at (B : Shp) : ∃ m, m ≤ B.ks.length ∧ cnt B m = cnt B (m + 1) := by
  refine Classical.byContradiction fun hn => ?_
  have h : ∀ m, m ≤ B.ks.length + 1 → m ≤ cnt B m := by
    intro m
    induction m with
    | zero => intro _; exact Nat.zero_le _
    | succ m ih =>
      intro hm
      have h1 := ih (by omega)
      have h2 := cnt_mono B m
      have h3 : cnt B m ≠ cnt B (m + 1) := fun e => hn ⟨m, by omega, e⟩
      omega
  have h1 := h (B.ks.length + 1) (Nat.le_refl _)
  have h2 := cnt_le B (B.ks.length + 1)
  omega
theorem comes_stay {B : Shp} (hB : B.Ok) {m : Nat} (h : ∀ z ∈ B.ks.map (·.1), comesB B m z = comesB B (m + 1) z) : ∀ (d : Nat), ∀ z ∈ B.ks.map (·.1), comesB B (m + d) z = comesB B m z
  | 0, _, _ => rfl
  | d + 1, z, hz => by
    have ih := comes_stay hB h d
    have e := comes_next hB ih z
    rw [show m + (d + 1) = m + d + 1 by omega, e]
    exact (h z hz).symm
/-- behind as many steps as there are kinds nothing more comes -/
theorem comes_all {B : Shp} (hB : B.Ok) {n m : Nat} (hn : B.ks.length ≤ n) (hm : B.ks.length ≤ m) {z : Str} (hz : z ∈ B.ks.map (·.1)) : comesB B n z = comesB B m z := by
  obtain ⟨k, hk, e⟩ := stop_at B
  have h := comes_stay hB (cnt_eq e)
  have h1 := h (n - k) z hz
  have h2 := h (m - k) z hz
  rw [show k + (n - k) = n by omega] at h1
  rw [show k + (m - k) = m by omega] at h2
  rw [h1, h2]
theorem fold_keep (F : Str → Bool) {z : Str} : ∀ (l : List (Str × Str × Str × Bool)) (G : Str → Bool), G z = true → l.foldl stepF G z = true
  | [], _, h => h
  | c :: l, G, h => fold_keep F l (stepF G c) (by unfold stepF; rw [h]; rfl)
theorem fold_gets {F : Str → Bool} {c : Str × Str × Str × Bool} (hf : c.2.2.2 = true) (hg : F c.2.2.1 = true) : ∀ (l : List (Str × Str × Str × Bool)) (G : Str → Bool), (∀ z, F z = true → G z = true) → c ∈ l → l.foldl stepF G c.2.1 = true
  | [], _, _, h => nomatch h
  | d :: l, G, hG, h => by
    rcases List.mem_cons.mp h with rfl | h
    · refine fold_keep F l _ ?_
      unfold stepF
      rw [hf, hG _ hg]
      simp
    · exact fold_gets hf hg l (stepF G d) (fun z hz => by unfold stepF; rw [hG z hz]; rfl) h
/-- what comes within n steps is marked behind n rounds -/
theorem mark_ge (B : Shp) : ∀ (n : Nat) (z : Str), comesB B n z = true → markF B n z = true
  | 0, z, h => h
  | n + 1, z, h => by
    have h' : (openB B z || B.cs.any fun c => (decide (c.2.1 = z) && c.2.2.2) && comesB B n c.2.2.1) = true := h
    rw [Bool.or_eq_true] at h'
    show B.cs.foldl stepF (markF B n) z = true
    rcases h' with h1 | h1
    · exact fold_keep (markF B n) _ _ (mark_ge B n z (comes_open B h1 n))
    · obtain ⟨c, hc, e⟩ := List.any_eq_true.mp h1
      rw [Bool.and_eq_true, Bool.and_eq_true, decide_eq_true_eq] at e
      rw [← e.1.1]
      exact fold_gets (F := markF B n) e.1.2 (mark_ge B n _ e.2) _ _ (fun _ h => h) hc
/-- what is marked comes within some steps -/
theorem fold_le {B : Shp} : ∀ (l : List (Str × Str × Str × Bool)) (G : Str → Bool), (∀ c ∈ l, c ∈ B.cs) → (∀ z, G z = true → ∃ m, comesB B m z = true) → ∀ z, l.foldl stepF G z = true → ∃ m, comesB B m z = true
  | [], _, _, hG, z, h => hG z h
  | c :: l, G, hl, hG, z, h => fold_le l (stepF G c) (fun d hd => hl d (List.mem_cons_of_mem _ hd)) (fun y hy => by
      unfold stepF at hy
      rw [Bool.or_eq_true, Bool.and_eq_true, Bool.and_eq_true, decide_eq_true_eq] at hy
      rcases hy with hy | ⟨⟨h1, h2⟩, rfl⟩
      · exact hG y hy
      · obtain ⟨m, hm⟩ := hG _ h2
        refine ⟨m + 1, ?_⟩
        show (openB B c.2.1 || B.cs.any fun d => (decide (d.2.1 = c.2.1) && d.2.2.2) && comesB B m d.2.2.1) = true
        rw [Bool.or_eq_true]
        refine .inr (List.any_eq_true.mpr ⟨c, hl c (List.mem_cons_self ..), ?_⟩)
        rw [h1, hm]
        simp) z h
theorem mark_le (B : Shp) : ∀ (n : Nat) (z : Str), markF B n z = true → ∃ m, comesB B m z = true
  | 0, z, h => ⟨0, h⟩
  | n + 1, z, h => fold_le B.cs (markF B n) (fun _ h => h) (mark_le B n) z h
theorem mark_is {B : Shp} (hB : B.Ok) {z : Str} (hz : z ∈ B.ks.map (·.1)) : markF B B.ks.length z = comesB B 3 z := by
  rw [Bool.eq_iff_iff]
  constructor
  · intro h
    obtain ⟨m, hm⟩ := mark_le B _ z h
    have h1 := comes_le B (Nat.le_max_left m 3) hm
    rw [← comes_all hB (Nat.le_trans hB.nk3 (Nat.le_max_right m 3)) hB.nk3 hz]
    exact h1
  · intro h
    rw [comes_all hB hB.nk3 (Nat.le_refl _) hz] at h
    exact mark_ge B _ z h
/-! ### Book.markable -/
def hasK (kvs : List (Key × V)) (z : Str) : Bool := (valV kvs (Sum.inr z)).isSome
theorem hasK_put (kvs : List (Key × V)) (y : Str) (v : V) (z : Str) : hasK (putK kvs (Sum.inr y) v) z = (decide (z = y) || hasK kvs z) := by
  unfold hasK
  rw [valV_put]
  by_cases h : z = y
  · subst h
    rw [if_pos rfl]
    simp
  · rw [if_neg (fun e => h (Sum.inr.inj e))]
    simp [h]
def keepK (kvs : List (Key × V)) (H : Hp) (v : V) : Option V := match fstOf H v with
  | some (.str z) => if hasK kvs z = true then some (.str z) else none
  | _ => none
theorem keepK_all {H : Hp} (kvs : List (Key × V)) : ∀ {xs : List V} {l : List (Str × Bool)}, TupsAt H xs (l.map kindV) → xs.filterMap (keepK kvs H) = ((l.filter fun k => hasK kvs k.1).map (·.1)).map V.str
  | [], [], _ => rfl
  | x :: xs, a :: l, h => by
    cases h with
    | cons h1 h2 =>
      rw [List.filterMap_cons, List.filter_cons, keepK_all kvs h2]
      unfold keepK
      rw [fst_tup h1]
      by_cases e : hasK kvs a.1 = true
      · simp [e]
      · simp [e]
  | [], a :: l, h => by cases h
  | x :: xs, [], h => by cases h
def openTo (B : Shp) (i : Nat) (z : Str) : Bool := (B.ks.take i).any fun k => decide (k.1 = z) && k.2
theorem openTo_snoc {B : Shp} {i : Nat} {k : Str × Bool} (h : B.ks[i]? = some k) (z : Str) : openTo B (i + 1) z = (openTo B i z || (decide (k.1 = z) && k.2)) := by
  unfold openTo
  rw [List.take_add_one, h, List.any_append]
  simp
def roundTo (B : Shp) (F : Str → Bool) (i : Nat) : Str → Bool := (B.cs.take i).foldl stepF F
theorem roundTo_snoc {B : Shp} {F : Str → Bool} {i : Nat} {c : Str × Str × Str × Bool} (h : B.cs[i]? = some c) : roundTo B F (i + 1) = stepF (roundTo B F i) c := by
  unfold roundTo
  rw [List.take_add_one, h, List.foldl_append]
  rfl
theorem fall_eq (b : Bool) : decide (V.str (ruleS b) = V.str "fall") = b := by cases b <;> decide +kernel
section
variable {P : Program} {w : World} {K : PySem.W.Frag} {mg : Str → Option Value} {base : Heap}
def markList (B : Shp) : List Str := (B.ks.filter fun k => markF B B.ks.length k.1).map (·.1)
def spMark (C : Addr) : Sp := fun vs H Q _ => ∃ (o : Addr) (B : Shp) (ck : List Str), vs = [.ref o] ∧ BookAt C H o B ck ∧ B.Ok ∧
  ∀ (H' : Hp) (p : Addr), H p = none → H' p = some (.lst ((markList B).map V.str)) → Same H H' → Q (.ref p) H'
theorem ok_mark {C : Addr} {f : Addr} {fd : FuncData} (F : Fun K "markable" "Book.markable" s_Book_markable f fd) (T : BkT K C) : FnOk P w K mg base CX0 1 f fd ["self"] (spMark C) := by
  refine F.ok sc_Book_markable (fun vs H Q E h => ?_) (fun cdv A outer s H vs Q E hr h => ?_)
  · obtain ⟨o, B, ck, rfl, _⟩ := h
    rfl
  · obtain ⟨o, B, ck, rfl, hbk, hB, q⟩ := h
    obtain ⟨dx, k, c, m, x, kx, cx, ho, hk, hkt, hc, hct, hm, hx⟩ := id hbk
    have hu := hu_of hr
    refine ⟨_, (pss_cons (ps_set (i := 2) sc_Book_markable.nd rfl (Or.inr rfl) (pe_dc (own := [("name", 1), ("is_open", 7)]) (g := gTup K 2 (gCons (gName 1) (gCons (gName 7) gNil))) (by rfl) sc_Book_markable.nd (pi_tup (pe_fld (pv 0) rfl)) (blkOk_by (own := [("name", 1), ("is_open", 7)]) (N := N_Book_markable) (sc := defScope s_Book_markable) (by decide +kernel)) (fun _ _ _ _ _ => (pg_tup rfl (pgs_cons (pg_name (i := 1) sc_Book_markable.nd rfl (Or.inl rfl) (Or.inr rfl)) (pgs_cons (pg_name (i := 7) sc_Book_markable.nd rfl (Or.inl rfl) (Or.inr rfl)) pgs_nil)))) (fun _ _ _ _ _ => (pts_one (pt_val (pv 7)))) (fun _ _ _ _ _ => (pv 1)) (fun _ _ _ _ _ => pe_bl)))
      (pss_cons (ps_for PassesOwn.never rfl (pi_tup (pe_fld (pv 0) rfl)) (pg_name (i := 3) sc_Book_markable.nd rfl (Or.inl rfl)) (pss_one (ps_for PassesOwn.never rfl (pi_tup (pe_fld (pv 0) rfl)) (pg_tup rfl (pgs_cons (pg_name (i := 1) sc_Book_markable.nd rfl (Or.inl rfl)) (pgs_cons (pg_name (i := 4) sc_Book_markable.nd rfl (Or.inl rfl)) (pgs_cons (pg_name (i := 5) sc_Book_markable.nd rfl (Or.inl rfl)) (pgs_cons (pg_name (i := 6) sc_Book_markable.nd rfl (Or.inl rfl)) pgs_nil))))) (pss_one (ps_if (PW.pt (pw_and (pt_cmpR op_eq (pv 6) pe_str (nomark _)) (pw_and1 (pt_cmp (pc_din hu (pv 5) (pv 2)))))) (pss_one (ps_dput hu (pv 2) (pv 4) pe_bl rfl)) pss_nil)))))
      (pss_one (ps_ret (pe_lc (own := [("name", 1), ("is_open", 7)]) (g := gTup K 2 (gCons (gName 1) (gCons (gName 7) gNil))) (by rfl) sc_Book_markable.nd (pi_tup (pe_fld (pv 0) rfl)) (blkOk_by (own := [("name", 1), ("is_open", 7)]) (N := N_Book_markable) (sc := defScope s_Book_markable) (by decide +kernel)) (fun _ _ _ _ _ => (pg_tup rfl (pgs_cons (pg_name (i := 1) sc_Book_markable.nd rfl (Or.inl rfl) (Or.inr rfl)) (pgs_cons (pg_name (i := 7) sc_Book_markable.nd rfl (Or.inl rfl) (Or.inr rfl)) pgs_nil)))) (fun _ _ _ _ _ => (pts_one (pt_cmp (pc_din hu (pv 1) (pv 2))))) (fun _ _ _ _ _ => (pv 1))))))), ?_⟩
    walk_at "ls"
    refine ⟨o, C, dx, _, _, rfl, ho, T.cl, T.nk, bookF_k, ?_⟩
    refine ⟨k, rfl, ⟨_, .inl (.inl hk)⟩, fun D hD => ?_⟩
    have lk : kx.length = B.ks.length := by rw [hkt.len, List.length_map]
    have lc : cx.length = B.cs.length := by rw [hct.len, List.length_map]
    have nk3 := hB.nk3
    have nc8 := hB.nc
    refine dc_tup (xs := kx) (fun i H1 => ∃ kvs : List (Key × V), H1 = upd H D (.dK kvs) ∧ kvs.length ≤ i ∧ ∀ z, hasK kvs z = openTo B i z) ⟨[], rfl, Nat.le_refl _, fun _ => rfl⟩ (fun i H1 _ ⟨kvs, e, _⟩ => .inl (.inl (by rw [e]; exact same_new hD _ _ hk))) ?_ ?_
    · rintro i y H1 hy ⟨kvs, rfl, hl, hF⟩
      obtain ⟨ys, hys, t, rfl, ht⟩ := TupsAt.get (hkt.keep (.new (o := .dK kvs) hD)) hy
      obtain ⟨kd, hkd, rfl⟩ := map_get hys
      have hi : i < B.ks.length := (List.getElem?_eq_some_iff.mp hkd).1
      refine ⟨t, _, rfl, .inl (.inl ht), rfl, _, _, rfl, _, _, rfl, rfl, rfl, ?_⟩
      walk_at "ls"
      refine ite2 (fun e => ?_) (fun e => ?_)
      · walk_at "ls"
        refine ⟨kvs, .inr kd.1, rfl, upd_same, Nat.lt_of_le_of_lt (show kvs.length ≤ 1000 by omega) (show 1000 < sizeLine by decide), putK kvs (.inr kd.1) (.bl true), by rw [upd_upd], ?_, fun z => ?_⟩
        · have := length_putK kvs (.inr kd.1) (.bl true)
          omega
        · rw [hasK_put, hF, openTo_snoc hkd, e]
          by_cases hz : z = kd.1
          · subst hz; simp
          · have : ¬ kd.1 = z := fun h => hz h.symm
            simp [hz, this]
      · refine ⟨kvs, rfl, by omega, fun z => ?_⟩
        rw [hF, openTo_snoc hkd]
        have : kd.2 = false := by simpa using e
        rw [this]
        simp
    · rintro H1 ⟨kvs, rfl, hl, hF⟩
      rw [lk] at hl hF
      have s0 : ∀ kvs, Same H (upd H D (.dK kvs)) := fun kvs => same_new hD
      walk_at "ls"
      refine ⟨o, C, dx, _, _, rfl, s0 _ _ _ ho, T.cl, T.nk, bookF_k, k, rfl, ⟨_, .inl (.inl (s0 _ _ _ hk))⟩, ?_⟩
      refine for_it (walk_tup (xs := kx)) (fun i σ H1 => ∃ (kvs : List (Key × V)) (v1 v3 v4 v5 v6 : Option V), σ = [some (.ref o), v1, some (.ref D), v3, v4, v5, v6, none] ∧ H1 = upd H D (.dK kvs) ∧ kvs.length ≤ 3 + 8 * i ∧ ∀ z, hasK kvs z = markF B i z)
        ⟨kvs, none, none, none, none, none, rfl, rfl, by omega, fun z => by rw [hF]; unfold openTo; rw [List.take_length]; rfl⟩ (fun i σ H1 _ ⟨_, _, _, _, _, _, _, e, _⟩ => .inl (.inl (by rw [e]; exact s0 _ _ _ hk))) ?_ ?_
      · clear hl hF kvs
        rintro i y σ Hz H1 hi ⟨kvs, v1, v3, v4, v5, v6, rfl, e1, hl, hF⟩ ⟨rfl, hy⟩
        subst e1
        walk_at "ls"
        refine ⟨o, C, dx, _, _, rfl, s0 _ _ _ ho, T.cl, T.nc, bookF_c, c, rfl, ⟨_, .inl (.inl (s0 _ _ _ hc))⟩, ?_⟩
        refine for_it (walk_tup (xs := cx)) (fun j σ H1 => ∃ (kvs : List (Key × V)) (v1 v4 v5 v6 : Option V), σ = [some (.ref o), v1, some (.ref D), some y, v4, v5, v6, none] ∧ H1 = upd H D (.dK kvs) ∧ kvs.length ≤ 3 + 8 * i + j ∧ ∀ z, hasK kvs z = roundTo B (markF B i) j z)
          ⟨kvs, v1, v4, v5, v6, rfl, rfl, by omega, fun z => by rw [hF]; rfl⟩ (fun j σ H1 _ ⟨_, _, _, _, _, _, e, _⟩ => .inl (.inl (by rw [e]; exact s0 _ _ _ hc))) ?_ ?_
        · clear hl hF kvs
          rintro j yj σ Hz2 H1 hj ⟨kvs, v1, v4, v5, v6, rfl, e1, hl, hF⟩ ⟨rfl, hyj⟩
          subst e1
          obtain ⟨ys, hys, t, rfl, ht⟩ := TupsAt.get (hct.keep (.new (o := .dK kvs) hD)) hyj
          obtain ⟨cl, hcl, rfl⟩ := map_get hys
          have hjc : j < B.cs.length := (List.getElem?_eq_some_iff.mp hcl).1
          refine ⟨t, _, rfl, .inl (.inl ht), rfl, _, _, rfl, _, _, rfl, _, _, rfl, _, _, rfl, rfl, ?_⟩
          refine and2 cl.2.2.2 (hasK kvs cl.2.2.1) (fun Q' q' => ?_) (fun _ Q' q' => ?_) ?_
          · walk_at "ls"
            rw [← fall_eq cl.2.2.2] at q'
            exact q'
          · walk_at "ls"
            refine ⟨D, _, rfl, DGet.k (k := .inr cl.2.2.1) upd_same, _, rfl, q'⟩
          rw [hF]
          refine ite2 (fun e => ?_) (fun e => ?_)
          · walk_at "ls"
            refine ⟨D, _, rfl, DPut.k (k := .inr cl.2.1) upd_same (Nat.lt_of_le_of_lt (show kvs.length ≤ 1000 by omega) (show 1000 < sizeLine by decide)), ?_⟩
            refine ⟨putK kvs (.inr cl.2.1) (.bl true), _, _, _, _, rfl, by rw [upd_upd], ?_, fun z => ?_⟩
            · have := length_putK kvs (.inr cl.2.1) (.bl true)
              omega
            · rw [hasK_put, hF, roundTo_snoc hcl]
              unfold stepF
              rw [e]
              simp [Bool.or_comm]
          · refine ⟨kvs, _, _, _, _, rfl, rfl, by omega, fun z => ?_⟩
            rw [hF, roundTo_snoc hcl]
            unfold stepF
            have : (cl.2.2.2 && roundTo B (markF B i) j cl.2.2.1) = false := by simpa using e
            rw [this]
            simp
        · rintro σ H1 ⟨kvs, v1, v4, v5, v6, rfl, e1, hl, hF⟩
          rw [lc] at hl hF
          refine ⟨kvs, _, _, _, _, _, rfl, e1, by omega, fun z => ?_⟩
          rw [hF]
          unfold roundTo
          rw [List.take_length]
          rfl
      · clear hl hF kvs
        rintro σ H1 ⟨kvs, v1, v3, v4, v5, v6, rfl, e1, hl, hF⟩
        subst e1
        rw [lk] at hl hF
        walk_at "ls"
        refine ⟨o, C, dx, _, _, rfl, s0 _ _ _ ho, T.cl, T.nk, bookF_k, k, rfl, ⟨_, .inl (.inl (s0 _ _ _ hk))⟩, fun E1 hE1 => ?_⟩
        have s1 := s0 kvs
        have hk1 := s1 _ _ hk
        have nkE : k ≠ E1 := ne_of_none hk1 hE1
        have nDE : D ≠ E1 := ne_of_none upd_same hE1
        have lz : kx.length < sizeLine := Nat.lt_of_le_of_lt (show kx.length ≤ 1000 by omega) (show 1000 < sizeLine by decide)
        refine lc_pure (walk_tup (xs := kx)) kx (keepK kvs H) rfl (fun i H x H' hi hy => hy) lz (fun acc => .inl (.inl (by rw [upd_ne nkE]; exact hk1))) (fun j y hj hyj => ?_) ?_
        · obtain ⟨ys, hys, hto⟩ := TupsAt.get hkt hyj
          obtain ⟨kd, hkd, rfl⟩ := map_get hys
          obtain ⟨t, rfl, ht⟩ := id hto
          have ht1 := s1 _ _ ht
          have ntE : t ≠ E1 := ne_of_none ht1 hE1
          refine ⟨t, _, rfl, .inl (.inl (by rw [upd_ne ntE]; exact ht1)), rfl, _, _, rfl, _, _, rfl, rfl, rfl, ?_⟩
          walk_at "ls"
          refine ⟨D, _, rfl, DGet.k (k := .inr kd.1) (by rw [upd_ne nDE]; exact upd_same), _, rfl, ?_⟩
          have ef : keepK kvs H (.ref t) = if hasK kvs kd.1 = true then some (.str kd.1) else none := by
            unfold keepK
            rw [fst_tup hto]
          show if hasK kvs kd.1 = true then _ else _
          refine ite2 (fun e => ?_) (fun e => ?_)
          · walk_at "ls"
            exact lc_yes hyj hj lz (by rw [ef, if_pos e])
          · exact lc_no hyj (by rw [ef, if_neg e])
        · rw [keepK_all kvs hkt]
          have el : (B.ks.filter fun k => hasK kvs k.1).map (·.1) = markList B := by
            unfold markList
            congr 1
            exact List.filter_congr fun x _ => hF x.1
          rw [el]
          exact q _ E1 (s1.free hE1) upd_same (s1.trans (same_new hE1))
end
end Ls
namespace Ls
open PySem PySem.Spec PyProof.Rows L2
/-! ### short steps -/
local macro_rules | `(tactic| walk_at "ls_ne") => `(tactic| first | assumption | exact Ne.symm (by assumption) | exact ne_of_none (by assumption) (by assumption) | exact Ne.symm (ne_of_none (by assumption) (by assumption)))
local macro_rules | `(tactic| walk_at "ls_hp") => `(tactic| first
  | with_reducible assumption
  | exact upd_same
  | exact Eq.trans (upd_ne (by walk_at "ls_ne")) (by walk_at "ls_hp"))
local macro_rules | `(tactic| walk_at "ls_st") => `(tactic| first
  | with_reducible assumption
  | exact Stm.upd (by walk_at "ls_st") (by first | walk_at "ls_ne" | exact (Stm.noneS (by assumption) (by assumption)).1) (by first | walk_at "ls_ne" | exact (Stm.noneS (by assumption) (by assumption)).2))
local macro_rules | `(tactic| walk_at "ls1") => `(tactic| first
  | refine ⟨_, rfl, ?_⟩
  | refine ⟨_, _, rfl, rfl, ?_⟩
  | refine ⟨_, _, _, _, rfl, rfl, .inl (.inl (by walk_at "ls_hp")), rfl, ?_⟩
  | refine ⟨_, _, _, _, rfl, rfl, (by walk_at "ls_hp"), rfl, ?_⟩
  | refine ⟨rfl, _, rfl, ?_⟩
  | refine ⟨.inl ⟨rfl, _, .inl (.inl (by walk_at "ls_hp"))⟩, ?_⟩)
local macro_rules | `(tactic| walk_at "ls") => `(tactic| repeat (walk_at "ls1"))

/-! ### dict of the kinds -/
def kindKV (k : Str × Bool) : Key × V := (.inr k.1, .bl k.2)
theorem merge_out {z : Str} : ∀ (l : List (Str × Bool)) (acc : List (Key × V)), z ∉ l.map (·.1) → valV (mergeK acc (l.map kindKV)) (.inr z) = valV acc (.inr z)
  | [], _, _ => rfl
  | k :: l, acc, h => by
    show valV (mergeK (putK acc (.inr k.1) (.bl k.2)) (l.map kindKV)) (.inr z) = _
    rw [List.map_cons, List.mem_cons, not_or] at h
    rw [merge_out l _ h.2, valV_put, if_neg fun e => h.1 (Sum.inr.inj e)]
theorem merge_in {z : Str} : ∀ (l : List (Str × Bool)) (acc : List (Key × V)), (l.map (·.1)).Nodup → z ∈ l.map (·.1) → valV (mergeK acc (l.map kindKV)) (.inr z) = some (.bl (l.any fun k => decide (k.1 = z) && k.2))
  | [], _, _, h => nomatch h
  | k :: l, acc, nd, h => by
    show valV (mergeK (putK acc (.inr k.1) (.bl k.2)) (l.map kindKV)) (.inr z) = _
    have nd' := List.nodup_cons.mp (show (k.1 :: l.map (·.1)).Nodup from nd)
    rw [List.any_cons]
    by_cases e : k.1 = z
    · subst e
      rw [merge_out l _ nd'.1, valV_put, if_pos rfl]
      have : (l.any fun j => decide (j.1 = k.1) && j.2) = false := by
        rw [List.any_eq_false]
        intro j hj hh
        rw [Bool.and_eq_true, decide_eq_true_eq] at hh
        exact nd'.1 (List.mem_map.mpr ⟨j, hj, hh.1⟩)
      rw [this]
      simp
    · have hz : z ∈ l.map (·.1) := by
        rcases List.mem_cons.mp (show z ∈ k.1 :: l.map (·.1) from h) with h1 | h1
        · exact absurd h1.symm e
        · exact h1
      rw [merge_in l _ nd'.2 hz]
      simp [e]
theorem TupsAt.pairs {K : PySem.W.Frag} {H : Hp} : ∀ {xs : List V} {l : List (Str × Bool)}, TupsAt H xs (l.map kindV) → ∃ ps : List Addr, xs = ps.map V.ref ∧ Paired (fun (p : Addr) (kv : Key × V) => SqT K H p [kV kv.1, kv.2]) ps (l.map kindKV)
  | [], [], _ => ⟨[], rfl, .nil⟩
  | x :: xs, a :: l, h => by
    cases h with
    | cons h1 h2 =>
      obtain ⟨t, rfl, ht⟩ := h1
      obtain ⟨ps, e, r⟩ := TupsAt.pairs (K := K) h2
      exact ⟨t :: ps, by rw [e]; rfl, .cons (.inl (.inl ht)) r⟩
  | [], a :: l, h => by cases h
  | x :: xs, [], h => by cases h
/-- the goals that a row of this kind may fall with -/
def goalsOf (B : Shp) (z : Str) : List Str := (B.cs.filter fun c => decide (c.2.1 = z) && c.2.2.2).map fun c => c.2.2.1
def tupOf (H : Hp) : V → Option (List V)
  | .ref t => match H t with
    | some (.tup ys) => some ys
    | _ => none
  | _ => none
theorem tup_of {H : Hp} {v : V} {ys : List V} (h : TupOf H v ys) : tupOf H v = some ys := by
  obtain ⟨t, rfl, h⟩ := h
  show (match H t with | some (.tup ys) => some ys | _ => none) = some ys
  rw [h]
def goalK (H : Hp) (z : Str) (v : V) : Option V := match tupOf H v with
  | some [_, .str h, .str g, .str r] => if (decide (V.str h = V.str z) && decide (V.str r = V.str "fall")) = true then some (.str g) else none
  | _ => none
theorem goalK_is {H : Hp} {z : Str} {v : V} {c : Str × Str × Str × Bool} (h : TupOf H v (colV c)) : goalK H z v = if (decide (c.2.1 = z) && c.2.2.2) = true then some (.str c.2.2.1) else none := by
  unfold goalK
  rw [tup_of h]
  show (if (decide (V.str c.2.1 = V.str z) && decide (V.str (ruleS c.2.2.2) = V.str "fall")) = true then some (V.str c.2.2.1) else none) = _
  rw [fall_eq]
  by_cases e : c.2.1 = z
  · simp [e]
  · have : ¬ V.str c.2.1 = V.str z := fun h => e (V.str.inj h)
    simp [e, this]
theorem goalK_all {H : Hp} (z : Str) : ∀ {xs : List V} {l : List (Str × Str × Str × Bool)}, TupsAt H xs (l.map colV) → xs.filterMap (goalK H z) = ((l.filter fun c => decide (c.2.1 = z) && c.2.2.2).map fun c => c.2.2.1).map V.str
  | [], [], _ => rfl
  | x :: xs, a :: l, h => by
    cases h with
    | cons h1 h2 =>
      rw [List.filterMap_cons, List.filter_cons, goalK_all z h2, goalK_is h1]
      by_cases e : (decide (a.2.1 = z) && a.2.2.2) = true
      · rw [if_pos e, if_pos e]
        rfl
      · rw [if_neg e, if_neg e]
  | [], a :: l, h => by cases h
  | x :: xs, [], h => by cases h
theorem comes_any (B : Shp) (n : Nat) (z : Str) : comesB B (n + 1) z = (openB B z || ((goalsOf B z).map (comesB B n)).any id) := by
  show (openB B z || B.cs.any fun c => (decide (c.2.1 = z) && c.2.2.2) && comesB B n c.2.2.1) = _
  congr 1
  unfold goalsOf
  rw [List.map_map, List.any_map, List.any_filter]
  rfl
section
variable {P : Program} {w : World} {K : PySem.W.Frag} {mg : Str → Option Value} {base : Heap}
abbrev s__law_comes : Stmt := topS 36
theorem sc__law_comes : FnScope ["_law_b", "_law_kind", "_law_left", "_law_above", "_law_column", "_law_goal"] ["_law_b", "_law_kind", "_law_left"] (defScope s__law_comes) := ⟨rfl, rfl, rfl, by decide +kernel, rfl, by decide +kernel, by decide +kernel⟩
abbrev N__law_comes : List Str := ["_law_b", "_law_kind", "_law_left", "_law_above", "_law_column", "_law_goal"]
def spComes (N : Nat) : Sp := fun vs H Q _ => ∃ (S L b : Addr) (z : Str) (n : Nat) (B : Shp) (ck : List Str), vs = [.ref b, .str z, .int (n : Int)] ∧ n < N ∧ ShpAt S L H b B ck ∧ B.Ok ∧ z ∈ B.ks.map (·.1) ∧
  ∀ H' : Hp, Same H H' → Q (.bl (comesB B n z)) H'
theorem ok_comes_step {f : Addr} {fd : FuncData} {j N : Nat} (F : Fun K "_law_comes" "_law_comes" s__law_comes f fd) (T : Bt mg) (O__law_comes : Own P w K mg base CX0 j "_law_comes" ["_law_b", "_law_kind", "_law_left"] (spComes N)) : FnOk P w K mg base CX0 (j + 1) f fd ["_law_b", "_law_kind", "_law_left"] (spComes (N + 1)) := by
  refine F.ok sc__law_comes (fun vs H Q E h => ?_) (fun cdv A outer s H vs Q E hr h => ?_)
  · obtain ⟨S, L, b, z, n, B, ck, rfl, _⟩ := h
    rfl
  · obtain ⟨S, L, b, z, n, B, ck, rfl, hn, hs, hB, hz, q⟩ := h
    obtain ⟨ka, ca, ea, kx, cx, hb, hka, hkt, hca, hct, hea, _⟩ := id hs
    have hu := hu_of hr
    refine ⟨_, (pss_cons (ps_if (pt_val (pe_dget hu (pe_callTy (call_dictP rfl) (by rfl) T.m_dict (by decide +kernel) (pa_cons (pe_dget hu (pv 0) pe_str (fun _ _ => rfl)) pa_nil)) (pv 1) (fun _ _ => rfl))) (pss_one (ps_ret pe_bl)) pss_nil)
      (pss_cons (ps_if (pt_cmpR op_eq (pv 2) pe_int (nomark _)) (pss_one (ps_ret pe_bl)) pss_nil)
      (pss_cons (ps_setLc (i := 3) (own := [("_law_column", 4)]) (g := gName 4) (by rfl) sc__law_comes.nd rfl rfl (sw_true rfl rfl rfl (by decide +kernel)) (pi_list (pe_dget hu (pv 0) pe_str (fun _ _ => rfl))) (blkOk_by (own := [("_law_column", 4)]) (N := N__law_comes) (sc := defScope s__law_comes) (by decide +kernel)) (fun _ _ _ _ _ => (pg_name (i := 4) sc__law_comes.nd rfl (Or.inl rfl) (Or.inr rfl))) (fun _ _ _ _ _ => (pts_one (PW.pt (pw_and (pt_cmpR op_eq (pe_ix (ixT K) (pv 4) pe_int (fun _ _ => rfl)) (pv 1) (nomark _)) (pw_and1 (pt_cmpR op_eq (pe_ix (ixT K) (pv 4) pe_int (fun _ _ => rfl)) pe_str (nomark _))))))) (fun _ _ _ _ _ => (pe_ix (ixT K) (pv 4) pe_int (fun _ _ => rfl))))
      (pss_one (ps_ret (pe_callB (cr_any rfl) (by rfl) T.m_any (by decide +kernel) (pa_cons (pe_lc (own := [("_law_goal", 5)]) (g := gName 5) (by rfl) sc__law_comes.nd (pi_list (pv 3)) (blkOk_by (own := [("_law_goal", 5)]) (N := N__law_comes) (sc := defScope s__law_comes) (by decide +kernel)) (fun _ _ _ _ _ => (pg_name (i := 5) sc__law_comes.nd rfl (Or.inl rfl) (Or.inr rfl))) (fun _ _ _ _ _ => pts_nil) (fun _ _ _ _ _ => (own_call O__law_comes hr (by first | decide | omega) (pa_cons (pv 0) (pa_cons (pv 5) (pa_cons (pe_op op_sub (pv 2) pe_int) pa_nil)))))) pa_nil))))))), ?_⟩
    walk_at "ls"
    refine ⟨b, _, rfl, dg_kinds hb, ?_⟩
    obtain ⟨ps, ep, hps⟩ := TupsAt.pairs (K := K) hkt
    refine ⟨ka, ps, _, rfl, (by rw [← ep]; exact .inl (.inl hka)), hps, fun d hd => ?_⟩
    have s0 : Same H (upd H d (.dK (mergeK [] (B.ks.map kindKV)))) := same_new hd
    have hv : valV (mergeK [] (B.ks.map kindKV)) (Sum.inr z) = some (.bl (openB B z)) := merge_in B.ks [] (List.nodup_append.mp hB.nd).1 hz
    walk_at "ls"
    refine ⟨d, _, rfl, dg (k := .inr z) upd_same hv, _, rfl, ?_⟩
    refine ite2 (fun e => ?_) (fun e => ?_)
    · walk_at "ls"
      have h := q _ s0
      rw [comes_open B e] at h
      exact h
    have e0 : openB B z = false := by simpa using e
    walk_at "ls"
    refine ite2 (fun en => ?_) (fun en => ?_)
    · walk_at "ls"
      have h0 : n = 0 := by have := V.int.inj (of_decide_eq_true en); omega
      subst h0
      have h := q _ s0
      rw [show comesB B 0 z = openB B z from rfl, e0] at h
      exact h
    · obtain ⟨m, rfl⟩ : ∃ m, n = m + 1 := ⟨n - 1, by have : ¬ n = 0 := fun h => en (by rw [h]; rfl)
                                                     omega⟩
      have hb1 := s0 _ _ hb
      have hca1 := s0 _ _ hca
      walk_at "ls"
      refine ⟨b, _, rfl, dg_columns hb1, ca, rfl, ⟨_, .inl (.inl hca1)⟩, fun D hD => ?_⟩
      have ncD : ca ≠ D := ne_of_none hca1 hD
      have lcx : cx.length ≤ 8 := by rw [hct.len, List.length_map]; exact hB.nc
      have lz : cx.length < sizeLine := Nat.lt_of_le_of_lt lcx (show 8 < sizeLine by decide)
      refine lc_pure (walk_list (xs := cx)) cx (goalK H z) rfl (fun i H x H' hi hy => hy) lz (fun acc => .inl (.inl (by rw [upd_ne ncD]; exact hca1))) (fun j y hj hyj => ?_) ?_
      · obtain ⟨ys, hys, hto⟩ := TupsAt.get hct hyj
        obtain ⟨c, hc, rfl⟩ := map_get hys
        obtain ⟨t, rfl, ht⟩ := id hto
        have ht1 := s0 _ _ ht
        have ntD : t ≠ D := ne_of_none ht1 hD
        have htx : ∀ acc, (upd (upd H d (.dK (mergeK [] (B.ks.map kindKV)))) D (.lst acc)) t = some (.tup (colV c)) := fun acc => by rw [upd_ne ntD]; exact ht1
        refine ⟨rfl, ?_⟩
        refine and2 (decide (V.str c.2.1 = V.str z)) (decide (V.str (ruleS c.2.2.2) = V.str "fall")) (fun Q' q' => ?_) (fun _ Q' q' => ?_) ?_
        · walk_at "ls"
          exact q'
        · walk_at "ls"
          exact q'
        have ec : (decide (V.str c.2.1 = V.str z) && decide (V.str (ruleS c.2.2.2) = V.str "fall")) = (decide (c.2.1 = z) && c.2.2.2) := by
          rw [fall_eq]
          by_cases e : c.2.1 = z
          · simp [e]
          · have : ¬ V.str c.2.1 = V.str z := fun h => e (V.str.inj h)
            simp [e, this]
        rw [ec]
        refine ite2 (fun e => ?_) (fun e => ?_)
        · walk_at "ls"
          exact lc_yes hyj hj lz (by rw [goalK_is hto, if_pos e])
        · exact lc_no hyj (by rw [goalK_is hto, if_neg e])
      rw [goalK_all z hct]
      refine at_heap (φ := fun H1 => Same H H1 ∧ H1 D = some (.lst ((goalsOf B z).map V.str))) ⟨s0.trans (same_new hD), upd_same⟩ ?_
      rintro H1 ⟨s1, h1D⟩
      walk_at "ls"
      refine ⟨⟨_, .inl (.inl h1D)⟩, fun E1 hE1 => ?_⟩
      have nDE : D ≠ E1 := ne_of_none h1D hE1
      have lg : (goalsOf B z).length ≤ 8 := by
        unfold goalsOf
        rw [List.length_map]
        exact Nat.le_trans (List.length_filter_le _ _) hB.nc
      refine lc_it (walk_list (xs := (goalsOf B z).map V.str)) (fun i H2 => H2 E1 = some (.lst ((((goalsOf B z).take i).map (comesB B m)).map V.bl)) ∧ Same H1 H2) ⟨upd_same, same_new hE1⟩ (fun i H2 _ h => .inl (.inl (h.2 _ _ h1D))) ?_ ?_
      · rintro i y Hz H2 hi ⟨h2, s2⟩ ⟨rfl, hy⟩
        obtain ⟨g, hg, rfl⟩ := map_get hy
        rw [List.length_map] at hi
        have hgm : g ∈ B.ks.map (·.1) := by
          have := List.mem_of_getElem? hg
          unfold goalsOf at this
          obtain ⟨c, hc, rfl⟩ := List.mem_map.mp this
          exact hB.goal c (List.mem_filter.mp hc).1
        refine ⟨rfl, ?_⟩
        walk_at "ls"
        refine ⟨S, L, b, g, m, B, ck, (by show [V.ref b, V.str g, V.int (((m + 1 : Nat) : Int) - 1)] = _; rw [show (((m + 1 : Nat) : Int) - 1) = (m : Int) by omega]), by omega, hs.same (s1.trans s2), hB, hgm, fun H3 s3 => ?_⟩
        have h3 := s3 _ _ h2
        refine ⟨_, h3, ?_, ?_, ?_⟩
        · rw [List.length_map, List.length_map, List.length_take]
          exact small1000 (by omega)
        · rw [upd_same, List.take_add_one, hg, List.map_append, List.map_append]
          rfl
        · exact Same.set (s2.trans s3) hE1
      · rintro H2 ⟨h2, s2⟩
        rw [List.length_map, List.take_length] at h2
        refine ⟨E1, _, rfl, .inl (.inl h2), ?_⟩
        have h := q H2 (s1.trans s2)
        rw [comes_any, e0, Bool.false_or] at h
        exact h
theorem ok_comes {f : Addr} {fd : FuncData} (F : Fun K "_law_comes" "_law_comes" s__law_comes f fd) (T : Bt mg) (g : mg "_law_comes" = some (.ref f)) (b : Binds K fd ["_law_b", "_law_kind", "_law_left"] []) : ∀ N : Nat, FnOk P w K mg base CX0 N f fd ["_law_b", "_law_kind", "_law_left"] (spComes N)
  | 0 => ⟨fun vs H Q E h => by obtain ⟨_, _, _, _, n, _, _, rfl, _⟩ := h; rfl, fun A outer s H args us vs Q E hr he hb hv h => by obtain ⟨_, _, _, _, n, _, _, _, hn, _⟩ := h; exact absurd hn (Nat.not_lt_zero _)⟩
  | N + 1 => ok_comes_step F T ⟨f, fd, ok_comes F T g b N, g, F.kp, b⟩
end
end Ls
namespace Ls
open PySem PySem.Spec PyProof.Rows L2
/-! ### defs that run where no repr is under way -/
/-- the promise of a def, kept wherever no guard of the interpreter's own stands -/
structure FnG (P : Program) (w : World) (K : PySem.W.Frag) (mg : Str → Option Value) (base : Heap) (CX : CXT) (k : Nat) (f : Addr) (fd : FuncData) (ps : List Str) (sp : Sp) : Prop where
  len : ∀ vs H Q E, sp vs H Q E → vs.length = ps.length
  run : ∀ (A : Around) (outer : List Env) (s : Shared) (H : Hp) (args : Args) (us : List Value) (vs : List V) (Q : VK) (E : XK), A.guards = some [] → Room k A → Env0 P w K mg base A outer s H →
    BindsTo s fd args (ps.zip us) → Vals vs us → sp vs H Q E → codeAny (model P w) A (.call (.ref f) args) (CR CX outer P w H s Q E) s
/-- where it stands and how it is bound -/
structure OwnG (P : Program) (w : World) (K : PySem.W.Frag) (mg : Str → Option Value) (base : Heap) (CX : CXT) (k : Nat) (x : Str) (ps : List Str) (sp : Sp) : Prop where
  ex : ∃ (f : Addr) (fd : FuncData), FnG P w K mg base CX k f fd ps sp ∧ mg x = some (.ref f) ∧ PySem.W.keepIn K (.ref f) = true ∧ Binds K fd ps []
section
variable {X : Cx} {k j : Nat} {x : Str} {ps : List Str} {sp : Sp} {p pos : Pos} {e : Expr} {es : List Expr} {t : TA}
theorem own_callG (O : OwnG X.prog X.w X.K X.mg X.base CX0 k x ps sp) (hgd : X.A.guards = some []) (hr : Room j X.A) (hkj : k ≤ j) (ha : PA X (e :: es) t)
    (hg : Gl X x := by rfl) (hdb : (x == ("__debug__" : Str)) = false := by decide) (he : starEach (e :: es) X.env = (false, eval e X.env) :: starEach es X.env := by rfl) (hpl : (backTo pos (starEach es X.env)).any (·.1) = false := by rfl) :
    PE X (.Call (.Name x p) (e :: es) [] pos) (tCall sp [] E0 t) := by
  obtain ⟨f, fd, F, g, kp, b⟩ := O.ex
  refine ⟨fun pins s σ H Q I h => wpAny_Call_Name_kw (ld_glob I hg g (PySem.W.callWith_K (h₀ := X.base) I.ok.mod.kin kp ?_ he hpl) hdb)⟩
  refine thn (ha.run pos pins s σ H _ I h) fun us s1 hh => ?_
  obtain ⟨vs, H1, I1, r, q⟩ := hh
  refine ⟨I1.kIn, wpAny_call ?_⟩
  have q0 : sp vs H1 Q E0 := by simpa using q
  have b1 := b s1 us I1.kIn (by rw [List.append_nil, ← r.length]; exact F.len _ _ _ _ q0)
  rw [List.append_nil] at b1
  refine codeAny_mono (F.run X.A X.stack s1 H1 ⟨us, []⟩ us vs Q E0 hgd (hr.mono hkj) I1.env0 b1 r q0) fun res s2 hq => ?_
  match res, hq with
  | .ok (.ret u), hq => exact I1.after hq
  | .error z, hq => exact False.elim hq
end
section
variable {P : Program} {w : World} {K : PySem.W.Frag} {mg : Str → Option Value} {base : Heap}
/-- a def by its body, where no guard stands -/
theorem fun_okG {x qual : Str} {st : Stmt} {f : Addr} {fd : FuncData} {N ps : List Str} {k : Nat} {sp : Sp} (F : Fun K x qual st f fd) (S : FnScope N ps (defScope st)) (len : ∀ vs H Q E, sp vs H Q E → vs.length = ps.length)
    (body : ∀ (cdv : Value) (A : Around) (outer : List Env) (s : Shared) (H : Hp) (vs : List V) (Q : VK) (E : XK), A.guards = some [] → Room k (A.deeper (envOfC qual (defScope st) s.heap.objs.size f cdv)) → sp vs H Q E →
      ∃ t, PSs (cxOf CX0 P w K mg base N qual (defScope st) f cdv A outer s H E).nox (defBody st) t ∧ t { nx := fun _ H' => Q .non H', rt := Q } (start N vs) H) : FnG P w K mg base CX0 (k + 1) f fd ps sp := by
  obtain ⟨oc, od, kV, doc, pm, an, cdv, ct, osl, rfl, lk, hcd⟩ := F.ex
  refine ⟨len, fun A outer s H args us vs Q E hgd hr e0 hb r hsp => ?_⟩
  have kin : K.In s.heap := e0.mod.kin.keeps fun b o e => (e0.bs b o e).1
  have kinds : ∀ y ∈ ps.zip us, (defScope st).names.lookup y.1 = some .local ∨ ((defScope st).names.lookup y.1 = some .cell ∧ ((cellsFrom (s.heap.objs.size + 1) (defScope st).names []).lookup y.1).isSome = true) := by
    rintro ⟨n, v⟩ hy
    exact (S.par n (List.of_mem_zip hy).1).imp id fun q => ⟨q, PySem.W.cellsFrom_some _ _ _ (.inl q)⟩
  refine codeAny_call_function hr.depth (kin _ _ lk) rfl S.co S.gen rfl (PySem.W.codeRec_of kin hcd) (hb _ _ _ _ (wpAny_newFunctionEnv_cells S.kind kinds fun env he s1 x1 => ?_))
  subst he
  refine ⟨(e0.mod.nolimit.keeps fun b o e => (e0.bs b o e).1).keeps x1.toInCall.keep, codeAny_func ?_⟩
  obtain ⟨t, ht, hq⟩ := body cdv A outer s H vs Q E hgd (hr.deeper _) hsp
  have I := inv_start (P := P) (w := w) (mg := mg) (base := base) (CX := CX0) (E := E) S hr.hd e0 (len _ _ _ _ hsp) r x1
  refine wpAny_mono (ht.nox.run [] s1 (start N vs) H _ I hq) (fun fl s' hs => ?_) fun _ _ hs => hs
  match fl, hs with
  | .ret u, ⟨v, σ', H', J, rv, q⟩ => exact ⟨v, H', J.os, J.bare, J.base, J.hok, rv, q⟩
  | .next, ⟨σ', H', J, q⟩ => exact ⟨V.non, H', J.os, J.bare, J.base, J.hok, rfl, q⟩
  | .brk, ⟨_, _, _, q⟩ => exact False.elim q
  | .cont, ⟨_, _, _, q⟩ => exact False.elim q
theorem FnOk.toG {CX : CXT} {k : Nat} {f : Addr} {fd : FuncData} {ps : List Str} {sp : Sp} (F : FnOk P w K mg base CX k f fd ps sp) : FnG P w K mg base CX k f fd ps sp :=
  ⟨F.len, fun A outer s H args us vs Q E _ hr e0 hb r h => F.run A outer s H args us vs Q E hr e0 hb r h⟩
end
/-! ### repr of data -/
section
variable {X : Cx}
/-- repr(x): the text of x's data -/
def rRepr (K : PySem.W.Frag) : List V → Hp → VK → Prop := fun xs H Q => ∃ (a : Addr) (d : PyData), xs = [.ref a] ∧ Dp K H (.ref a) d ∧ d.showable = true ∧ d.hasDict = false ∧ d.depth ≤ 60 ∧ d.shown.length ≤ sizeLine ∧ Q (.str d.shown) H
theorem call_repr_data {k : Nat} (hgd : X.A.guards = some []) (hr : Room k X.A) : CallR X (.builtin "repr") (rRepr X.K) := by
  intro pins s σ H xs us Q I r h
  obtain ⟨a, d, rfl, hd, hs, hn, hdp, hz, q⟩ := h
  obtain ⟨u, rfl, ru⟩ := r.one
  obtain ⟨as, rd⟩ := Dp.reads I d _ u hd ru
  cases ru
  refine repr_of_reads' rd hs (fun z => by rw [hn] at z; cases z) hgd (by have := hr.un; omega) (fun b o e => e) (fun h' v tk keep => ?_) hz
  exact ⟨.str d.shown, H, I.kept (t' := tk) keep, ⟨_, rfl⟩, q⟩
end
/-! ### the law's own call -/
/-- the script's list, known to the object -/
def scriptO (vs : List Value) : Obj := { cls := .type "list", data := .seq vs.toArray }
/-- what is tracked at the law's entry: the script, if it is no object of the module -/
def H0 (K : PySem.W.Frag) (a : Addr) (vs : List Value) (ns : List Int) : Hp := fun b => if b = a ∧ K.lookup a = none then some (.frz (scriptO vs) (.lst (ns.map V.int))) else none
theorem H0_some {K : PySem.W.Frag} {a b : Addr} {vs : List Value} {ns : List Int} {u : HO} (h : H0 K a vs ns b = some u) : b = a ∧ K.lookup a = none ∧ u = .frz (scriptO vs) (.lst (ns.map V.int)) := by
  unfold H0 at h
  by_cases c : b = a ∧ K.lookup a = none
  · rw [if_pos c] at h
    exact ⟨c.1, c.2, (Option.some.inj h).symm⟩
  · rw [if_neg c] at h
    cases h
theorem ints_vals : ∀ {ns : List Int} {vs : List Value}, IntsAre vs ns → Vals (ns.map V.int) vs
  | _, _, .nil => .nil
  | _, _, .cons _ _ r => .cons ⟨_, rfl⟩ (ints_vals r)
theorem law_callG {P : Program} {w : World} {K : PySem.W.Frag} {mg mb : Str → Option Value} {k : Nat} {fa a : Addr} {fd : FuncData} {x : Str} {sp : Sp} {s₁ : Shared} {vs : List Value} {ns : List Int}
    (kin : K.In s₁.heap) (hm : s₁.heap.Ns mainGlobals mg) (hbl : s₁.heap.Ns builtinsNs mb) (hbt : ∀ y : Str, y ≠ "__name__" → mb y = bootBuiltins y) (lim : s₁.heap.NoLimit) (gens : s₁.gens = #[])
    (obj : s₁.heap.get? a = some (scriptO vs)) (hints : IntsAre vs ns) (size : ns.length ≤ sizeLine) (room : Room k callerA)
    (F : ∀ base : Heap, K.In base → base.Ns mainGlobals mg → FnG P w K mg base CX0 k fa fd [x] sp) (bind : ∀ (s : Shared) (u : Value), BindsTo s fd ⟨[u], []⟩ [(x, u)])
    (want : ∀ H : Hp, SqL K H a (ns.map V.int) → sp [.ref a] H (fun v _ => v = .bl true) E0) :
    codeAny (model P w) callerA (.call (.ref fa) ⟨[.ref a], []⟩) (fun r s' => r = .ok (.ret (.bool true)) ∧ OldK s₁.heap s'.heap ∧ s'.os = s₁.os ∧ AllBare s'.gens) s₁ := by
  have rv := ints_vals hints
  have ok : HOk P w (H0 K a vs ns) s₁.heap := fun b u h => by
    obtain ⟨rfl, _, rfl⟩ := H0_some h
    exact ⟨obj, by rw [List.length_map]; exact size, vs, _, rv, obj⟩
  have sq : SqL K (H0 K a vs ns) a (ns.map V.int) := by
    cases lk : K.lookup a with
    | none => exact .inl (.inr ⟨scriptO vs, if_pos ⟨rfl, lk⟩⟩)
    | some o =>
      have e := kin a o lk
      rw [obj] at e
      cases e
      exact .inr ⟨_, vs.toArray, _, lk, rfl, rfl, rfl, by rw [List.size_toArray, hints.length]; exact size, by simpa using rv⟩
  -- what is not tracked stays in sight
  have seen : ∀ {b : Addr} {o : Obj}, s₁.heap.get? b = some o → (b = a → K.lookup a ≠ none) → (hidT s₁.heap (H0 K a vs ns)).get? b = some o := fun {b o} e n => hidT_get e (by
    cases q : H0 K a vs ns b with
    | none => rfl
    | some u =>
      obtain ⟨h1, h2, _⟩ := H0_some q
      exact absurd h2 (n h1))
  have dicts : ∀ {b : Addr} {m : Str → Option Value}, s₁.heap.Ns b m → (hidT s₁.heap (H0 K a vs ns)).Ns b m := fun {b m} ⟨o, es, ep, e, d, r⟩ => ⟨o, es, ep, seen e (fun z => by
    subst z
    rw [obj] at e
    cases e
    cases (show Data.seq vs.toArray _ = Data.dict es ep from d)), d, r⟩
  have kinB : K.In (hidT s₁.heap (H0 K a vs ns)) := fun b o e => seen (kin b o e) (fun z => by subst z; rw [e]; simp)
  have md : Mod K mg (hidT s₁.heap (H0 K a vs ns)) := ⟨kinB, dicts hm, ⟨mb, dicts hbl, hbt⟩, let ⟨mc, h1, h2⟩ := lim; ⟨mc, dicts h1, h2⟩⟩
  have e0 : Env0 P w K mg (hidT s₁.heap (H0 K a vs ns)) callerA [] s₁ (H0 K a vs ns) :=
    { frames := rfl, mod := md, bs := fun b o e => of_hidT e, bsz := Nat.le_of_eq (hidT_size _ _), funs := trivial, frf := fun b hb => (List.not_mem_nil hb).elim, hok := ok, bare := .of_eq gens }
  refine codeAny_mono ((F _ kinB (dicts hm)).run callerA [] s₁ (H0 K a vs ns) ⟨[.ref a], []⟩ [.ref a] [.ref a] (fun v _ => v = .bl true) E0 rfl room e0 (bind s₁ (.ref a)) (.cons rfl .nil) (want _ sq)) fun r s' h => ?_
  match r, h with
  | .error z, h => exact False.elim h
  | .ok (.ret u), ⟨v, H', os, bare, un, ok', rv', q⟩ =>
    have q' : v = .bl true := q
    subst q'
    obtain rfl : u = Value.bool true := rv'
    refine ⟨rfl, OldK.of_keep fun b o e => ?_, os, bare⟩
    cases t : H0 K a vs ns b with
    | none => exact un.keep b o e t (fun z => (List.not_mem_nil z).elim) (fun z => (List.not_mem_nil z).elim)
    | some u =>
      obtain ⟨rfl, _, rfl⟩ := H0_some t
      have e2 := (ok' b _ (un.frzs b _ _ t)).1
      rw [obj] at e
      cases e
      exact e2
theorem walk_ofG {l : PySem.W.OpenLaw} {n k : Nat} {q : Program} {loose : List Str} {XP : (Str → Option Value) → Heap → Prop} {YP : World → Heap → Prop} {d : DefRec} {K : Params → PySem.W.Frag} {sp : World → Sp} {x : Str}
    (hn : l.most = some n) (hn2 : n ≤ sizeLine) (hdf : d.params.defaults = []) (room : Room k callerA) (hY : ∀ (w : World) (h : Heap), YP w h → (K w.params).In h)
    (F : ∀ (w : World) (mg : Str → Option Value) (fa : Addr) (h : Heap), (K w.params).In h → h.Ns mainGlobals mg → mg d.name = some (.ref fa) →
      ∃ fd : FuncData, (∀ (s : Shared) (u : Value), BindsTo s fd ⟨[u], []⟩ [(x, u)]) ∧ ∀ base : Heap, (K w.params).In base → base.Ns mainGlobals mg → FnG l.prog w (K w.params) mg base CX0 k fa fd [x] (sp w))
    (want : ∀ (w : World) (H : Hp) (a : Addr) (ns : List Int), ns.length ≤ n → SqL (K w.params) H a (ns.map V.int) → sp w [.ref a] H (fun v _ => v = .bl true) E0) :
    PySem.W.WalkO q loose XP YP l.row.toRowW d [] (fun f vs => PySem.call f vs) := by
  refine Att.attach_call hn hdf fun w s₀ s₁ mg mb fa o pm cd doc a vs ns G Y ho hd hcd hmg hobj hints hlen hg => ?_
  have kin := hY w _ Y
  obtain ⟨fd, hb, hF⟩ := F w mg fa _ kin G.T.g hmg
  exact law_callG kin G.T.g G.T.b G.T.builtins G.T.nolimit hg hobj hints (Nat.le_trans hlen hn2) room hF hb fun H hS => want w H a ns hlen hS
end Ls
namespace Ls
open PySem PySem.Spec PyProof.Rows L2
/-! ### short steps -/
local macro_rules | `(tactic| walk_at "ls_ne") => `(tactic| first | assumption | exact Ne.symm (by assumption) | exact ne_of_none (by assumption) (by assumption) | exact Ne.symm (ne_of_none (by assumption) (by assumption)))
local macro_rules | `(tactic| walk_at "ls_hp") => `(tactic| first
  | with_reducible assumption
  | exact upd_same
  | exact Eq.trans (upd_ne (by walk_at "ls_ne")) (by walk_at "ls_hp"))
local macro_rules | `(tactic| walk_at "ls_st") => `(tactic| first
  | with_reducible assumption
  | exact Stm.upd (by walk_at "ls_st") (by first | walk_at "ls_ne" | exact (Stm.noneS (by assumption) (by assumption)).1) (by first | walk_at "ls_ne" | exact (Stm.noneS (by assumption) (by assumption)).2))
local macro_rules | `(tactic| walk_at "ls1") => `(tactic| first
  | refine ⟨_, rfl, ?_⟩
  | refine ⟨_, _, rfl, rfl, ?_⟩
  | refine ⟨_, _, _, _, rfl, rfl, .inl (.inl (by walk_at "ls_hp")), rfl, ?_⟩
  | refine ⟨_, _, _, _, rfl, rfl, (by walk_at "ls_hp"), rfl, ?_⟩
  | refine ⟨rfl, _, rfl, ?_⟩
  | refine ⟨.inl ⟨rfl, _, .inl (.inl (by walk_at "ls_hp"))⟩, ?_⟩)
local macro_rules | `(tactic| walk_at "ls") => `(tactic| repeat (walk_at "ls1"))

/-! ### lists of names as data -/
def strsD (ts : List Str) : PyData := .list (ts.map .str)
theorem dp_strsAll {K : PySem.W.Frag} {H : Hp} : ∀ ts : List Str, DpAll K H (ts.map V.str) (ts.map PyData.str)
  | [] => .nil
  | t :: r => .cons (.str t) (dp_strsAll r)
theorem show_strs : ∀ ts : List Str, PyData.showableAll (ts.map PyData.str) = true
  | [] => by simp [PyData.showableAll]
  | t :: r => by simp [PyData.showableAll, PyData.showable, show_strs r]
theorem nodict_strs : ∀ ts : List Str, PyData.hasDictAll (ts.map PyData.str) = false
  | [] => by simp [PyData.hasDictAll]
  | t :: r => by simp [PyData.hasDictAll, PyData.hasDict, nodict_strs r]
theorem depth_strs : ∀ ts : List Str, PyData.depthAll (ts.map PyData.str) = 0
  | [] => by simp [PyData.depthAll]
  | t :: r => by simp [PyData.depthAll, PyData.depth, depth_strs r]
theorem shown_strs : ∀ ts : List Str, PyData.shownAll (ts.map PyData.str) = ts.map reprText
  | [] => by simp [PyData.shownAll]
  | t :: r => by simp [PyData.shownAll, PyData.shown, shown_strs r]
theorem repr_short {z : Str} (h : Nm z) : (reprText z).length ≤ 82 := by
  have h1 := StrLaws.reprText_len z (fun c hc => by have := h.1.2.2 c hc; omega)
  have := h.1.2.1
  omega
theorem sum_short : ∀ {ts : List Str}, (∀ z ∈ ts, Nm z) → ((ts.map reprText).map (·.length)).sum ≤ 82 * ts.length
  | [], _ => Nat.zero_le _
  | t :: r, h => by
    have h1 := repr_short (h t (List.mem_cons_self ..))
    have h2 := sum_short (ts := r) fun z hz => h z (List.mem_cons_of_mem _ hz)
    rw [List.map_cons, List.map_cons, List.sum_cons, List.length_cons]
    omega
theorem strs_len {ts : List Str} (h : ∀ z ∈ ts, Nm z) (hl : ts.length ≤ 8) : (strsD ts).shown.length ≤ 700 := by
  have e : (strsD ts).shown = listText (ts.map reprText) := by unfold strsD; rw [PyData.shown, shown_strs]
  rw [e]
  have h1 := listText_len_le (ts.map reprText)
  have h2 := sum_short h
  rw [List.length_map] at h1
  omega
/-- two lists of names -/
def pairD (ts : List Str) : PyData := .list [strsD ts, strsD ts]
theorem pair_ok {ts : List Str} (h : ∀ z ∈ ts, Nm z) (hl : ts.length ≤ 8) : (pairD ts).showable = true ∧ (pairD ts).hasDict = false ∧ (pairD ts).depth ≤ 60 ∧ (pairD ts).shown.length ≤ sizeLine := by
  refine ⟨?_, ?_, ?_, ?_⟩
  · simp [pairD, strsD, PyData.showable, PyData.showableAll, show_strs]
  · simp [pairD, strsD, PyData.hasDict, PyData.hasDictAll, nodict_strs]
  · simp [pairD, strsD, PyData.depth, PyData.depthAll, depth_strs]
  · have e : (pairD ts).shown = listText [(strsD ts).shown, (strsD ts).shown] := by unfold pairD; simp [PyData.shown, PyData.shownAll]
    rw [e]
    have h1 := listText_len_le [(strsD ts).shown, (strsD ts).shown]
    have h2 := strs_len h hl
    have h3 : (([(strsD ts).shown, (strsD ts).shown].map (·.length)).sum) = (strsD ts).shown.length + (strsD ts).shown.length := by simp
    rw [h3] at h1
    have h4 : ([(strsD ts).shown, (strsD ts).shown]).length = 2 := rfl
    rw [h4] at h1
    exact Nat.le_trans h1 (Nat.le_trans (show _ ≤ 2000 by omega) (show 2000 ≤ sizeLine by decide))
section
variable {P : Program} {w : World} {K : PySem.W.Frag} {mg : Str → Option Value} {base : Heap}
/-! ### _law_same -/
abbrev s__law_same : Stmt := topS 30
theorem sc__law_same : FnScope ["_law_found", "_law_due"] ["_law_found", "_law_due"] (defScope s__law_same) := ⟨rfl, rfl, rfl, by decide +kernel, rfl, by decide +kernel, by decide +kernel⟩
abbrev N__law_same : List Str := ["_law_found", "_law_due"]
def spSame (K : PySem.W.Frag) : Sp := fun vs H Q _ => ∃ (a b : Addr) (d : PyData), vs = [.ref a, .ref b] ∧ Dp K H (.ref a) d ∧ Dp K H (.ref b) d ∧ (d.showable = true ∧ d.hasDict = false ∧ d.depth ≤ 60 ∧ d.shown.length ≤ sizeLine) ∧ Q (.bl true) H
theorem ok_same {f : Addr} {fd : FuncData} (F : Fun K "_law_same" "_law_same" s__law_same f fd) (T : Bt mg) : FnG P w K mg base CX0 1 f fd ["_law_found", "_law_due"] (spSame K) := by
  refine fun_okG F sc__law_same (fun vs H Q E h => ?_) (fun cdv A outer s H vs Q E hgd hr h => ?_)
  · obtain ⟨a, b, d, rfl, _⟩ := h
    rfl
  · obtain ⟨a, b, d, rfl, ha, hb, ⟨h1, h2, h3, h4⟩, q⟩ := h
    have hu := hu_of hr
    refine ⟨_, (pss_one (ps_ret (pe_cmpR op_eq (pe_callB (call_repr_data hgd hr) (by rfl) T.m_repr (by decide +kernel) (pa_cons (pv 0) pa_nil)) (pe_callB (call_repr_data hgd hr) (by rfl) T.m_repr (by decide +kernel) (pa_cons (pv 1) pa_nil)) (nomark _)))), ?_⟩
    walk_at "ls"
    refine ⟨a, d, rfl, ha, h1, h2, h3, h4, ?_⟩
    walk_at "ls"
    refine ⟨b, d, rfl, hb, h1, h2, h3, h4, ?_⟩
    refine ⟨rfl, ?_⟩
    rw [decide_eq_true rfl]
    exact q
/-! ### law -/
abbrev s_law : Stmt := topS 37
theorem sc_law : FnScope ["_law_script", "_law_stream", "_law_turn", "_law_b", "_law_book", "_law_due", "_law_name", "_law_is_open", "_law_kind"] ["_law_script"] (defScope s_law) := ⟨rfl, rfl, rfl, by decide +kernel, rfl, by decide +kernel, by decide +kernel⟩
abbrev N_law : List Str := ["_law_script", "_law_stream", "_law_turn", "_law_b", "_law_book", "_law_due", "_law_name", "_law_is_open", "_law_kind"]
def spLaw (K : PySem.W.Frag) : Sp := fun vs H Q _ => ∃ (a : Addr) (ns : List Int), vs = [.ref a] ∧ SqL K H a (ns.map V.int) ∧ ns.length ≤ 63 ∧ ∀ H', Q (.bl true) H'
theorem ok_law {C : Addr} {f : Addr} {fd : FuncData} (F : Fun K "law" "law" s_law f fd) (T : Bt mg) (TB : BkT K C) (O__law_draw : Own P w K mg base CX0 1 "_law_draw" ["_law_stream", "_law_many"] spDraw)
    (O__law_shape : Own P w K mg base CX0 4 "_law_shape" ["_law_stream", "_law_many", "_law_most"] spShape) (O_Book : OwnC P w K mg base CX0 4 C "Book" ["self", "kinds", "columns", "checks"] (spInit K C))
    (O__law_checked : Own P w K mg base CX0 2 "_law_checked" ["_law_stream", "_law_b"] spChecked) (O__law_comes : Own P w K mg base CX0 4 "_law_comes" ["_law_b", "_law_kind", "_law_left"] (spComes 4))
    (O_Book_markable : OwnM P w K mg base CX0 1 C "markable" ["self"] (spMark C)) (O__law_same : OwnG P w K mg base CX0 1 "_law_same" ["_law_found", "_law_due"] (spSame K)) : FnG P w K mg base CX0 6 f fd ["_law_script"] (spLaw K) := by
  refine fun_okG F sc_law (fun vs H Q E h => ?_) (fun cdv A outer s H vs Q E hgd hr h => ?_)
  · obtain ⟨a, ns, rfl, _⟩ := h
    rfl
  · obtain ⟨a, ns, rfl, ha, hl, q⟩ := h
    have hu := hu_of hr
    refine ⟨_, (pss_cons (ps_set (i := 1) sc_law.nd rfl (Or.inr rfl) (pe_lst (pa_cons (pe_callTy (list_of K) (by rfl) T.m_list (by decide +kernel) (pa_cons (pv 0) pa_nil)) (pa_cons pe_int (pa_cons pe_int (pa_cons pe_int pa_nil))))))
      (pss_cons (ps_for PassesOwn.never rfl (pi_range1 rfl T.m_range (pa_cons pe_int pa_nil)) (pg_name (i := 2) sc_law.nd rfl (Or.inl rfl)) (pss_cons (ps_set (i := 3) sc_law.nd rfl (Or.inr rfl) (own_call O__law_shape hr (by first | decide | omega) (pa_cons (pv 1) (pa_cons (pe_op op_add pe_int (own_call O__law_draw hr (by first | decide | omega) (pa_cons (pv 1) (pa_cons pe_int pa_nil)))) (pa_cons pe_int pa_nil)))))
      (pss_cons (ps_dput hu (pv 3) pe_str (pe_lc (own := [("_law_name", 6), ("_law_is_open", 7)]) (g := gTup K 2 (gCons (gName 6) (gCons (gName 7) gNil))) (by rfl) sc_law.nd (pi_list (pe_dget hu (pv 3) pe_str (fun _ _ => rfl))) (blkOk_by (own := [("_law_name", 6), ("_law_is_open", 7)]) (N := N_law) (sc := defScope s_law) (by decide +kernel)) (fun _ _ _ _ _ => (pg_tup rfl (pgs_cons (pg_name (i := 6) sc_law.nd rfl (Or.inl rfl) (Or.inr rfl)) (pgs_cons (pg_name (i := 7) sc_law.nd rfl (Or.inl rfl) (Or.inr rfl)) pgs_nil)))) (fun _ _ _ _ _ => pts_nil) (fun _ _ _ _ _ => (pe_tup (pa_cons (pv 6) (pa_cons (pe_cmpR op_eq (own_call O__law_draw hr (by first | decide | omega) (pa_cons (pv 1) (pa_cons pe_int pa_nil))) pe_int (nomark _)) pa_nil))))) rfl)
      (pss_cons (ps_set (i := 4) sc_law.nd rfl (Or.inl rfl) (own_make O_Book hr (by first | decide | omega) (pa_cons (pe_dget hu (pv 3) pe_str (fun _ _ => rfl)) (pa_cons (pe_dget hu (pv 3) pe_str (fun _ _ => rfl)) (pa_cons (pe_dget hu (own_call O__law_checked hr (by first | decide | omega) (pa_cons (pv 1) (pa_cons (pv 3) pa_nil))) pe_str (fun _ _ => rfl)) pa_nil)))))
      (pss_cons (ps_setLc (i := 5) (own := [("_law_kind", 8)]) (g := gName 8) (by rfl) sc_law.nd rfl rfl (sw_true rfl rfl rfl (by decide +kernel)) (pi_list (pe_dget hu (pv 3) pe_str (fun _ _ => rfl))) (blkOk_by (own := [("_law_kind", 8)]) (N := N_law) (sc := defScope s_law) (by decide +kernel)) (fun _ _ _ _ _ => (pg_name (i := 8) sc_law.nd rfl (Or.inl rfl) (Or.inr rfl))) (fun _ _ _ _ _ => (pts_one (pt_val (own_call O__law_comes hr (by first | decide | omega) (pa_cons (pv 3) (pa_cons (pe_ix (ixT K) (pv 8) pe_int (fun _ _ => rfl)) (pa_cons pe_int pa_nil))))))) (fun _ _ _ _ _ => (pe_ix (ixT K) (pv 8) pe_int (fun _ _ => rfl))))
      (pss_cons (ps_expr (pe_bm PySem.F.plainAttrs_list PySem.F.slot_list_append PySem.F.type_list_append mt_append (own_meth0 O_Book_markable hr (by first | decide | omega) (pv 4)) (pa_cons pe_str pa_nil)))
      (pss_one (ps_if (pt_not (pt_val (own_callG O__law_same hgd hr (by first | decide | omega) (pa_cons (pe_lst (pa_cons (own_meth0 O_Book_markable hr (by first | decide | omega) (pv 4)) (pa_cons (own_meth0 O_Book_markable hr (by first | decide | omega) (pv 4)) pa_nil))) (pa_cons (pe_lst (pa_cons (pv 5) (pa_cons (pv 5) pa_nil))) pa_nil))))) (pss_one (ps_ret pe_bl)) pss_nil))))))))
      (pss_one (ps_ret pe_bl)))), ?_⟩
    walk_at "ls"
    refine ⟨a, _, rfl, .inl ha, fun L hL => ⟨(by show 4 ≤ sizeLine; decide), fun S hS => ?_⟩⟩
    have nSL : S ≠ L := fun e => by rw [e, upd_same] at hS; cases hS
    refine at_heap (φ := fun H1 => Stm H1 S L 0) ⟨ns, 0, 0, 0, upd_same, (by rw [upd_ne nSL.symm]; exact upd_same), by decide, by decide, by decide, by decide, by decide⟩ ?_
    intro H1 st1
    refine ⟨12, rfl, by decide, by decide, ?_⟩
    refine for_it (walk_range (n := 12)) (fun i σ H2 => ∃ v2 v3 v4 v5 : Option V, σ = [some (.ref a), some (.ref S), v2, v3, v4, v5, none, none, none] ∧ Stm H2 S L (300 * i)) ⟨none, none, none, none, rfl, st1⟩ (fun _ _ _ _ _ => trivial) ?_ ?_
    · rintro i x σ Hz H2 hi ⟨v2, v3, v4, v5, rfl, st2⟩ ⟨rfl, rfl⟩
      -- the shape
      walk_at "ls"
      refine ⟨S, L, _, 3, rfl, st2, by omega, by decide, by decide, fun H3 r r0 r1 st3 od3 => ?_⟩
      obtain ⟨r, rfl⟩ := Int.eq_ofNat_of_zero_le r0
      walk_at "ls"
      refine ⟨S, L, _, 1 + r, 4, (by show [V.ref S, V.int (1 + (r : Int)), V.int 4] = _; rw [show (1 + (r : Int)) = ((1 + r : Nat) : Int) by omega]; rfl), st3, by omega, by omega, by omega, by decide, by decide, fun H4 b B hB hBk hBc hb hs4 st4 od4 => ?_⟩
      obtain ⟨ka, ca, ea, kx, cx, hb4, hka, hkt, hca, hct, hea, nk, nc, ne⟩ := id hs4
      have lkx : kx.length ≤ 3 := by rw [hkt.len, List.length_map]; exact hB.nk3
      -- the kinds anew
      walk_at "ls"
      refine ⟨b, _, rfl, dg_kinds hb4, ka, rfl, ⟨_, .inl (.inl hka)⟩, fun D hD => ?_⟩
      have nD := st4.noneS hD
      refine lc_it (walk_list (xs := kx)) (fun j H5 => ∃ (ks : List (Str × Bool)) (kx' : List V), ks.map (·.1) = (B.ks.take j).map (·.1) ∧ H5 D = some (.lst kx') ∧ TupsAt H5 kx' (ks.map kindV) ∧ Stm H5 S L (300 * i + 1 + 200 + j) ∧ Old S L H4 H5)
        ⟨[], [], rfl, upd_same, .nil, st4.upd nD.1 nD.2, .new hD⟩ (fun j H5 _ ⟨_, _, _, _, _, _, od⟩ => .inl (.inl (od _ _ nk.1 nk.2 hka))) ?_ ?_
      · rintro j y Hy H5 hj ⟨ks, kx', eks, h5D, h5t, st5, od5⟩ ⟨rfl, hy⟩
        obtain ⟨ys, hys, t, rfl, ht⟩ := TupsAt.get (hkt.keep (TK.old st4 od5)) hy
        obtain ⟨kd, hkd, rfl⟩ := map_get hys
        refine ⟨t, _, rfl, .inl (.inl ht), rfl, _, _, rfl, _, _, rfl, rfl, rfl, ?_⟩
        walk_at "ls"
        refine ⟨S, L, _, 3, rfl, st5, by omega, by decide, by decide, fun H6 u u0 u1 st6 od6 => ?_⟩
        walk_at "ls"
        refine ⟨rfl, ?_⟩
        refine ⟨(by show 2 ≤ sizeLine; decide), fun t2 ht2 => ?_⟩
        have nt := st6.noneS ht2
        have h6D := od6 _ _ nD.1 nD.2 h5D
        have nDt : D ≠ t2 := ne_of_none h6D ht2
        have h6D' : (upd H6 t2 (.tup [V.str kd.1, V.bl (decide (V.int u = V.int 0))])) D = some (.lst kx') := by rw [upd_ne nDt]; exact h6D
        have kt : TK H5 (upd (upd H6 t2 (.tup [V.str kd.1, V.bl (decide (V.int u = V.int 0))])) D (.lst (kx' ++ [.ref t2]))) := ((TK.old st5 od6).trans (.new ht2)).trans (.lst h6D')
        have lk : kx'.length ≤ 3 := by
          have e1 := congrArg List.length eks
          rw [List.length_map, List.length_map, List.length_take] at e1
          rw [h5t.len, List.length_map, e1]
          have := hB.nk3
          omega
        refine ⟨kx', h6D', small1000 (by omega), ks ++ [(kd.1, decide (V.int u = V.int 0))], kx' ++ [.ref t2], ?_, upd_same, ?_, ((st6.mono (by omega)).upd nt.1 nt.2).upd nD.1 nD.2, ((od5.trans od6).trans (.new ht2)).set hD⟩
        · rw [List.take_add_one, hkd, List.map_append, List.map_append, eks]
          rfl
        · rw [List.map_append]
          exact (h5t.keep kt).snoc ⟨t2, rfl, by rw [upd_ne nDt.symm]; exact upd_same⟩
      rintro H5 ⟨ks, kx', eks, h5D, h5t, st5, od5⟩
      have lk : kx.length = B.ks.length := by rw [hkt.len, List.length_map]
      rw [lk, List.take_length] at eks
      have hB' : (Shp.mk ks B.cs).Ok := by
        have el : ks.length = B.ks.length := by
          have := congrArg List.length eks
          rw [List.length_map, List.length_map] at this
          exact this
        refine ⟨?_, ?_, hB.nc, ?_, ?_, fun c hc => ?_, fun c hc => ?_, hB.nc0⟩
        · show 0 < ks.length
          rw [el]
          exact hB.nk
        · show ks.length ≤ 3
          rw [el]
          exact hB.nk3
        · show (ks.map (·.1) ++ B.cs.map (·.1)).Nodup
          rw [eks]
          exact hB.nd
        · show ∀ z ∈ ks.map (·.1) ++ B.cs.map (·.1), Nm z
          rw [eks]
          exact hB.nm
        · show c.2.1 ∈ ks.map (·.1)
          rw [eks]
          exact hB.home c hc
        · show c.2.2.1 ∈ ks.map (·.1)
          rw [eks]
          exact hB.goal c hc
      have nb : b ≠ S ∧ b ≠ L := by
        obtain ⟨_, _, _, _, h1, h2, _⟩ := st4
        exact ⟨ne_of hb4 h1 (fun z => nomatch z), ne_of hb4 h2 (fun z => nomatch z)⟩
      have hb5 := od5 _ _ nb.1 nb.2 hb4
      have k45 := TK.old st4 od5
      walk_at "ls"
      refine ⟨b, _, rfl, DPut.k (k := .inr "kinds") hb5 (by show 3 < sizeLine; decide), ?_⟩
      refine at_heap (φ := fun H6 => Stm H6 S L (300 * i + 210) ∧ ShpAt S L H6 b ⟨ks, B.cs⟩ []) ⟨(st5.mono (by omega)).upd nb.1 nb.2, D, ca, ea, kx', cx, upd_same, ?_, h5t.keep (.dK hb5), ?_, (hct.keep k45).keep (.dK hb5), ?_, nD, nc, ne⟩ ?_
      · rw [upd_ne (ne_of h5D hb5 fun z => nomatch z)]
        exact h5D
      · rw [upd_ne (ne_of (od5 _ _ nc.1 nc.2 hca) hb5 fun z => nomatch z)]
        exact od5 _ _ nc.1 nc.2 hca
      · rw [upd_ne (ne_of (od5 _ _ ne.1 ne.2 hea) hb5 fun z => nomatch z)]
        exact od5 _ _ ne.1 ne.2 hea
      clear h5D h5t st5 od5 hb5 k45 nD hD hs4 hb4 hka hkt hca hct hea nk nc ne st4 od4 lkx lk hb nb
      rintro H6 ⟨st6, hs6⟩
      obtain ⟨ka, ca, ea, kx, cx, hb6, hka, hkt, hca, hct, hea, nk, nc, ne⟩ := id hs6
      -- the book
      walk_at "ls"
      refine ⟨b, _, rfl, dg_kinds hb6, ?_⟩
      walk_at "ls"
      refine ⟨b, _, rfl, dg_columns hb6, ?_⟩
      walk_at "ls"
      refine ⟨S, L, b, _, ⟨ks, B.cs⟩, [], rfl, st6, by omega, hs6, hB', fun H7 p ck hpn hck hs7 st7 od7 => ?_⟩
      obtain ⟨ka7, ca7, ea7, kx7, cx7, hb7, hka7, hkt7, hca7, hct7, hea7, _⟩ := id hs7
      walk_at "ls"
      refine ⟨p, _, rfl, dg_checks hb7, ?_⟩
      intro x dx hx hdx hne
      have sm : Same H7 (upd (upd H7 dx (.own x)) x (.ins C dx [])) := (same_new hdx).trans (same_new (by rw [upd_ne hne.symm]; exact hx))
      have k67 := TK.old st6 od7
      refine ⟨x, dx, ka, ca, ea7, kx, cx, ⟨ks, B.cs⟩, ck, rfl, upd_same, sm _ _ (od7 _ _ nk.1 nk.2 hka), (hkt.keep k67).keep (.same sm), sm _ _ (od7 _ _ nc.1 nc.2 hca), (hct.keep k67).keep (.same sm), sm _ _ hea7, hB', ?_, fun z hz => hck.subset hz, fun H8 hbk bt => ⟨rfl, ?_⟩⟩
      · have h1 := hck.length_le
        have h2 := menu_len ⟨ks, B.cs⟩
        have h3 := hB'.nc
        have h4 := hB'.nk3
        omega
      have s78 : Same H7 H8 := fun c u e => bt c u (ne_of_none e hx) (sm c u e)
      have st8 := st7.keep s78
      have hs8 : ShpAt S L H8 b ⟨ks, B.cs⟩ [] := (hs6.old st6 od7).same s78
      obtain ⟨ka8, ca8, ea8, kx8, cx8, hb8, hka8, hkt8, hca8, hct8, hea8, _⟩ := id hs8
      have lk8 : kx8.length = ks.length := by rw [hkt8.len, List.length_map]
      -- what is due
      walk_at "ls"
      refine ⟨b, _, rfl, dg_kinds hb8, ka8, rfl, ⟨_, .inl (.inl hka8)⟩, fun E1 hE1 => ?_⟩
      refine lc_it (walk_list (xs := kx8)) (fun j H9 => H9 E1 = some (.lst ((((ks.take j).filter fun k => comesB ⟨ks, B.cs⟩ 3 k.1).map (·.1)).map V.str)) ∧ Same H8 H9) ⟨upd_same, same_new hE1⟩ (fun j H9 _ h => .inl (.inl (h.2 _ _ hka8))) ?_ ?_
      · rintro j y Hy H9 hj ⟨h9, s9⟩ ⟨rfl, hy⟩
        obtain ⟨ys, hys, t, rfl, ht⟩ := TupsAt.get (hkt8.keep (.same s9)) hy
        obtain ⟨kd, hkd, rfl⟩ := map_get hys
        have hjk : j < ks.length := (List.getElem?_eq_some_iff.mp hkd).1
        refine ⟨rfl, ?_⟩
        walk_at "ls"
        refine ⟨S, L, b, kd.1, 3, ⟨ks, B.cs⟩, [], rfl, by decide, hs8.same s9, hB', List.mem_map_of_mem (List.mem_of_getElem? hkd), fun H10 s10 => ?_⟩
        refine ⟨_, rfl, ?_⟩
        have h10 := s10 _ _ h9
        have ht10 := s10 _ _ ht
        have hlen : (((ks.take j).filter fun k => comesB ⟨ks, B.cs⟩ 3 k.1)).length ≤ 3 := by
          refine Nat.le_trans (List.length_filter_le _ _) ?_
          rw [List.length_take]
          have := hB'.nk3
          have h2 : ks.length ≤ 3 := this
          omega
        refine ite2 (fun e => ?_) (fun e => ?_)
        · walk_at "ls"
          refine ⟨_, h10, ?_, ?_, Same.set (s9.trans s10) hE1⟩
          · rw [List.length_map, List.length_map]
            exact small1000 (by omega)
          · rw [upd_same, List.take_add_one, hkd, List.filter_append, List.map_append, List.map_append]
            have : ([kd].filter fun k => comesB ⟨ks, B.cs⟩ 3 k.1) = [kd] := by simp [e]
            show some (HO.lst (_ ++ [V.str kd.1])) = some (HO.lst (_ ++ ((([kd].filter fun k => comesB ⟨ks, B.cs⟩ 3 k.1).map (·.1)).map V.str)))
            rw [this]
            rfl
        · refine ⟨?_, s9.trans s10⟩
          rw [h10, List.take_add_one, hkd, List.filter_append, List.map_append, List.map_append]
          have : ([kd].filter fun k => comesB ⟨ks, B.cs⟩ 3 k.1) = [] := by simp [e]
          show some (HO.lst _) = some (HO.lst (_ ++ ((([kd].filter fun k => comesB ⟨ks, B.cs⟩ 3 k.1).map (·.1)).map V.str)))
          rw [this]
          simp
      rintro H9 ⟨h9, s9⟩
      rw [lk8, List.take_length] at h9
      have edue : (ks.filter fun k => comesB ⟨ks, B.cs⟩ 3 k.1).map (·.1) = markList ⟨ks, B.cs⟩ := by
        unfold markList
        congr 1
        exact List.filter_congr fun k hk => (mark_is hB' (List.mem_map_of_mem hk)).symm
      rw [edue] at h9
      have hbk9 := hbk.same s9
      obtain ⟨dx9, _, _, _, _, _, _, ho9, _⟩ := id hbk9
      have nomk : ∀ {k c m x : Addr}, (bookF k c m x).lookup ("markable" : Str) = none := bookF_no (by decide +kernel) (by decide +kernel) (by decide +kernel) (by decide +kernel)
      -- what is told is one's own
      walk_at "ls"
      refine ⟨x, _, _, rfl, ho9, nomk, ?_⟩
      refine ⟨x, _, _, rfl, hbk9, hB', fun H10 p1 hp1 h10 s10 => ?_⟩
      walk_at "ls"
      have lmk : (markList ⟨ks, B.cs⟩).length ≤ 3 := by
        unfold markList
        rw [List.length_map]
        exact Nat.le_trans (List.length_filter_le _ _) hB'.nk3
      refine ⟨_, _, _, rfl, rfl, h10, (by rw [List.length_map]; exact small1000 (by omega)), ?_⟩
      refine at_heap (φ := fun H11 => Same H9 H11) (Same.set s10 hp1) ?_
      intro H11 s11
      have ho11 := s11 _ _ ho9
      -- the two lists
      walk_at "ls"
      refine ⟨x, _, _, rfl, ho11, nomk, ?_⟩
      refine ⟨x, _, _, rfl, hbk9.same s11, hB', fun H12 p2 hp2 h12 s12 => ?_⟩
      walk_at "ls"
      refine ⟨x, _, _, rfl, s12 _ _ ho11, nomk, ?_⟩
      refine ⟨x, _, _, rfl, (hbk9.same s11).same s12, hB', fun H13 p3 hp3 h13 s13 => ?_⟩
      refine ⟨(by show 2 ≤ sizeLine; decide), fun l1 hl1 => ?_⟩
      have s14 : Same H13 (upd H13 l1 (.lst [.ref p2, .ref p3])) := same_new hl1
      walk_at "ls"
      refine ⟨(by show 2 ≤ sizeLine; decide), fun l2 hl2 => ?_⟩
      have s15 : Same (upd H13 l1 (.lst [.ref p2, .ref p3])) (upd (upd H13 l1 (.lst [.ref p2, .ref p3])) l2 (.lst [.ref E1, .ref E1])) := same_new hl2
      have nmk : ∀ z ∈ markList ⟨ks, B.cs⟩, Nm z := fun z hz => by
        unfold markList at hz
        obtain ⟨k, hk, rfl⟩ := List.mem_map.mp hz
        exact hB'.nm _ (List.mem_append_left _ (List.mem_map_of_mem (List.mem_filter.mp hk).1))
      have f1 := s15 _ _ (s14 _ _ (s13 _ _ h12))
      have f2 := s15 _ _ (s14 _ _ h13)
      have f3 := s15 _ _ (s14 _ _ (s13 _ _ (s12 _ _ (s11 _ _ h9))))
      have dE : Dp K (upd (upd H13 l1 (.lst [.ref p2, .ref p3])) l2 (.lst [.ref E1, .ref E1])) (.ref E1) (strsD (markList ⟨ks, B.cs⟩)) := .lst (.inl (.inl f3)) (dp_strsAll _)
      refine ⟨l1, l2, pairD (markList ⟨ks, B.cs⟩), rfl, .lst (.inl (.inl (s15 _ _ upd_same))) (.cons (.lst (.inl (.inl f1)) (dp_strsAll _)) (.cons (.lst (.inl (.inl f2)) (dp_strsAll _)) .nil)), .lst (.inl (.inl upd_same)) (.cons dE (.cons dE .nil)), pair_ok nmk (by omega), _, rfl, iteF ?_⟩
      exact ⟨_, _, _, _, rfl, (st8.keep (((((s9.trans s11).trans s12).trans s13).trans s14).trans s15)).mono (by omega)⟩
    · rintro σ H2 ⟨v2, v3, v4, v5, rfl, st2⟩
      walk_at "ls"
      exact q H2
end
end Ls
namespace Ls
open PySem PySem.Spec PyProof.Rows L2
/-! ### what the top has written -/
set_option maxHeartbeats 16000000 in
theorem all_mk {l : PySem.W.OpenLaw} {w : World} {K : PySem.W.Frag} {h : Heap} {mg : Str → Option Value} {fa : Addr} (X : K.In h) (G : h.Ns mainGlobals mg) (hfa : mg "law" = some (.ref fa))
    {f0 : Addr} {oc0 kV0 dc0 pm0 cd0 ct0 : Value} {od0 an0 : Option Addr} {sl0 : Array (Option Value)}
    {f1 : Addr} {oc1 kV1 dc1 pm1 cd1 ct1 : Value} {od1 an1 : Option Addr} {sl1 : Array (Option Value)}
    {f2 : Addr} {oc2 kV2 dc2 pm2 cd2 ct2 : Value} {od2 an2 : Option Addr} {sl2 : Array (Option Value)}
    {f3 : Addr} {oc3 kV3 dc3 pm3 cd3 ct3 : Value} {od3 an3 : Option Addr} {sl3 : Array (Option Value)}
    {f4 : Addr} {oc4 kV4 dc4 pm4 cd4 ct4 : Value} {od4 an4 : Option Addr} {sl4 : Array (Option Value)}
    {f5 : Addr} {oc5 kV5 dc5 pm5 cd5 ct5 : Value} {od5 an5 : Option Addr} {sl5 : Array (Option Value)}
    {f6 : Addr} {oc6 kV6 dc6 pm6 cd6 ct6 : Value} {od6 an6 : Option Addr} {sl6 : Array (Option Value)}
    {f7 : Addr} {oc7 kV7 dc7 pm7 cd7 ct7 : Value} {od7 an7 : Option Addr} {sl7 : Array (Option Value)}
    {f8 : Addr} {oc8 kV8 dc8 pm8 cd8 ct8 : Value} {od8 an8 : Option Addr} {sl8 : Array (Option Value)}
    {f9 : Addr} {oc9 kV9 dc9 pm9 cd9 ct9 : Value} {od9 an9 : Option Addr} {sl9 : Array (Option Value)}
    {f10 : Addr} {oc10 kV10 dc10 pm10 cd10 ct10 : Value} {od10 an10 : Option Addr} {sl10 : Array (Option Value)}
    {f11 : Addr} {oc11 kV11 dc11 pm11 cd11 ct11 : Value} {od11 an11 : Option Addr} {sl11 : Array (Option Value)}
    {f12 : Addr} {oc12 kV12 dc12 pm12 cd12 ct12 : Value} {od12 an12 : Option Addr} {sl12 : Array (Option Value)}
    {f13 : Addr} {oc13 kV13 dc13 pm13 cd13 ct13 : Value} {od13 an13 : Option Addr} {sl13 : Array (Option Value)}
    {f14 : Addr} {oc14 kV14 dc14 pm14 cd14 ct14 : Value} {od14 an14 : Option Addr} {sl14 : Array (Option Value)}
    {f15 : Addr} {oc15 kV15 dc15 pm15 cd15 ct15 : Value} {od15 an15 : Option Addr} {sl15 : Array (Option Value)}
    {f16 : Addr} {oc16 kV16 dc16 pm16 cd16 ct16 : Value} {od16 an16 : Option Addr} {sl16 : Array (Option Value)}
    {C fI fM T : Addr} {ocI kVI dcI pmI cdI ctI ocM kVM dcM pmM cdM ctM : Value} {odI anI odM anM : Option Addr} {slI slM : Array (Option Value)} {e1 e2 : Addr} {nT : Nat}
    {tS tL tN : Tok} {aR aK aB aO : Addr}
    {uR0 uR1 : Tok} {muR : Nat}
    {uO0 uO1 uO2 uO3 uO4 : Tok} {muO : Nat}
    {uK0 uK1 uK2 : Tok} {muK : Nat}
    {uB0 uB1 : Tok} {muB : Nat}
    (a0 : PySem.W.nsIn K mainGlobals "_law_draw" = some (some (.ref f0)))
    (l0 : K.lookup f0 = some ⟨oc0, od0, .func (PySem.W.fnOf "_law_draw" "_law_draw" (defArgs s__law_draw) (defBody s__law_draw) (defScope s__law_draw) .none kV0 dc0 pm0 an0 cd0 ct0), sl0⟩)
    (c0 : PySem.W.codeIn K cd0 "_law_draw" = true)
    (k0 : PySem.W.keepIn K (.ref f0) = true)
    (a1 : PySem.W.nsIn K mainGlobals "_law_pick" = some (some (.ref f1)))
    (l1 : K.lookup f1 = some ⟨oc1, od1, .func (PySem.W.fnOf "_law_pick" "_law_pick" (defArgs s__law_pick) (defBody s__law_pick) (defScope s__law_pick) .none kV1 dc1 pm1 an1 cd1 ct1), sl1⟩)
    (c1 : PySem.W.codeIn K cd1 "_law_pick" = true)
    (k1 : PySem.W.keepIn K (.ref f1) = true)
    (a2 : PySem.W.nsIn K mainGlobals "_law_fresh" = some (some (.ref f2)))
    (l2 : K.lookup f2 = some ⟨oc2, od2, .func (PySem.W.fnOf "_law_fresh" "_law_fresh" (defArgs s__law_fresh) (defBody s__law_fresh) (defScope s__law_fresh) .none kV2 dc2 pm2 an2 cd2 ct2), sl2⟩)
    (c2 : PySem.W.codeIn K cd2 "_law_fresh" = true)
    (k2 : PySem.W.keepIn K (.ref f2) = true)
    (a3 : PySem.W.nsIn K mainGlobals "_law_names" = some (some (.ref f3)))
    (l3 : K.lookup f3 = some ⟨oc3, od3, .func (PySem.W.fnOf "_law_names" "_law_names" (defArgs s__law_names) (defBody s__law_names) (defScope s__law_names) .none kV3 dc3 pm3 an3 cd3 ct3), sl3⟩)
    (c3 : PySem.W.codeIn K cd3 "_law_names" = true)
    (k3 : PySem.W.keepIn K (.ref f3) = true)
    (a4 : PySem.W.nsIn K mainGlobals "_law_shape" = some (some (.ref f4)))
    (l4 : K.lookup f4 = some ⟨oc4, od4, .func (PySem.W.fnOf "_law_shape" "_law_shape" (defArgs s__law_shape) (defBody s__law_shape) (defScope s__law_shape) .none kV4 dc4 pm4 an4 cd4 ct4), sl4⟩)
    (c4 : PySem.W.codeIn K cd4 "_law_shape" = true)
    (k4 : PySem.W.keepIn K (.ref f4) = true)
    (a5 : PySem.W.nsIn K mainGlobals "_law_all_checks" = some (some (.ref f5)))
    (l5 : K.lookup f5 = some ⟨oc5, od5, .func (PySem.W.fnOf "_law_all_checks" "_law_all_checks" (defArgs s__law_all_checks) (defBody s__law_all_checks) (defScope s__law_all_checks) .none kV5 dc5 pm5 an5 cd5 ct5), sl5⟩)
    (c5 : PySem.W.codeIn K cd5 "_law_all_checks" = true)
    (k5 : PySem.W.keepIn K (.ref f5) = true)
    (a6 : PySem.W.nsIn K mainGlobals "_law_checked" = some (some (.ref f6)))
    (l6 : K.lookup f6 = some ⟨oc6, od6, .func (PySem.W.fnOf "_law_checked" "_law_checked" (defArgs s__law_checked) (defBody s__law_checked) (defScope s__law_checked) .none kV6 dc6 pm6 an6 cd6 ct6), sl6⟩)
    (c6 : PySem.W.codeIn K cd6 "_law_checked" = true)
    (k6 : PySem.W.keepIn K (.ref f6) = true)
    (a7 : PySem.W.nsIn K mainGlobals "_law_comes" = some (some (.ref f7)))
    (l7 : K.lookup f7 = some ⟨oc7, od7, .func (PySem.W.fnOf "_law_comes" "_law_comes" (defArgs s__law_comes) (defBody s__law_comes) (defScope s__law_comes) .none kV7 dc7 pm7 an7 cd7 ct7), sl7⟩)
    (c7 : PySem.W.codeIn K cd7 "_law_comes" = true)
    (k7 : PySem.W.keepIn K (.ref f7) = true)
    (a8 : PySem.W.nsIn K mainGlobals "_law_same" = some (some (.ref f8)))
    (l8 : K.lookup f8 = some ⟨oc8, od8, .func (PySem.W.fnOf "_law_same" "_law_same" (defArgs s__law_same) (defBody s__law_same) (defScope s__law_same) .none kV8 dc8 pm8 an8 cd8 ct8), sl8⟩)
    (c8 : PySem.W.codeIn K cd8 "_law_same" = true)
    (k8 : PySem.W.keepIn K (.ref f8) = true)
    (a9 : PySem.W.nsIn K mainGlobals "law" = some (some (.ref f9)))
    (l9 : K.lookup f9 = some ⟨oc9, od9, .func (PySem.W.fnOf "law" "law" (defArgs s_law) (defBody s_law) (defScope s_law) .none kV9 dc9 pm9 an9 cd9 ct9), sl9⟩)
    (c9 : PySem.W.codeIn K cd9 "law" = true)
    (k9 : PySem.W.keepIn K (.ref f9) = true)
    (a10 : PySem.W.nsIn K mainGlobals "is_name" = some (some (.ref f10)))
    (l10 : K.lookup f10 = some ⟨oc10, od10, .func (PySem.W.fnOf "is_name" "is_name" (defArgs s_is_name) (defBody s_is_name) (defScope s_is_name) .none kV10 dc10 pm10 an10 cd10 ct10), sl10⟩)
    (c10 : PySem.W.codeIn K cd10 "is_name" = true)
    (k10 : PySem.W.keepIn K (.ref f10) = true)
    (a11 : PySem.W.nsIn K mainGlobals "is_word_of" = some (some (.ref f11)))
    (l11 : K.lookup f11 = some ⟨oc11, od11, .func (PySem.W.fnOf "is_word_of" "is_word_of" (defArgs s_is_word_of) (defBody s_is_word_of) (defScope s_is_word_of) .none kV11 dc11 pm11 an11 cd11 ct11), sl11⟩)
    (c11 : PySem.W.codeIn K cd11 "is_word_of" = true)
    (k11 : PySem.W.keepIn K (.ref f11) = true)
    (a12 : PySem.W.nsIn K mainGlobals "_want_free_name" = some (some (.ref f12)))
    (l12 : K.lookup f12 = some ⟨oc12, od12, .func (PySem.W.fnOf "_want_free_name" "_want_free_name" (defArgs s__want_free_name) (defBody s__want_free_name) (defScope s__want_free_name) .none kV12 dc12 pm12 an12 cd12 ct12), sl12⟩)
    (c12 : PySem.W.codeIn K cd12 "_want_free_name" = true)
    (k12 : PySem.W.keepIn K (.ref f12) = true)
    (a13 : PySem.W.nsIn K mainGlobals "_read_kinds" = some (some (.ref f13)))
    (l13 : K.lookup f13 = some ⟨oc13, od13, .func (PySem.W.fnOf "_read_kinds" "_read_kinds" (defArgs s__read_kinds) (defBody s__read_kinds) (defScope s__read_kinds) .none kV13 dc13 pm13 an13 cd13 ct13), sl13⟩)
    (c13 : PySem.W.codeIn K cd13 "_read_kinds" = true)
    (k13 : PySem.W.keepIn K (.ref f13) = true)
    (a14 : PySem.W.nsIn K mainGlobals "_read_columns" = some (some (.ref f14)))
    (l14 : K.lookup f14 = some ⟨oc14, od14, .func (PySem.W.fnOf "_read_columns" "_read_columns" (defArgs s__read_columns) (defBody s__read_columns) (defScope s__read_columns) .none kV14 dc14 pm14 an14 cd14 ct14), sl14⟩)
    (c14 : PySem.W.codeIn K cd14 "_read_columns" = true)
    (k14 : PySem.W.keepIn K (.ref f14) = true)
    (a15 : PySem.W.nsIn K mainGlobals "_menu_of" = some (some (.ref f15)))
    (l15 : K.lookup f15 = some ⟨oc15, od15, .func (PySem.W.fnOf "_menu_of" "_menu_of" (defArgs s__menu_of) (defBody s__menu_of) (defScope s__menu_of) .none kV15 dc15 pm15 an15 cd15 ct15), sl15⟩)
    (c15 : PySem.W.codeIn K cd15 "_menu_of" = true)
    (k15 : PySem.W.keepIn K (.ref f15) = true)
    (a16 : PySem.W.nsIn K mainGlobals "_read_checks" = some (some (.ref f16)))
    (l16 : K.lookup f16 = some ⟨oc16, od16, .func (PySem.W.fnOf "_read_checks" "_read_checks" (defArgs s__read_checks) (defBody s__read_checks) (defScope s__read_checks) .none kV16 dc16 pm16 an16 cd16 ct16), sl16⟩)
    (c16 : PySem.W.codeIn K cd16 "_read_checks" = true)
    (k16 : PySem.W.keepIn K (.ref f16) = true)
    (aC : PySem.W.nsIn K mainGlobals "Book" = some (some (.ref C)))
    (aI : PySem.W.findIn K (.ref C) "__init__" = some (some (.ref fI)))
    (iI : PySem.W.isFn K (.ref fI) = true)
    (lI : K.lookup fI = some ⟨ocI, odI, .func (PySem.W.fnOf "__init__" "Book.__init__" (defArgs s_Book_init) (defBody s_Book_init) (defScope s_Book_init) (.ref T) kVI dcI pmI anI cdI ctI), slI⟩)
    (cI : PySem.W.codeIn K cdI "Book.__init__" = true)
    (kI : PySem.W.keepIn K (.ref fI) = true)
    (lT : K.lookup T = some { cls := .type "tuple", dict := none, data := .seq #[.ref e1, .ref e2] nT, slots := #[] })
    (aM : PySem.W.findIn K (.ref C) "markable" = some (some (.ref fM)))
    (iM : PySem.W.isFn K (.ref fM) = true)
    (lM : K.lookup fM = some ⟨ocM, odM, .func (PySem.W.fnOf "markable" "Book.markable" (defArgs s_Book_markable) (defBody s_Book_markable) (defScope s_Book_markable) .none kVM dcM pmM anM cdM ctM), slM⟩)
    (cM : PySem.W.codeIn K cdM "Book.markable" = true)
    (kM : PySem.W.keepIn K (.ref fM) = true)
    (pg : PySem.W.plainGet K C Str.empty = true)
    (hd : PySem.W.hasDictIn K C = true)
    (po : PySem.W.plainOver K C = true)
    (sa : PySem.W.findIn K (.ref C) "__setattr__" = some (some (.builtin "object.__setattr__")))
    (mk : PySem.W.makesIn K C = true)
    (kc : PySem.W.keepIn K (.ref C) = true)
    (n1 : PySem.W.findIn K (.ref C) "_kinds" = some none)
    (n2 : PySem.W.findIn K (.ref C) "_columns" = some none)
    (n3 : PySem.W.findIn K (.ref C) "_menu" = some none)
    (n4 : PySem.W.findIn K (.ref C) "_checks" = some none)
    (z_int : PySem.W.nsIn K mainGlobals "int" = some none)
    (z_len : PySem.W.nsIn K mainGlobals "len" = some none)
    (z_range : PySem.W.nsIn K mainGlobals "range" = some none)
    (z_list : PySem.W.nsIn K mainGlobals "list" = some none)
    (z_tuple : PySem.W.nsIn K mainGlobals "tuple" = some none)
    (z_dict : PySem.W.nsIn K mainGlobals "dict" = some none)
    (z_isinstance : PySem.W.nsIn K mainGlobals "isinstance" = some none)
    (z_all : PySem.W.nsIn K mainGlobals "all" = some none)
    (z_any : PySem.W.nsIn K mainGlobals "any" = some none)
    (z_repr : PySem.W.nsIn K mainGlobals "repr" = some none)
    (z_str : PySem.W.nsIn K mainGlobals "str" = some none)
    (gS : PySem.W.nsIn K mainGlobals "STRIKE" = some (some (.str "strike" tS)))
    (gL : PySem.W.nsIn K mainGlobals "LETTERS" = some (some (.str "abcdefghijklmnopqrstuvwxyz" tL)))
    (gN : PySem.W.nsIn K mainGlobals "LONGEST_NAME" = some (some (.int 8 tN)))
    (gR : PySem.W.nsIn K mainGlobals "RULES" = some (some (.ref aR)))
    (gO : PySem.W.nsIn K mainGlobals "COLUMN_CHECKS" = some (some (.ref aO)))
    (gK : PySem.W.nsIn K mainGlobals "KIND_CHECKS" = some (some (.ref aK)))
    (gB : PySem.W.nsIn K mainGlobals "BOOK_CHECKS" = some (some (.ref aB)))
    (tuR : K.lookup aR = some { cls := .type "tuple", dict := none, data := .seq #[.str "fall" uR0, .str "clear" uR1] muR, slots := #[] })
    (tuO : K.lookup aO = some { cls := .type "tuple", dict := none, data := .seq #[.str "put" uO0, .str "turn" uO1, .str "keep" uO2, .str "hold" uO3, .str "again" uO4] muO, slots := #[] })
    (tuK : K.lookup aK = some { cls := .type "tuple", dict := none, data := .seq #[.str "bare" uK0, .str "calm" uK1, .str "again" uK2] muK, slots := #[] })
    (tuB : K.lookup aB = some { cls := .type "tuple", dict := none, data := .seq #[.str "lone" uB0, .str "fresh" uB1] muB, slots := #[] }) :
    ∃ fd : FuncData, (∀ (s : Shared) (v : Value), BindsTo s fd ⟨[v], []⟩ [("_law_script", v)]) ∧ ∀ base : Heap, K.In base → base.Ns mainGlobals mg → FnG l.prog w K mg base CX0 6 fa fd ["_law_script"] (spLaw K) := by
  have e := hfa.symm.trans (PySem.W.mg_of X G a9)
  cases e
  have F0 := fun_mk (st := s__law_draw) l0 c0 k0
  have b0 := F0.binds (ps := ["_law_stream", "_law_many"]) fun _ _ _ _ _ _ us hl => match us, hl with | [_, _], _ => rfl
  have F1 := fun_mk (st := s__law_pick) l1 c1 k1
  have b1 := F1.binds (ps := ["_law_stream", "_law_things"]) fun _ _ _ _ _ _ us hl => match us, hl with | [_, _], _ => rfl
  have F2 := fun_mk (st := s__law_fresh) l2 c2 k2
  have b2 := F2.binds (ps := ["_law_stream", "_law_taken"]) fun _ _ _ _ _ _ us hl => match us, hl with | [_, _], _ => rfl
  have F3 := fun_mk (st := s__law_names) l3 c3 k3
  have b3 := F3.binds (ps := ["_law_stream", "_law_many"]) fun _ _ _ _ _ _ us hl => match us, hl with | [_, _], _ => rfl
  have F4 := fun_mk (st := s__law_shape) l4 c4 k4
  have b4 := F4.binds (ps := ["_law_stream", "_law_many", "_law_most"]) fun _ _ _ _ _ _ us hl => match us, hl with | [_, _, _], _ => rfl
  have F5 := fun_mk (st := s__law_all_checks) l5 c5 k5
  have b5 := F5.binds (ps := ["_law_b"]) fun _ _ _ _ _ _ us hl => match us, hl with | [_], _ => rfl
  have F6 := fun_mk (st := s__law_checked) l6 c6 k6
  have b6 := F6.binds (ps := ["_law_stream", "_law_b"]) fun _ _ _ _ _ _ us hl => match us, hl with | [_, _], _ => rfl
  have F7 := fun_mk (st := s__law_comes) l7 c7 k7
  have b7 := F7.binds (ps := ["_law_b", "_law_kind", "_law_left"]) fun _ _ _ _ _ _ us hl => match us, hl with | [_, _, _], _ => rfl
  have F8 := fun_mk (st := s__law_same) l8 c8 k8
  have b8 := F8.binds (ps := ["_law_found", "_law_due"]) fun _ _ _ _ _ _ us hl => match us, hl with | [_, _], _ => rfl
  have F9 := fun_mk (st := s_law) l9 c9 k9
  have b9 := F9.binds (ps := ["_law_script"]) fun _ _ _ _ _ _ us hl => match us, hl with | [_], _ => rfl
  have F10 := fun_mk (st := s_is_name) l10 c10 k10
  have b10 := F10.binds (ps := ["thing"]) fun _ _ _ _ _ _ us hl => match us, hl with | [_], _ => rfl
  have F11 := fun_mk (st := s_is_word_of) l11 c11 k11
  have b11 := F11.binds (ps := ["thing", "words"]) fun _ _ _ _ _ _ us hl => match us, hl with | [_, _], _ => rfl
  have F12 := fun_mk (st := s__want_free_name) l12 c12 k12
  have b12 := F12.binds (ps := ["name", "taken"]) fun _ _ _ _ _ _ us hl => match us, hl with | [_, _], _ => rfl
  have F13 := fun_mk (st := s__read_kinds) l13 c13 k13
  have b13 := F13.binds (ps := ["kinds"]) fun _ _ _ _ _ _ us hl => match us, hl with | [_], _ => rfl
  have F14 := fun_mk (st := s__read_columns) l14 c14 k14
  have b14 := F14.binds (ps := ["columns", "kinds"]) fun _ _ _ _ _ _ us hl => match us, hl with | [_, _], _ => rfl
  have F15 := fun_mk (st := s__menu_of) l15 c15 k15
  have b15 := F15.binds (ps := ["kinds", "columns"]) fun _ _ _ _ _ _ us hl => match us, hl with | [_, _], _ => rfl
  have F16 := fun_mk (st := s__read_checks) l16 c16 k16
  have b16 := F16.binds (ps := ["checks", "menu"]) fun _ _ _ _ _ _ us hl => match us, hl with | [_, _], _ => rfl
  have TT : Bt mg := ⟨PySem.W.mg_none_of X G z_int, PySem.W.mg_none_of X G z_len, PySem.W.mg_none_of X G z_range, PySem.W.mg_none_of X G z_list, PySem.W.mg_none_of X G z_tuple, PySem.W.mg_none_of X G z_dict, PySem.W.mg_none_of X G z_isinstance, PySem.W.mg_none_of X G z_all, PySem.W.mg_none_of X G z_any, PySem.W.mg_none_of X G z_repr, PySem.W.mg_none_of X G z_str⟩
  have GG : Gn K mg aR aO aK aB tS tL tN := ⟨PySem.W.mg_of X G gS, PySem.W.mg_of X G gL, PySem.W.mg_of X G gN, PySem.W.mg_of X G gR, PySem.W.mg_of X G gO, PySem.W.mg_of X G gK, PySem.W.mg_of X G gB, ⟨_, _, tuR, (by show 2 ≤ sizeLine; decide), .cons ⟨_, rfl⟩ (.cons ⟨_, rfl⟩ (.nil))⟩, ⟨_, _, tuO, (by show 5 ≤ sizeLine; decide), .cons ⟨_, rfl⟩ (.cons ⟨_, rfl⟩ (.cons ⟨_, rfl⟩ (.cons ⟨_, rfl⟩ (.cons ⟨_, rfl⟩ (.nil)))))⟩, ⟨_, _, tuK, (by show 3 ≤ sizeLine; decide), .cons ⟨_, rfl⟩ (.cons ⟨_, rfl⟩ (.cons ⟨_, rfl⟩ (.nil)))⟩, ⟨_, _, tuB, (by show 2 ≤ sizeLine; decide), .cons ⟨_, rfl⟩ (.cons ⟨_, rfl⟩ (.nil))⟩⟩
  have TB : BkT K C := ⟨⟨pg, hd, po, sa⟩, n1, n2, n3, n4⟩
  have FI := FunE.mk2 (st := s_Book_init) lI cI
  have FD : FunD K "__init__" "Book.__init__" (defArgs s_Book_init) (defBody s_Book_init) (defScope s_Book_init) [V.ref e1, V.ref e2] [] fI (PySem.W.fnOf "__init__" "Book.__init__" (defArgs s_Book_init) (defBody s_Book_init) (defScope s_Book_init) (.ref T) kVI dcI pmI anI cdI ctI) := ⟨⟨_, _, _, _, _, _, _, _, _, _, rfl, lI, cI, .inr ⟨by simp, T, _, [.ref e1, .ref e2], nT, rfl, lT, rfl, .cons rfl (.cons rfl .nil)⟩, .inl rfl⟩, kI⟩
  have bI : Binds K (PySem.W.fnOf "__init__" "Book.__init__" (defArgs s_Book_init) (defBody s_Book_init) (defScope s_Book_init) (.ref T) kVI dcI pmI anI cdI ctI) ["self", "kinds", "columns", "checks"] [] := by
    obtain ⟨ds, r, b⟩ := FD.binds1 (ps := ["self", "kinds", "columns", "checks"]) 4 2 (by simp) rfl fun _ _ _ _ _ _ _ us its hl hl2 => match us, its, hl, hl2 with | [_, _, _, _], [_, _], _, _ => ⟨_, rfl, rfl⟩
    have e : ds = [] := by cases r; rfl
    rw [e] at b
    exact b
  have FM := fun_mk (st := s_Book_markable) lM cM kM
  have bM := FM.binds (ps := ["self"]) fun _ _ _ _ _ _ us hl => match us, hl with | [_], _ => rfl
  refine ⟨PySem.W.fnOf "law" "law" (defArgs s_law) (defBody s_law) (defScope s_law) .none kV9 dc9 pm9 an9 cd9 ct9, fun s v => .of_eq rfl, fun base _ _ => ?_⟩
  have O__law_draw : Own l.prog w K mg base CX0 1 "_law_draw" ["_law_stream", "_law_many"] spDraw := ⟨f0, _, ok_draw F0 TT, PySem.W.mg_of X G a0, k0, b0⟩
  have O__law_pick : Own l.prog w K mg base CX0 2 "_law_pick" ["_law_stream", "_law_things"] (spPick K) := ⟨f1, _, ok_pick F1 TT O__law_draw, PySem.W.mg_of X G a1, k1, b1⟩
  have O__law_fresh : Own l.prog w K mg base CX0 2 "_law_fresh" ["_law_stream", "_law_taken"] spFresh := ⟨f2, _, ok_fresh F2 TT O__law_draw, PySem.W.mg_of X G a2, k2, b2⟩
  have O__law_names : Own l.prog w K mg base CX0 3 "_law_names" ["_law_stream", "_law_many"] spNames := ⟨f3, _, ok_names F3 TT O__law_fresh, PySem.W.mg_of X G a3, k3, b3⟩
  have O__law_shape : Own l.prog w K mg base CX0 4 "_law_shape" ["_law_stream", "_law_many", "_law_most"] spShape := ⟨f4, _, ok_shape F4 TT O__law_draw O__law_pick O__law_names, PySem.W.mg_of X G a4, k4, b4⟩
  have O__law_all_checks : Own l.prog w K mg base CX0 1 "_law_all_checks" ["_law_b"] spAll := ⟨f5, _, ok_all F5 TT, PySem.W.mg_of X G a5, k5, b5⟩
  have O__law_checked : Own l.prog w K mg base CX0 2 "_law_checked" ["_law_stream", "_law_b"] spChecked := ⟨f6, _, ok_checked F6 TT O__law_draw O__law_all_checks, PySem.W.mg_of X G a6, k6, b6⟩
  have O__law_comes : Own l.prog w K mg base CX0 4 "_law_comes" ["_law_b", "_law_kind", "_law_left"] (spComes 4) := ⟨f7, _, ok_comes F7 TT (PySem.W.mg_of X G a7) b7 4, PySem.W.mg_of X G a7, k7, b7⟩
  have O__law_same : OwnG l.prog w K mg base CX0 1 "_law_same" ["_law_found", "_law_due"] (spSame K) := ⟨f8, _, ok_same F8 TT, PySem.W.mg_of X G a8, k8, b8⟩
  have O_is_name : Own l.prog w K mg base CX0 1 "is_name" ["thing"] spIsName := ⟨f10, _, ok_is_name F10 TT GG, PySem.W.mg_of X G a10, k10, b10⟩
  have O_is_word_of : Own l.prog w K mg base CX0 1 "is_word_of" ["thing", "words"] (spWord K) := ⟨f11, _, ok_word F11 TT, PySem.W.mg_of X G a11, k11, b11⟩
  have O_free : Own l.prog w K mg base CX0 2 "_want_free_name" ["name", "taken"] (spFree K) := ⟨f12, _, ok_free F12 O_is_name, PySem.W.mg_of X G a12, k12, b12⟩
  have O_rk : Own l.prog w K mg base CX0 3 "_read_kinds" ["kinds"] (spReadK K) := ⟨f13, _, ok_readK F13 TT O_free, PySem.W.mg_of X G a13, k13, b13⟩
  have O_rc : Own l.prog w K mg base CX0 3 "_read_columns" ["columns", "kinds"] (spReadC K) := ⟨f14, _, ok_readC F14 TT GG O_free O_is_word_of, PySem.W.mg_of X G a14, k14, b14⟩
  have O_mn : Own l.prog w K mg base CX0 1 "_menu_of" ["kinds", "columns"] spMenu := ⟨f15, _, ok_menu F15 TT GG, PySem.W.mg_of X G a15, k15, b15⟩
  have O_rx : Own l.prog w K mg base CX0 2 "_read_checks" ["checks", "menu"] (spReadX K) := ⟨f16, _, ok_readX F16 TT O_is_word_of, PySem.W.mg_of X G a16, k16, b16⟩
  have O_Book : OwnC l.prog w K mg base CX0 4 C "Book" ["self", "kinds", "columns", "checks"] (spInit K C) := ⟨fI, _, ok_init FI TB O_rk O_rc O_mn O_rx, PySem.W.mg_of X G aC, ⟨mk, aI, iI, kc⟩, bI⟩
  have O_mk : OwnM l.prog w K mg base CX0 1 C "markable" ["self"] (spMark C) := ⟨TB.cl, fM, _, ok_mark FM TB, ⟨aM, iM, kM⟩, bM⟩
  exact ok_law F9 TT TB O__law_draw O__law_shape O_Book O__law_checked O__law_comes O_mk O__law_same
end Ls
open PySem PySem.W PyProof.Rows
set_option maxRecDepth 100000 in
set_option maxHeartbeats 0 in
theorem PySem.Challenge.cw_longstrike_k05_markable_kinds_holds : PySem.Challenge.rw_longstrike_k05_markable_kinds.Holds := by
  w_on; o_law; k_head; (case hw => w_witness2)
  k_fill
  refine Ls.walk_ofG (l := PySem.Challenge.rw_longstrike_k05_markable_kinds) (n := 63) (k := 6) (x := "_law_script") (sp := fun w => Ls.spLaw _) rfl (by decide) rfl ⟨rfl, by decide, by decide⟩ (fun w h Y => PySem.W.kIn_of Y) ?F (fun _ _ a ns hl hS => ⟨a, ns, rfl, hS, hl, fun _ => rfl⟩)
  case F =>
    intro w mg fa h KX G hmg
    refine' Ls.all_mk KX G hmg ?a0 ?l0 ?c0 ?k0 ?a1 ?l1 ?c1 ?k1 ?a2 ?l2 ?c2 ?k2 ?a3 ?l3 ?c3 ?k3 ?a4 ?l4 ?c4 ?k4 ?a5 ?l5 ?c5 ?k5 ?a6 ?l6 ?c6 ?k6 ?a7 ?l7 ?c7 ?k7 ?a8 ?l8 ?c8 ?k8 ?a9 ?l9 ?c9 ?k9 ?a10 ?l10 ?c10 ?k10 ?a11 ?l11 ?c11 ?k11 ?a12 ?l12 ?c12 ?k12 ?a13 ?l13 ?c13 ?k13 ?a14 ?l14 ?c14 ?k14 ?a15 ?l15 ?c15 ?k15 ?a16 ?l16 ?c16 ?k16 ?aC ?aI ?iI ?lI ?cI ?kI ?lT ?aM ?iM ?lM ?cM ?kM ?pg ?hd ?po ?sa ?mk ?kc ?n1 ?n2 ?n3 ?n4 ?z_int ?z_len ?z_range ?z_list ?z_tuple ?z_dict ?z_isinstance ?z_all ?z_any ?z_repr ?z_str ?gS ?gL ?gN ?gR ?gO ?gK ?gB ?tuR ?tuO ?tuK ?tuB
    (case a0 => k_is)
    (case l0 => k_is)
    (case c0 => k_is)
    (case k0 => k_is)
    (case a1 => k_is)
    (case l1 => k_is)
    (case c1 => k_is)
    (case k1 => k_is)
    (case a2 => k_is)
    (case l2 => k_is)
    (case c2 => k_is)
    (case k2 => k_is)
    (case a3 => k_is)
    (case l3 => k_is)
    (case c3 => k_is)
    (case k3 => k_is)
    (case a4 => k_is)
    (case l4 => k_is)
    (case c4 => k_is)
    (case k4 => k_is)
    (case a5 => k_is)
    (case l5 => k_is)
    (case c5 => k_is)
    (case k5 => k_is)
    (case a6 => k_is)
    (case l6 => k_is)
    (case c6 => k_is)
    (case k6 => k_is)
    (case a7 => k_is)
    (case l7 => k_is)
    (case c7 => k_is)
    (case k7 => k_is)
    (case a8 => k_is)
    (case l8 => k_is)
    (case c8 => k_is)
    (case k8 => k_is)
    (case a9 => k_is)
    (case l9 => k_is)
    (case c9 => k_is)
    (case k9 => k_is)
    (case a10 => k_is)
    (case l10 => k_is)
    (case c10 => k_is)
    (case k10 => k_is)
    (case a11 => k_is)
    (case l11 => k_is)
    (case c11 => k_is)
    (case k11 => k_is)
    (case a12 => k_is)
    (case l12 => k_is)
    (case c12 => k_is)
    (case k12 => k_is)
    (case a13 => k_is)
    (case l13 => k_is)
    (case c13 => k_is)
    (case k13 => k_is)
    (case a14 => k_is)
    (case l14 => k_is)
    (case c14 => k_is)
    (case k14 => k_is)
    (case a15 => k_is)
    (case l15 => k_is)
    (case c15 => k_is)
    (case k15 => k_is)
    (case a16 => k_is)
    (case l16 => k_is)
    (case c16 => k_is)
    (case k16 => k_is)
    (case aC => k_is)
    (case aI => k_is)
    (case iI => k_is)
    (case lI => k_is)
    (case cI => k_is)
    (case kI => k_is)
    (case lT => k_is)
    (case aM => k_is)
    (case iM => k_is)
    (case lM => k_is)
    (case cM => k_is)
    (case kM => k_is)
    (case pg => k_is)
    (case hd => k_is)
    (case po => k_is)
    (case sa => k_is)
    (case mk => k_is)
    (case kc => k_is)
    (case n1 => k_is)
    (case n2 => k_is)
    (case n3 => k_is)
    (case n4 => k_is)
    (case z_int => k_is)
    (case z_len => k_is)
    (case z_range => k_is)
    (case z_list => k_is)
    (case z_tuple => k_is)
    (case z_dict => k_is)
    (case z_isinstance => k_is)
    (case z_all => k_is)
    (case z_any => k_is)
    (case z_repr => k_is)
    (case z_str => k_is)
    (case gS => k_is)
    (case gL => k_is)
    (case gN => k_is)
    (case gR => k_is)
    (case gO => k_is)
    (case gK => k_is)
    (case gB => k_is)
    (case tuR => k_is)
    (case tuO => k_is)
    (case tuK => k_is)
    (case tuB => k_is)

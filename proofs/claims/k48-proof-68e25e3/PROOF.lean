import PyProof.Rows.All
import Wide.All
import OpenK.AllK
import Wide.FinOn
import HandS.Base
import HandS.Call
import HandS.HeadHook1
import HandS.HeadHook2
import HandS.ForMost
import HandS.Wide
import HandS.DictComp
import HandS.Codes
import HandS.IsInst
import HandS.Conv
import HandS.Walk
import HandS.Defaults
import HandS.Dict
import HandS.Nested
import HandS.ExcInit
import HandS.ExcField
import HandS.MakeKw
import KE.KSuper
import KE.KExcSuper
import HandS.ExcOwn
import HandS.TryOnly
import HandS.TryMany
import HandS.WordsExc
import HandS.NoneIn
import HandS.ListItems
import HandS.List
import HandS.Set
import HandS.Strs
import HandS.TupSets
import HandS.Flow
import KE.KStateDown
import HandS.Head0
import HandS.Head1
import HandS.Head2
import HandS.HeadEnd
import PySem.Challenge.RW_longstrike_k48_rank_papers
set_option Elab.async false
set_option linter.all false
set_option maxRecDepth 100000
set_option maxHeartbeats 4000000
set_option exponentiation.threshold 20000
/-! facts of a top that is run in the kernel: every def by what it is made of, all the rest by one Bool -/
namespace Ls
open PySem PySem.Spec PyProof.Rows L2
abbrev FdW : Type := Str × Str × Arguments × FuncBody × Scope × Addr × List Str × Addr
structure WD where
  at_ : Str × Option Str
  name : Str
  qual : Str
  params : Arguments
  body : List Stmt
  scope : Scope
  cl : List Str
def WD.val (d : WD) : Option FdW := some (d.name, d.qual, d.params, .stmts d.body, d.scope, mainGlobals, d.cl, builtinsNs)
def fdAt (K : PySem.W.Frag) (p : Str × Option Str) : Option FuncData := match K.lookup (He.fAd K p) with
  | some ⟨_, _, .func fd, _⟩ => some fd
  | _ => none
def wOf (K : PySem.W.Frag) (p : Str × Option Str) : Option FdW := match fdAt K p with
  | some fd => some (fd.name, fd.qualname, fd.params, fd.body, fd.scope, fd.globals, fd.closure.map (·.1), fd.builtins)
  | none => none
theorem fdAt_ok {K : PySem.W.Frag} {p : Str × Option Str} {fd : FuncData} (h : fdAt K p = some fd) : ∃ oc od sl, K.lookup (He.fAd K p) = some ⟨oc, od, .func fd, sl⟩ := by
  unfold fdAt at h
  cases q : K.lookup (He.fAd K p) with
  | none =>
    rw [q] at h
    cases h
  | some o =>
    obtain ⟨oc, od, dt, sl⟩ := o
    rw [q] at h
    cases dt with
    | func f =>
      have e : f = fd := Option.some.inj h
      rw [e]
      exact ⟨oc, od, sl, rfl⟩
    | _ => cases h
theorem wd_ok {K : PySem.W.Frag} {d : WD} (h : wOf K d.at_ = d.val) : ∃ (fd : FuncData) (oc : Value) (od : Option Addr) (sl : Array (Option Value)), fdAt K d.at_ = some fd ∧ K.lookup (He.fAd K d.at_) = some ⟨oc, od, .func fd, sl⟩ ∧
    fd = PySem.W.fnX d.name d.qual d.params d.body d.scope fd.closure fd.defaults fd.kwdefaults fd.doc fd.pyModule fd.annotations fd.code fd.closureTuple ∧ fd.closure.map (·.1) = d.cl := by
  unfold wOf WD.val at h
  cases q : fdAt K d.at_ with
  | none =>
    rw [q] at h
    cases h
  | some fd =>
    rw [q] at h
    obtain ⟨oc, od, sl, l⟩ := fdAt_ok q
    obtain ⟨n1, n2, n3, n4, n5, n6, n7, n8, n9, n10, n11, n12, n13, n14, n15⟩ := fd
    simp only [Option.some.injEq, Prod.mk.injEq] at h
    obtain ⟨h1, h2, h3, h4, h5, h6, h7, h8⟩ := h
    subst h1 h2 h3 h4 h5 h6 h8
    exact ⟨_, oc, od, sl, rfl, l, rfl, h7⟩
/-- a def without defaults -/
def plB (K : PySem.W.Frag) (p : Str × Option Str) (q : Str) : Bool := match fdAt K p with
  | some fd => (match fd.defaults with
    | .none => PySem.W.codeIn K fd.code q
    | _ => false) && PySem.W.keepIn K (.ref (He.fAd K p))
  | none => false
theorem pl_ok {K : PySem.W.Frag} {d : WD} (h : wOf K d.at_ = d.val) (hc : d.cl = []) (b : plB K d.at_ d.qual = true) : ∃ (oc : Value) (od : Option Addr) (kV dc pm : Value) (an : Option Addr) (cd ct : Value) (sl : Array (Option Value)),
    K.lookup (He.fAd K d.at_) = some ⟨oc, od, .func (PySem.W.fnOf d.name d.qual d.params d.body d.scope .none kV dc pm an cd ct), sl⟩ ∧ PySem.W.codeIn K cd d.qual = true ∧ PySem.W.keepIn K (.ref (He.fAd K d.at_)) = true := by
  obtain ⟨fd, oc, od, sl, q, l, e, c⟩ := wd_ok h
  unfold plB at b
  rw [q] at b
  obtain ⟨b1, b2⟩ := He.ba b
  have hcl : fd.closure = [] := List.map_eq_nil_iff.mp (c.trans hc)
  cases hd : fd.defaults with
  | none =>
    rw [hd] at b1
    rw [hcl, hd] at e
    rw [e] at l
    exact ⟨oc, od, _, _, _, _, _, _, sl, l, b1, b2⟩
  | _ => rw [hd] at b1; cases b1
/-- an own error's maker: one cell, no defaults -/
def erB (K : PySem.W.Frag) (p : Str × Option Str) (q : Str) : Bool := match fdAt K p with
  | some fd => (match fd.defaults, fd.kwdefaults, fd.annotations, fd.code with
    | .none, .none, none, .ref cda => PySem.W.codeIn K (.ref cda) q
    | _, _, _, _ => false)
  | none => false
def cellOf (K : PySem.W.Frag) (p : Str × Option Str) : Addr := match fdAt K p with
  | some fd => (match fd.closure with
    | [(_, a)] => a
    | _ => 0)
  | none => 0
def codeAd (K : PySem.W.Frag) (p : Str × Option Str) : Addr := match fdAt K p with
  | some fd => (match fd.code with
    | .ref a => a
    | _ => 0)
  | none => 0
theorem er_ok {K : PySem.W.Frag} {d : WD} (h : wOf K d.at_ = d.val) (hc : d.cl = (["__class__"] : List Str)) (b : erB K d.at_ d.qual = true) : ∃ (oc : Value) (od : Option Addr) (dc pm ct : Value) (sl : Array (Option Value)),
    K.lookup (He.fAd K d.at_) = some ⟨oc, od, .func (PySem.W.fnX d.name d.qual d.params d.body d.scope [("__class__", cellOf K d.at_)] .none .none dc pm none (.ref (codeAd K d.at_)) ct), sl⟩ ∧ PySem.W.codeIn K (.ref (codeAd K d.at_)) d.qual = true := by
  obtain ⟨fd, oc, od, sl, q, l, e, c⟩ := wd_ok h
  unfold erB at b
  rw [q] at b
  rw [hc] at c
  have e1 : ∃ a : Addr, fd.closure = ([("__class__", a)] : List (Str × Addr)) := by
    cases hq : fd.closure with
    | nil => rw [hq] at c; cases c
    | cons z r =>
      rw [hq, List.map_cons] at c
      obtain ⟨c1, c2⟩ := List.cons.inj c
      rw [List.map_eq_nil_iff.mp c2]
      exact ⟨z.2, by rw [← c1]⟩
  obtain ⟨a, e1⟩ := e1
  have ec : cellOf K d.at_ = a := by
    unfold cellOf
    rw [q]
    show (match fd.closure with | [(_, a)] => a | _ => 0) = a
    rw [e1]
  cases h1 : fd.defaults with
  | none =>
    cases h2 : fd.kwdefaults with
    | none =>
      cases h3 : fd.annotations with
      | none =>
        cases h4 : fd.code with
        | ref cda =>
          have ed : codeAd K d.at_ = cda := by
            unfold codeAd
            rw [q]
            show (match fd.code with | .ref a => a | _ => 0) = cda
            rw [h4]
          have b2 : PySem.W.codeIn K (.ref cda) d.qual = true := by
            have := b
            simp only [h1, h2, h3, h4] at this
            exact this
          rw [ec, ed]
          rw [e1, h1, h2, h3, h4] at e
          rw [e] at l
          exact ⟨oc, od, _, _, _, sl, l, b2⟩
        | _ => simp only [h1, h2, h3, h4] at b; cases b
      | some x => simp only [h1, h2, h3] at b; cases b
    | _ => simp only [h1, h2] at b; cases b
  | _ => simp only [h1] at b; cases b
/-- two defaults, tuples of the written part -/
def dfT (K : PySem.W.Frag) (p : Str × Option Str) : Addr := match fdAt K p with
  | some fd => (match fd.defaults with
    | .ref T => T
    | _ => 0)
  | none => 0
def dfE (K : PySem.W.Frag) (p : Str × Option Str) : Addr × Addr := match K.lookup (dfT K p) with
  | some ⟨_, _, .seq its _, _⟩ => (match its.toList with
    | [.ref a, .ref b] => (a, b)
    | _ => (0, 0))
  | _ => (0, 0)
def tup2B (K : PySem.W.Frag) (T : Addr) : Bool := match K.lookup T with
  | some ⟨.type c, none, .seq its _, sl⟩ => decide (c = "tuple") && (sl.isEmpty && (match its.toList with
    | [.ref _, .ref _] => true
    | _ => false))
  | _ => false
theorem tup2_ok {K : PySem.W.Frag} {p : Str × Option Str} (h : tup2B K (dfT K p) = true) : ∃ n, K.lookup (dfT K p) = some { cls := .type "tuple", dict := none, data := .seq #[.ref (dfE K p).1, .ref (dfE K p).2] n, slots := #[] } := by
  unfold tup2B at h
  have ee : ∀ {its : Array Value} {n : Nat} {oc : Value} {od : Option Addr} {sl : Array (Option Value)} {a b : Addr}, K.lookup (dfT K p) = some ⟨oc, od, .seq its n, sl⟩ → its.toList = [.ref a, .ref b] → dfE K p = (a, b) := fun {its n oc od sl a b} l e => by
    unfold dfE
    rw [l]
    show (match its.toList with | [.ref a, .ref b] => (a, b) | _ => (0, 0)) = (a, b)
    rw [e]
  cases q : K.lookup (dfT K p) with
  | none =>
    rw [q] at h
    cases h
  | some o =>
    obtain ⟨oc, od, dt, sl⟩ := o
    rw [q] at h
    cases oc with
    | type c =>
      cases od with
      | none =>
        cases dt with
        | seq its n =>
          obtain ⟨h1, h2⟩ := He.ba h
          obtain ⟨h3, h4⟩ := He.ba h2
          have h4 : (match its.toList with | [.ref _, .ref _] => true | _ => false) = true := h4
          obtain ⟨a, b, e⟩ : ∃ a b, its.toList = [.ref a, .ref b] := by
            split at h4
            · rename_i a b e
              exact ⟨a, b, e⟩
            · cases h4
          have ei : its = #[.ref a, .ref b] := by
            rw [← Array.toArray_toList (xs := its), e]
          refine ⟨n, ?_⟩
          rw [ee q e, of_decide_eq_true h1, Array.isEmpty_iff.mp h3, ei]
        | _ => cases h
      | some d => cases dt <;> cases h
    | _ => cases od <;> cases dt <;> cases h
def dfB (K : PySem.W.Frag) (p : Str × Option Str) (q : Str) : Bool := match fdAt K p with
  | some fd => (match fd.defaults with
    | .ref _ => PySem.W.codeIn K fd.code q
    | _ => false) && (PySem.W.keepIn K (.ref (He.fAd K p)) && tup2B K (dfT K p))
  | none => false
theorem df_ok {K : PySem.W.Frag} {d : WD} (h : wOf K d.at_ = d.val) (hc : d.cl = []) (b : dfB K d.at_ d.qual = true) : ∃ (oc : Value) (od : Option Addr) (kV dc pm : Value) (an : Option Addr) (cd ct : Value) (sl : Array (Option Value)) (n : Nat),
    K.lookup (He.fAd K d.at_) = some ⟨oc, od, .func (PySem.W.fnOf d.name d.qual d.params d.body d.scope (.ref (dfT K d.at_)) kV dc pm an cd ct), sl⟩ ∧ PySem.W.codeIn K cd d.qual = true ∧ PySem.W.keepIn K (.ref (He.fAd K d.at_)) = true ∧
    K.lookup (dfT K d.at_) = some { cls := .type "tuple", dict := none, data := .seq #[.ref (dfE K d.at_).1, .ref (dfE K d.at_).2] n, slots := #[] } := by
  obtain ⟨fd, oc, od, sl, q, l, e, c⟩ := wd_ok h
  unfold dfB at b
  rw [q] at b
  obtain ⟨b1, b2⟩ := He.ba b
  obtain ⟨b3, b4⟩ := He.ba b2
  obtain ⟨n, lt⟩ := tup2_ok b4
  have hcl : fd.closure = [] := List.map_eq_nil_iff.mp (c.trans hc)
  cases hd : fd.defaults with
  | ref T =>
    have eT : dfT K d.at_ = T := by
      unfold dfT
      rw [q]
      show (match fd.defaults with | .ref T => T | _ => 0) = T
      rw [hd]
    rw [hd] at b1
    rw [hcl, hd] at e
    rw [e, ← eT] at l
    exact ⟨oc, od, _, _, _, _, _, _, sl, n, l, b1, b3, lt⟩
  | _ => rw [hd] at b1; cases b1
/-! ### constants -/
def strB (K : PySem.W.Frag) (x z : Str) : Bool := match PySem.W.nsIn K mainGlobals x with
  | some (some (.str y _)) => decide (y = z)
  | _ => false
theorem str_ok {K : PySem.W.Frag} {x z : Str} (h : strB K x z = true) : ∃ t, PySem.W.nsIn K mainGlobals x = some (some (.str z t)) := by
  unfold strB at h
  split at h
  · rename_i y t q
    rw [q, of_decide_eq_true h]
    exact ⟨t, rfl⟩
  · cases h
def intB (K : PySem.W.Frag) (x : Str) (i : Int) : Bool := match PySem.W.nsIn K mainGlobals x with
  | some (some (.int j _)) => decide (j = i)
  | _ => false
theorem int_ok {K : PySem.W.Frag} {x : Str} {i : Int} (h : intB K x i = true) : ∃ t, PySem.W.nsIn K mainGlobals x = some (some (.int i t)) := by
  unfold intB at h
  split at h
  · rename_i y t q
    rw [q, of_decide_eq_true h]
    exact ⟨t, rfl⟩
  · cases h
def strsB : List Value → List Str → Bool
  | [], [] => true
  | .str y _ :: r, z :: s => decide (y = z) && strsB r s
  | _, _ => false
theorem strs_ok : ∀ {vs : List Value} {ws : List Str}, strsB vs ws = true → Vals (ws.map V.str) vs
  | [], [], _ => .nil
  | .str y t :: r, z :: s, h => by
    obtain ⟨h1, h2⟩ := He.ba h
    rw [of_decide_eq_true h1]
    exact .cons ⟨t, rfl⟩ (strs_ok h2)
  | [], _ :: _, h => by cases h
  | .str _ _ :: _, [], h => by cases h
  | .none :: _, ws, h => by cases ws <;> cases h
  | .bool _ :: _, ws, h => by cases ws <;> cases h
  | .ref _ :: _, ws, h => by cases ws <;> cases h
  | .int _ _ :: _, ws, h => by cases ws <;> cases h
def tupB (K : PySem.W.Frag) (a : Addr) (ws : List Str) : Bool := match K.lookup a with
  | some ⟨.type c, none, .seq its _, sl⟩ => decide (c = "tuple") && (sl.isEmpty && (decide (its.size ≤ 100) && strsB its.toList ws))
  | _ => false
theorem tup_ok {K : PySem.W.Frag} {a : Addr} {ws : List Str} (h : tupB K a ws = true) : ∃ (its : Array Value) (n : Nat), K.lookup a = some { cls := .type "tuple", dict := none, data := .seq its n, slots := #[] } ∧ its.size ≤ sizeLine ∧ Vals (ws.map V.str) its.toList := by
  unfold tupB at h
  split at h
  · rename_i c its n sl q
    obtain ⟨h1, h2⟩ := He.ba h
    obtain ⟨h3, h4⟩ := He.ba h2
    obtain ⟨h5, h6⟩ := He.ba h4
    refine ⟨its, n, ?_, Nat.le_trans (of_decide_eq_true h5) (by decide), strs_ok h6⟩
    rw [q, of_decide_eq_true h1, Array.isEmpty_iff.mp h3]
  · cases h
/-! ### the Hook: as are the addresses that are asked -/
def obsW (as : List Addr) (ds : List WD) (ex : PySem.W.Frag → Bool) (g : Addr → Option Obj) : Bool × List (Option FdW) := (ex (He.frG g as), ds.map fun d => wOf (He.frG g as) d.at_)
def hookW (as : List Addr) (ds : List WD) (ex : PySem.W.Frag → Bool) : PySem.W.Hook where
  α := Bool × List (Option FdW)
  obs := fun s => obsW as ds ex s.heap.get?
  val := fun _ => (true, ds.map WD.val)
  says := fun _ h => ∃ K : PySem.W.Frag, K.In h ∧ ex K = true ∧ (ds.map fun d => wOf K d.at_) = ds.map WD.val
  of := fun _ _ e => ⟨_, He.frG_in, congrArg (fun z => z.1) e, congrArg (fun z => z.2) e⟩
  keeps := fun _ _ _ ⟨K, hK, c⟩ k => ⟨K, PySem.W.Frag.In.keeps hK k, c⟩
theorem obsW_eq {as : List Addr} {ds : List WD} {ex : PySem.W.Frag → Bool} {g : Addr → Option Obj} {s : Shared} (h : ∀ a, g a = s.heap.get? a) : obsW as ds ex g = (hookW as ds ex).obs s := by
  have e : g = s.heap.get? := funext h
  rw [e]
  rfl
theorem wd_at {K : PySem.W.Frag} {ds : List WD} (c : (ds.map fun d => wOf K d.at_) = ds.map WD.val) (i : Nat) {d : WD} (h : ds[i]? = some d) : wOf K d.at_ = d.val := by
  have e := congrArg (fun l => l[i]?) c
  simp only [List.getElem?_map, h, Option.map_some, Option.some.injEq] at e
  exact e
end Ls
namespace Ls
open PySem PySem.Spec PyProof.Rows L2

/-! ### calls in short -/
/-- a def of the module that keeps a promise: where it stands, how it is bound -/
structure Own (P : Program) (w : World) (K : PySem.W.Frag) (mg : Str → Option Value) (base : Heap) (CX : CXT) (k : Nat) (x : Str) (ps : List Str) (sp : Sp) : Prop where
  ex : ∃ (f : Addr) (fd : FuncData), FnOk P w K mg base CX k f fd ps sp ∧ mg x = some (.ref f) ∧ PySem.W.keepIn K (.ref f) = true ∧ Binds K fd ps []
/-- a method of the class at C -/
structure OwnM (P : Program) (w : World) (K : PySem.W.Frag) (mg : Str → Option Value) (base : Heap) (CX : CXT) (k : Nat) (C : Addr) (m : Str) (ps : List Str) (sp : Sp) : Prop where
  cl : Cls K C
  ex : ∃ (f : Addr) (fd : FuncData), FnOk P w K mg base CX k f fd ps sp ∧ Meth K C m f ∧ Binds K fd ps []
/-- a class that is called -/
structure OwnC (P : Program) (w : World) (K : PySem.W.Frag) (mg : Str → Option Value) (base : Heap) (CX : CXT) (k : Nat) (C : Addr) (x : Str) (ps : List Str) (sp : Sp) : Prop where
  ex : ∃ (f : Addr) (fd : FuncData), FnOk P w K mg base CX k f fd ps sp ∧ mg x = some (.ref C) ∧ Mk K C f ∧ Binds K fd ps []
section
variable {X : Cx} {k j : Nat} {x m : Str} {ps : List Str} {sp : Sp} {p pos apos : Pos} {e o : Expr} {es : List Expr} {t : TA} {ta : TE} {C : Addr}
theorem own_call (O : Own X.prog X.w X.K X.mg X.base CX0 k x ps sp) (hr : Room j X.A) (hkj : k ≤ j) (ha : PA X (e :: es) t)
    (hg : Gl X x := by rfl) (hdb : (x == ("__debug__" : Str)) = false := by decide) (he : starEach (e :: es) X.env = (false, eval e X.env) :: starEach es X.env := by rfl) (hpl : (backTo pos (starEach es X.env)).any (·.1) = false := by rfl) :
    PE X (.Call (.Name x p) (e :: es) [] pos) (tCall sp [] E0 t) := by
  obtain ⟨f, fd, F, g, kp, b⟩ := O.ex
  exact pe_call F (hr.mono hkj) hg g kp b .nil pass0 ha hdb he hpl
theorem own_call0 (O : Own X.prog X.w X.K X.mg X.base CX0 k x ps sp) (hr : Room j X.A) (hkj : k ≤ j) (hg : Gl X x := by rfl) (hdb : (x == ("__debug__" : Str)) = false := by decide) :
    PE X (.Call (.Name x p) [] [] pos) (tCall sp [] E0 tNil) := by
  obtain ⟨f, fd, F, g, kp, b⟩ := O.ex
  exact pe_call0 F (hr.mono hkj) hg g kp b .nil pass0 hdb
theorem own_meth {pl : Sem Bool} (O : OwnM X.prog X.w X.K X.mg X.base CX0 k C m ps sp) (hr : Room j X.A) (hkj : k ≤ j) (ho : PE X o ta) (ha : PA X (e :: es) t)
    (hst : starEach (e :: es) X.env = (false, eval e X.env) :: starEach es X.env := by rfl) (hpl : (backTo pos (starEach es X.env)).any (·.1) = false := by rfl)
    (ht : eval (.Call (.Attribute o m apos) (e :: es) [] pos) X.env = (do
      let ov ← eval o X.env
      standAt apos.atName
      let (f, first) ← holding [ov] (getMethod ov m pl)
      callWith pos f first (backTo pos (starEach (e :: es) X.env)) (backToKw pos (keywordEach [] X.env))) := by rfl) : PE X (.Call (.Attribute o m apos) (e :: es) [] pos) (tMeth C m sp [] E0 ta t) := by
  obtain ⟨f, fd, F, me, b⟩ := O.ex
  exact pe_meth ho O.cl me F (hr.mono hkj) b .nil pass0 ha hst hpl ht
theorem own_meth0 {pl : Sem Bool} (O : OwnM X.prog X.w X.K X.mg X.base CX0 k C m ps sp) (hr : Room j X.A) (hkj : k ≤ j) (ho : PE X o ta)
    (ht : eval (.Call (.Attribute o m apos) [] [] pos) X.env = (do
      let ov ← eval o X.env
      standAt apos.atName
      let (f, first) ← holding [ov] (getMethod ov m pl)
      callWith pos f first (backTo pos (starEach [] X.env)) (backToKw pos (keywordEach [] X.env))) := by rfl) : PE X (.Call (.Attribute o m apos) [] [] pos) (tMeth C m sp [] E0 ta tNil) := by
  obtain ⟨f, fd, F, me, b⟩ := O.ex
  exact pe_meth0 ho O.cl me F (hr.mono hkj) b .nil pass0 ht
theorem own_make (O : OwnC X.prog X.w X.K X.mg X.base CX0 k C x ps sp) (hr : Room j X.A) (hkj : k + 1 ≤ j) (ha : PA X (e :: es) t)
    (hg : Gl X x := by rfl) (hdb : (x == ("__debug__" : Str)) = false := by decide) (he : starEach (e :: es) X.env = (false, eval e X.env) :: starEach es X.env := by rfl) (hpl : (backTo pos (starEach es X.env)).any (·.1) = false := by rfl) :
    PE X (.Call (.Name x p) (e :: es) [] pos) (tMake C sp [] E0 t) := by
  obtain ⟨f, fd, F, g, M, b⟩ := O.ex
  exact pe_make M F (hr.mono hkj) hg g b .nil pass0 ha hdb he hpl
theorem glob_str {z : Str} {tk : Tok} (hm : X.mg x = some (.str z tk)) (hg : Gl X x := by rfl) (hd : (x == ("__debug__" : Str)) = false := by decide) : PE X (.Name x pos) (tC (.str z)) := pe_glob hg hm ⟨_, rfl⟩ hd
theorem glob_int {i : Int} {tk : Tok} (hm : X.mg x = some (.int i tk)) (hg : Gl X x := by rfl) (hd : (x == ("__debug__" : Str)) = false := by decide) : PE X (.Name x pos) (tC (.int i)) := pe_glob hg hm ⟨_, rfl⟩ hd
theorem glob_ref {a : Addr} (hm : X.mg x = some (.ref a)) (hg : Gl X x := by rfl) (hd : (x == ("__debug__" : Str)) = false := by decide) : PE X (.Name x pos) (tC (.ref a)) := pe_glob hg hm rfl hd
/-- a statement that is never reached -/
theorem ps_dead {st : Stmt} : PS X st (fun _ _ _ => False) := ⟨fun _ _ _ _ _ _ h => h.elim⟩
theorem pss_dead {st : List Stmt} : PSs X st (fun _ _ _ => False) := ⟨fun _ _ _ _ _ _ h => h.elim⟩
end

/-! ### a def of the text, whatever its defaults -/
structure FunE (K : PySem.W.Frag) (x qual : Str) (st : Stmt) (f : Addr) (fd : FuncData) : Prop where
  ex : ∃ (oc : Value) (od : Option Addr) (dV kV doc pm : Value) (an : Option Addr) (cdv ct : Value) (osl : Array (Option Value)),
    fd = PySem.W.fnOf x qual (defArgs st) (defBody st) (defScope st) dV kV doc pm an cdv ct ∧ K.lookup f = some ⟨oc, od, .func fd, osl⟩ ∧ PySem.W.codeIn K cdv qual = true
theorem FunE.ok {P : Program} {w : World} {K : PySem.W.Frag} {mg : Str → Option Value} {base : Heap} {x qual : Str} {st : Stmt} {f : Addr} {fd : FuncData} {N ps : List Str} {k : Nat} {sp : Sp} (F : FunE K x qual st f fd) (S : FnScope N ps (defScope st))
    (len : ∀ vs H Q E, sp vs H Q E → vs.length = ps.length)
    (body : ∀ (cdv : Value) (A : Around) (outer : List Env) (s : Shared) (H : Hp) (vs : List V) (Q : VK) (E : XK), Room k (A.deeper (envOfC qual (defScope st) s.heap.objs.size f cdv)) → sp vs H Q E →
      ∃ t, PSs (cxOf CX0 P w K mg base N qual (defScope st) f cdv A outer s H E).nox (defBody st) t ∧ t { nx := fun _ H' => Q .non H', rt := Q } (start N vs) H) : FnOk P w K mg base CX0 (k + 1) f fd ps sp := by
  obtain ⟨oc, od, dV, kV, doc, pm, an, cdv, ct, osl, rfl, lk, hcd⟩ := F.ex
  refine fn_of lk hcd S len fun A outer s H vs Q E hr hsp => ?_
  obtain ⟨t, ht, hq⟩ := body cdv A outer s H vs Q E hr hsp
  exact ⟨t, ht.nox, hq⟩
/-- two defaults that are not asked for -/
theorem FunE.mk2 {K : PySem.W.Frag} {x qual : Str} {st : Stmt} {f T : Addr} {oc : Value} {od an : Option Addr} {osl : Array (Option Value)} {kV doc pm cdv ct : Value}
    (l : K.lookup f = some ⟨oc, od, .func (PySem.W.fnOf x qual (defArgs st) (defBody st) (defScope st) (.ref T) kV doc pm an cdv ct), osl⟩) (c : PySem.W.codeIn K cdv qual = true) :
    FunE K x qual st f (PySem.W.fnOf x qual (defArgs st) (defBody st) (defScope st) (.ref T) kV doc pm an cdv ct) := ⟨oc, od, .ref T, kV, doc, pm, an, cdv, ct, osl, rfl, l, c⟩

/-! ### tuples of the written part -/
def KTup (K : PySem.W.Frag) (a : Addr) (xs : List V) : Prop := ∃ (its : Array Value) (n : Nat), K.lookup a = some { cls := .type "tuple", dict := none, data := .seq its n, slots := #[] } ∧ its.size ≤ sizeLine ∧ Vals xs its.toList
theorem KTup.sq {K : PySem.W.Frag} {a : Addr} {xs : List V} (h : KTup K a xs) (H : Hp) : SqT K H a xs := by
  obtain ⟨its, n, lk, hz, r⟩ := h
  exact .inr ⟨_, its, n, lk, rfl, rfl, hz, r⟩
def rExtK (K : PySem.W.Frag) : V → List V → Hp → VK → Prop := fun x vs H Q => ∃ l b xs zs, x = .ref l ∧ vs = [.ref b] ∧ H l = some (.lst xs) ∧ KTup K b zs ∧ xs.length + zs.length ≤ sizeLine ∧ Q .non (upd H l (.lst (xs ++ zs)))
theorem mt_extK {X : Cx} (K : PySem.W.Frag) (hK : X.K = K := by rfl) : MtM X "list.extend" (rExtK K) := by
  subst hK
  intro pins s σ H x vs v us Q I rx rv h
  obtain ⟨l, b, xs, zs, rfl, rfl, hH, ⟨its2, n2, lk, z2, r2⟩, hz, q⟩ := h
  cases rx
  obtain ⟨u, rfl, ru⟩ := rv.one
  cases ru
  obtain ⟨z, its, n, r, hl, e⟩ := I.lstM hH
  have e2 := I.kIn _ _ lk
  obtain ⟨m2⟩ := its2
  have l2 : zs.length = m2.length := r2.length
  have hs : its.toArray.size + (Array.mk m2).size ≤ sizeLine := by
    rw [List.size_toArray]
    show its.length + m2.length ≤ sizeLine
    omega
  refine call_meets F.slot_list_extend ⟨_, e, rfl⟩ F.entry_list_extend (F.args_list_extend_2 _ _) (AutoSeq1.list_extend_list_tuple_0 l its.toArray n b (Array.mk m2) n2 (by rw [notLongL hs, Bool.and_false]; exact Bool.false_ne_true) (by omega) (by omega)) ⟨e, e2, ?_⟩
  refine ⟨.non, _, I.lset (its' := its ++ m2) (ys := xs ++ zs) hH e (by simp) (r.append r2) ?len, rfl, q⟩
  rw [List.length_append]
  exact hz

/-! ### rules that name the written part -/
section
variable {X : Cx}
theorem ixL (K : PySem.W.Frag) (h : X.K = K := by rfl) : IxR X (rIxL K) := by subst h; exact ix_list
theorem ixT (K : PySem.W.Frag) (h : X.K = K := by rfl) : IxR X (rIxT K) := by subst h; exact ix_tup
theorem in_seq (K : PySem.W.Frag) (h : X.K = K := by rfl) : OpR X (compareOp .In) (rIn K false) := by subst h; exact op_in_seq
theorem notIn_seq (K : PySem.W.Frag) (h : X.K = K := by rfl) : OpR X (compareOp .NotIn) (rIn K true) := by subst h; exact op_notIn_seq
theorem eqD (K : PySem.W.Frag) {k : Nat} (hr : Room k X.A) (h : X.K = K := by rfl) : OpR X (compareOp .Eq) (rEqD K) := by subst h; exact op_eqD hr.units
theorem neD (K : PySem.W.Frag) {k : Nat} (hr : Room k X.A) (h : X.K = K := by rfl) : OpR X (compareOp .NotEq) (rNeD K) := by subst h; exact op_neD hr.units
theorem list_of (K : PySem.W.Frag) (h : X.K = K := by rfl) : CallR X (.type "list") (fun xs H Q => ∃ p ys, xs = [.ref p] ∧ (SqL K H p ys ∨ SqT K H p ys) ∧ ∀ l, H l = none → Q (.ref l) (upd H l (.lst ys))) := by subst h; exact call_list_of
theorem tuple_of (K : PySem.W.Frag) (h : X.K = K := by rfl) : CallR X (.type "tuple") (fun xs H Q => ∃ p ys, xs = [.ref p] ∧ ((SqL K H p ys ∧ ∀ l, H l = none → Q (.ref l) (upd H l (.tup ys))) ∨ (SqT K H p ys ∧ Q (.ref p) H))) := by subst h; exact call_tuple_of
theorem len_seq (K : PySem.W.Frag) (h : X.K = K := by rfl) : CallR X (.builtin "len") (fun xs H Q => ∃ p ys, xs = [.ref p] ∧ (SqL K H p ys ∨ SqT K H p ys) ∧ Q (.int ys.length) H) := by subst h; exact call_len_seq
end

/-! ### lists of ints as data -/
theorem dp_ints {K : PySem.W.Frag} {H : Hp} : ∀ ns : List Int, DpAll K H (ns.map V.int) (ns.map PyData.int)
  | [] => .nil
  | n :: r => .cons (.int n) (dp_ints r)
theorem lay_ints : ∀ ns : List Int, PyData.canLayAll0 (ns.map PyData.int) = true
  | [] => by simp [PyData.canLayAll0]
  | n :: r => by simp [PyData.canLayAll0, PyData.canLay0, lay_ints r]
theorem depth_ints : ∀ ns : List Int, PyData.depthAll (ns.map PyData.int) = 0
  | [] => by simp [PyData.depthAll]
  | n :: r => by simp [PyData.depthAll, PyData.depth, depth_ints r]
theorem shaped_ints (ns : List Int) : SeqAt.shaped (.list (ns.map PyData.int)) = true := by
  simp [SeqAt.shaped, PyData.canLay0, PyData.depth, lay_ints, depth_ints]
theorem eqv_nil (ns : List Int) : PyData.eqv (.list (ns.map PyData.int)) (.list []) = decide (ns = []) := by
  cases ns with
  | nil => simp [PyData.eqv, PyData.eqvAll]
  | cons n r => simp [PyData.eqv, PyData.eqvAll]
theorem lt_pow {m c : Int} (h0 : 0 ≤ m) (h1 : m < 2147483647) (c0 : 0 ≤ c) (c1 : c ≤ 10000001) : (m + 104729 * c + 17).natAbs < 2 ^ 64 := by omega
theorem emod_lo (a : Int) {n : Int} (h : 0 < n) : 0 ≤ a % n := Int.emod_nonneg _ (by omega)
theorem emod_hi (a : Int) {n : Int} (h : 0 < n) : a % n < n := Int.emod_lt_of_pos _ h
theorem sq_le {c : Int} (c0 : 0 ≤ c) (c1 : c ≤ 10000001) : 0 ≤ 40503 * c * c ∧ 40503 * c * c ≤ 4050300810060040503 := by
  have h1 : c * c ≤ 10000001 * 10000001 := Int.mul_le_mul c1 c1 c0 (by omega)
  have h2 : 0 ≤ c * c := Int.mul_nonneg c0 c0
  have e : 40503 * c * c = 40503 * (c * c) := Int.mul_assoc _ _ _
  rw [e]
  omega
theorem log_lt {k : Int} (h0 : 0 < k) (h : k ≤ 10 ^ 40) : k.natAbs.log2 < 9000 := by
  refine (Nat.log2_lt (by omega)).mpr (Nat.lt_of_le_of_lt (m := 10 ^ 40) (by omega) ?_)
  exact Nat.lt_of_lt_of_le (show 10 ^ 40 < 2 ^ 140 by decide +kernel) (Nat.pow_le_pow_right (by decide) (by decide))

/-! ### heaps -/
/-- all else is as it was -/
def Old (S L : Addr) (H H' : Hp) : Prop := ∀ b o, b ≠ S → b ≠ L → H b = some o → H' b = some o
theorem Old.refl {S L : Addr} (H : Hp) : Old S L H H := fun _ _ _ _ e => e
theorem Old.trans {S L : Addr} {H H1 H2 : Hp} (a : Old S L H H1) (b : Old S L H1 H2) : Old S L H H2 := fun c o h1 h2 e => b c o h1 h2 (a c o h1 h2 e)
theorem Old.same {S L : Addr} {H H1 : Hp} (a : Same H H1) : Old S L H H1 := fun c o _ _ e => a c o e
theorem same_new {H : Hp} {p : Addr} {o : HO} (h : H p = none) : Same H (upd H p o) := fun b x e => by
  rw [upd_ne (ne_of_none e h)]
  exact e
theorem Old.new {S L : Addr} {H : Hp} {p : Addr} {o : HO} (h : H p = none) : Old S L H (upd H p o) := .same (same_new h)
theorem Old.set {S L : Addr} {H H1 : Hp} {p : Addr} {o : HO} (h : Old S L H H1) (hp : H p = none) : Old S L H (upd H1 p o) := fun b u h1 h2 e => by
  rw [upd_ne (ne_of_none e hp)]
  exact h b u h1 h2 e
theorem Old.none {S L : Addr} {H H1 : Hp} {p : Addr} (h : Old S L H H1) (hp : H1 p = none) (n : p ≠ S ∧ p ≠ L) : H p = none := by
  cases e : H p with
  | none => rfl
  | some o => rw [h _ _ n.1 n.2 e] at hp; cases hp
/-- the law's stream at S over the list at L, of which at most n draws were made -/
def Stm (H : Hp) (S L : Addr) (n : Nat) : Prop := ∃ (ns : List Int) (d c m : Int), H S = some (.lst [.ref L, .int d, .int c, .int m]) ∧ H L = some (.lst (ns.map V.int)) ∧ 0 ≤ d ∧ 0 ≤ c ∧ c ≤ (n : Int) ∧ 0 ≤ m ∧ m < 2147483647
theorem Stm.ne {H : Hp} {S L : Addr} {n : Nat} (h : Stm H S L n) : S ≠ L := by
  obtain ⟨ns, d, c, m, h1, h2, _⟩ := h
  refine ne_of h1 h2 fun e => ?_
  have e' := HO.lst.inj e
  cases ns with
  | nil => cases e'
  | cons a r => rw [List.map_cons] at e'; injection e' with e1; cases e1
theorem Stm.mono {H : Hp} {S L : Addr} {n m : Nat} (h : Stm H S L n) (hm : n ≤ m) : Stm H S L m := by
  obtain ⟨ns, d, c, k, h1, h2, h3, h4, h5, h6⟩ := h
  exact ⟨ns, d, c, k, h1, h2, h3, h4, by omega, h6⟩
theorem Stm.keep {H H' : Hp} {S L : Addr} {n : Nat} (h : Stm H S L n) (s : Same H H') : Stm H' S L n := by
  obtain ⟨ns, d, c, k, h1, h2, h3⟩ := h
  exact ⟨ns, d, c, k, s _ _ h1, s _ _ h2, h3⟩
theorem Stm.noneS {H : Hp} {S L p : Addr} {n : Nat} (h : Stm H S L n) (hp : H p = none) : p ≠ S ∧ p ≠ L := by
  obtain ⟨ns, d, c, k, h1, h2, h3⟩ := h
  exact ⟨Ne.symm (ne_of_none h1 hp), Ne.symm (ne_of_none h2 hp)⟩
theorem Stm.upd {H : Hp} {S L p : Addr} {n : Nat} {o : HO} (h : Stm H S L n) (h1 : p ≠ S) (h2 : p ≠ L) : Stm (upd H p o) S L n := by
  obtain ⟨ns, d, c, k, e1, e2, h3⟩ := h
  exact ⟨ns, d, c, k, by rw [upd_ne (Ne.symm h1)]; exact e1, by rw [upd_ne (Ne.symm h2)]; exact e2, h3⟩
/-! ### two tests whose answers are known -/
theorem or2 {t u : TT} {σ : L2.St} {H : Hp} {Q : Bool → Hp → Prop} (c1 c2 : Bool) (h1 : ∀ Q' : Bool → Hp → Prop, Q' c1 H → t σ H Q') (h2 : c1 = false → ∀ Q' : Bool → Hp → Prop, Q' c2 H → u σ H Q') (hq : Q (c1 || c2) H) : tOr t u σ H Q := by
  refine h1 _ ?_
  cases c1 with
  | true => exact hq
  | false => exact h2 rfl _ hq
theorem and2 {t u : TT} {σ : L2.St} {H : Hp} {Q : Bool → Hp → Prop} (c1 c2 : Bool) (h1 : ∀ Q' : Bool → Hp → Prop, Q' c1 H → t σ H Q') (h2 : c1 = true → ∀ Q' : Bool → Hp → Prop, Q' c2 H → u σ H Q') (hq : Q (c1 && c2) H) : tAnd t u σ H Q := by
  refine h1 _ ?_
  cases c1 with
  | true => exact h2 rfl _ hq
  | false => exact hq
/-- what is known of the heap from here on -/
theorem at_heap {P : Hp → Prop} {H0 : Hp} (φ : Hp → Prop) (h1 : φ H0) (h2 : ∀ H1, φ H1 → P H1) : P H0 := h2 H0 h1
/-! ### comprehensions that change nothing else -/
section
variable {J : It} {n : Nat} {G : Hp → Prop} {Y : Nat → Hp → V → Hp → Prop}
/-- the made list behind i turns -/
def made (xs : List V) (f : V → Option V) (i : Nat) : List V := (xs.take i).filterMap f
theorem made_yes {xs : List V} {f : V → Option V} {i : Nat} {x y : V} (hx : xs[i]? = some x) (hf : f x = some y) : made xs f (i + 1) = made xs f i ++ [y] := by
  unfold made
  rw [List.take_add_one, hx, List.filterMap_append]
  simp [hf]
theorem made_no {xs : List V} {f : V → Option V} {i : Nat} {x : V} (hx : xs[i]? = some x) (hf : f x = none) : made xs f (i + 1) = made xs f i := by
  unfold made
  rw [List.take_add_one, hx, List.filterMap_append]
  simp [hf]
theorem made_len (xs : List V) (f : V → Option V) (i : Nat) : (made xs f i).length ≤ i := by
  unfold made
  exact Nat.le_trans (List.length_filterMap_le _ _) (by rw [List.length_take]; exact Nat.min_le_left _ _)
/-- a comprehension whose turns leave the heap as it is: what each item gives is told by f -/
theorem lc_pure (w : Walk J n G Y) (xs : List V) (f : V → Option V) (hn : xs.length = n) (hY : ∀ i H x H', i < n → Y i H x H' → H' = H ∧ xs[i]? = some x) {g : TG} {tt : TT} {te : TE} {vs : List Nat} {σ : L2.St} {H1 : Hp} {D : Addr} {Qd : Hp → Prop}
    (hz : n < sizeLine) (hG : ∀ acc, G (upd H1 D (.lst acc)))
    (hs : ∀ i x, i < n → xs[i]? = some x → g x (wipe σ vs) (upd H1 D (.lst (made xs f i))) fun σ2 H2 => wipe σ2 vs = wipe σ vs ∧ tt σ2 H2 fun b H3 =>
      if b = true then te σ2 H3 fun y H4 => ∃ acc, H4 D = some (.lst acc) ∧ acc.length < sizeLine ∧ upd H4 D (.lst (acc ++ [y])) = upd H1 D (.lst (made xs f (i + 1))) else H3 = upd H1 D (.lst (made xs f (i + 1))))
    (hd : Qd (upd H1 D (.lst (xs.filterMap f)))) :
    ∃ W : Nat → Nat → Hp → Prop, (∃ m, W 0 m (upd H1 D (.lst []))) ∧ ∀ i m H, W i m H →
      (J.stop i H ∧ Qd H) ∨ (J.go i H ∧ ∃ Nx : Hp → Prop, (∀ H', Nx H' → ∃ m', m' < m ∧ W (i + 1) m' H') ∧ ∀ x H', J.yld i H x H' → g x (wipe σ vs) H' fun σ2 H2 => wipe σ2 vs = wipe σ vs ∧ tt σ2 H2 fun b H3 =>
        if b = true then te σ2 H3 fun y H4 => ∃ acc, H4 D = some (.lst acc) ∧ acc.length < sizeLine ∧ Nx (upd H4 D (.lst (acc ++ [y]))) else Nx H3) := by
  refine lc_it w (fun i H => H = upd H1 D (.lst (made xs f i))) rfl (fun i H _ e => by rw [e]; exact hG _) (fun i x H H' hi e y => ?_) (fun H e => ?_)
  · obtain ⟨e2, hx⟩ := hY i H x H' hi y
    rw [e2, e]
    exact hs i x hi hx
  · have : made xs f n = xs.filterMap f := by unfold made; rw [← hn, List.take_length]
    rw [e, this]
    exact hd
theorem lc_yes {xs : List V} {f : V → Option V} {i : Nat} {x y : V} {H1 : Hp} {D : Addr} {n : Nat} (hx : xs[i]? = some x) (hi : i < n) (hz : n < sizeLine) (hf : f x = some y) :
    ∃ acc, (upd H1 D (.lst (made xs f i))) D = some (.lst acc) ∧ acc.length < sizeLine ∧ upd (upd H1 D (.lst (made xs f i))) D (.lst (acc ++ [y])) = upd H1 D (.lst (made xs f (i + 1))) :=
  ⟨_, upd_same, Nat.lt_of_le_of_lt (made_len _ _ _) (Nat.lt_trans hi hz), by rw [upd_upd, made_yes hx hf]⟩
theorem lc_no {xs : List V} {f : V → Option V} {i : Nat} {x : V} {H1 : Hp} {D : Addr} (hx : xs[i]? = some x) (hf : f x = none) : upd H1 D (.lst (made xs f i)) = upd H1 D (.lst (made xs f (i + 1))) := by rw [made_no hx hf]
/-- the signs of a text as texts -/
def signs (z : Str) : List V := z.cps.toList.map fun c => .str ⟨#[c]⟩
theorem signs_len (z : Str) : (signs z).length = z.cps.size := by unfold signs; rw [List.length_map, Array.length_toList]
theorem yld_str {z : Str} : ∀ (i : Nat) (H : Hp) (x : V) (H' : Hp), i < z.cps.size → (H' = H ∧ ∃ c, z.cps[i]? = some c ∧ x = .str ⟨#[c]⟩) → H' = H ∧ (signs z)[i]? = some x := fun i H x H' _ ⟨e, c, hc, ex⟩ =>
  ⟨e, by unfold signs; rw [List.getElem?_map, Array.getElem?_toList, hc, ex]; rfl⟩
end
def spDraw : Sp := fun vs H Q _ => ∃ (S L : Addr) (n : Nat) (k : Int), vs = [.ref S, .int k] ∧ Stm H S L n ∧ n ≤ 10000000 ∧ 0 < k ∧ k ≤ 10 ^ 40 ∧
  ∀ (H' : Hp) (r : Int), 0 ≤ r → r < k → Stm H' S L (n + 1) → Old S L H H' → Q (.int r) H'
end Ls
namespace Ls
open PySem PySem.Spec PyProof.Rows L2
/-! ### defs that run where no repr is under way -/
/-- the promise of a def, kept wherever no guard of the interpreter's own stands -/
structure FnG (P : Program) (w : World) (K : PySem.W.Frag) (mg : Str → Option Value) (base : Heap) (CX : CXT) (k : Nat) (f : Addr) (fd : FuncData) (ps : List Str) (sp : Sp) : Prop where
  len : ∀ vs H Q E, sp vs H Q E → vs.length = ps.length
  run : ∀ (A : Around) (outer : List Env) (s : Shared) (H : Hp) (args : Args) (us : List Value) (vs : List V) (Q : VK) (E : XK), A.guards = some [] → Room k A → Env0 P w K mg base A outer s H →
    BindsTo s fd args (ps.zip us) → Vals vs us → sp vs H Q E → codeAny (model P w) A (.call (.ref f) args) (CR CX outer P w H s Q E) s
/-- where it stands and how it is bound -/
structure OwnG (P : Program) (w : World) (K : PySem.W.Frag) (mg : Str → Option Value) (base : Heap) (CX : CXT) (k : Nat) (x : Str) (ps : List Str) (sp : Sp) : Prop where
  ex : ∃ (f : Addr) (fd : FuncData), FnG P w K mg base CX k f fd ps sp ∧ mg x = some (.ref f) ∧ PySem.W.keepIn K (.ref f) = true ∧ Binds K fd ps []
section
variable {X : Cx} {k j : Nat} {x : Str} {ps : List Str} {sp : Sp} {p pos : Pos} {e : Expr} {es : List Expr} {t : TA}
theorem own_callG (O : OwnG X.prog X.w X.K X.mg X.base CX0 k x ps sp) (hgd : X.A.guards = some []) (hr : Room j X.A) (hkj : k ≤ j) (ha : PA X (e :: es) t)
    (hg : Gl X x := by rfl) (hdb : (x == ("__debug__" : Str)) = false := by decide) (he : starEach (e :: es) X.env = (false, eval e X.env) :: starEach es X.env := by rfl) (hpl : (backTo pos (starEach es X.env)).any (·.1) = false := by rfl) :
    PE X (.Call (.Name x p) (e :: es) [] pos) (tCall sp [] E0 t) := by
  obtain ⟨f, fd, F, g, kp, b⟩ := O.ex
  refine ⟨fun pins s σ H Q I h => wpAny_Call_Name_kw (ld_glob I hg g (PySem.W.callWith_K (h₀ := X.base) I.ok.mod.kin kp ?_ he hpl) hdb)⟩
  refine thn (ha.run pos pins s σ H _ I h) fun us s1 hh => ?_
  obtain ⟨vs, H1, I1, r, q⟩ := hh
  refine ⟨I1.kIn, wpAny_call ?_⟩
  have q0 : sp vs H1 Q E0 := by simpa using q
  have b1 := b s1 us I1.kIn (by rw [List.append_nil, ← r.length]; exact F.len _ _ _ _ q0)
  rw [List.append_nil] at b1
  refine codeAny_mono (F.run X.A X.stack s1 H1 ⟨us, []⟩ us vs Q E0 hgd (hr.mono hkj) I1.env0 b1 r q0) fun res s2 hq => ?_
  match res, hq with
  | .ok (.ret u), hq => exact I1.after hq
  | .error z, hq => exact False.elim hq
end
section
variable {P : Program} {w : World} {K : PySem.W.Frag} {mg : Str → Option Value} {base : Heap}
/-- a def by its body, where no guard stands -/
theorem fun_okG {x qual : Str} {st : Stmt} {f : Addr} {fd : FuncData} {N ps : List Str} {k : Nat} {sp : Sp} (F : Fun K x qual st f fd) (S : FnScope N ps (defScope st)) (len : ∀ vs H Q E, sp vs H Q E → vs.length = ps.length)
    (body : ∀ (cdv : Value) (A : Around) (outer : List Env) (s : Shared) (H : Hp) (vs : List V) (Q : VK) (E : XK), A.guards = some [] → Room k (A.deeper (envOfC qual (defScope st) s.heap.objs.size f cdv)) → sp vs H Q E →
      ∃ t, PSs (cxOf CX0 P w K mg base N qual (defScope st) f cdv A outer s H E).nox (defBody st) t ∧ t { nx := fun _ H' => Q .non H', rt := Q } (start N vs) H) : FnG P w K mg base CX0 (k + 1) f fd ps sp := by
  obtain ⟨oc, od, kV, doc, pm, an, cdv, ct, osl, rfl, lk, hcd⟩ := F.ex
  refine ⟨len, fun A outer s H args us vs Q E hgd hr e0 hb r hsp => ?_⟩
  have kin : K.In s.heap := e0.mod.kin.keeps fun b o e => (e0.bs b o e).1
  have kinds : ∀ y ∈ ps.zip us, (defScope st).names.lookup y.1 = some .local ∨ ((defScope st).names.lookup y.1 = some .cell ∧ ((cellsFrom (s.heap.objs.size + 1) (defScope st).names []).lookup y.1).isSome = true) := by
    rintro ⟨n, v⟩ hy
    exact (S.par n (List.of_mem_zip hy).1).imp id fun q => ⟨q, PySem.W.cellsFrom_some _ _ _ (.inl q)⟩
  refine codeAny_call_function hr.depth (kin _ _ lk) rfl S.co S.gen rfl (PySem.W.codeRec_of kin hcd) (hb _ _ _ _ (wpAny_newFunctionEnv_cells S.kind kinds fun env he s1 x1 => ?_))
  subst he
  refine ⟨(e0.mod.nolimit.keeps fun b o e => (e0.bs b o e).1).keeps x1.toInCall.keep, codeAny_func ?_⟩
  obtain ⟨t, ht, hq⟩ := body cdv A outer s H vs Q E hgd (hr.deeper _) hsp
  have I := inv_start (P := P) (w := w) (mg := mg) (base := base) (CX := CX0) (E := E) S hr.hd e0 (len _ _ _ _ hsp) r x1
  refine wpAny_mono (ht.nox.run [] s1 (start N vs) H _ I hq) (fun fl s' hs => ?_) fun _ _ hs => hs
  match fl, hs with
  | .ret u, ⟨v, σ', H', J, rv, q⟩ => exact ⟨v, H', J.os, J.bare, J.base, J.hok, rv, q⟩
  | .next, ⟨σ', H', J, q⟩ => exact ⟨V.non, H', J.os, J.bare, J.base, J.hok, rfl, q⟩
  | .brk, ⟨_, _, _, q⟩ => exact False.elim q
  | .cont, ⟨_, _, _, q⟩ => exact False.elim q
theorem FnOk.toG {CX : CXT} {k : Nat} {f : Addr} {fd : FuncData} {ps : List Str} {sp : Sp} (F : FnOk P w K mg base CX k f fd ps sp) : FnG P w K mg base CX k f fd ps sp :=
  ⟨F.len, fun A outer s H args us vs Q E _ hr e0 hb r h => F.run A outer s H args us vs Q E hr e0 hb r h⟩
end
/-! ### repr of data -/
section
variable {X : Cx}
/-- repr(x): the text of x's data -/
def rRepr (K : PySem.W.Frag) : List V → Hp → VK → Prop := fun xs H Q => ∃ (a : Addr) (d : PyData), xs = [.ref a] ∧ Dp K H (.ref a) d ∧ d.showable = true ∧ d.hasDict = false ∧ d.depth ≤ 60 ∧ d.shown.length ≤ sizeLine ∧ Q (.str d.shown) H
theorem call_repr_data {k : Nat} (hgd : X.A.guards = some []) (hr : Room k X.A) : CallR X (.builtin "repr") (rRepr X.K) := by
  intro pins s σ H xs us Q I r h
  obtain ⟨a, d, rfl, hd, hs, hn, hdp, hz, q⟩ := h
  obtain ⟨u, rfl, ru⟩ := r.one
  obtain ⟨as, rd⟩ := Dp.reads I d _ u hd ru
  cases ru
  refine repr_of_reads' rd hs (fun z => by rw [hn] at z; cases z) hgd (by have := hr.un; omega) (fun b o e => e) (fun h' v tk keep => ?_) hz
  exact ⟨.str d.shown, H, I.kept (t' := tk) keep, ⟨_, rfl⟩, q⟩
end
/-! ### the law's own call -/
/-- the script's list, known to the object -/
def scriptO (vs : List Value) : Obj := { cls := .type "list", data := .seq vs.toArray }
/-- what is tracked at the law's entry: the script, if it is no object of the module -/
def H0 (K : PySem.W.Frag) (a : Addr) (vs : List Value) (ns : List Int) : Hp := fun b => if b = a ∧ K.lookup a = none then some (.frz (scriptO vs) (.lst (ns.map V.int))) else none
theorem H0_some {K : PySem.W.Frag} {a b : Addr} {vs : List Value} {ns : List Int} {u : HO} (h : H0 K a vs ns b = some u) : b = a ∧ K.lookup a = none ∧ u = .frz (scriptO vs) (.lst (ns.map V.int)) := by
  unfold H0 at h
  by_cases c : b = a ∧ K.lookup a = none
  · rw [if_pos c] at h
    exact ⟨c.1, c.2, (Option.some.inj h).symm⟩
  · rw [if_neg c] at h
    cases h
theorem ints_vals : ∀ {ns : List Int} {vs : List Value}, IntsAre vs ns → Vals (ns.map V.int) vs
  | _, _, .nil => .nil
  | _, _, .cons _ _ r => .cons ⟨_, rfl⟩ (ints_vals r)
theorem law_callG {P : Program} {w : World} {K : PySem.W.Frag} {mg mb : Str → Option Value} {k : Nat} {fa a : Addr} {fd : FuncData} {x : Str} {sp : Sp} {s₁ : Shared} {vs : List Value} {ns : List Int}
    (kin : K.In s₁.heap) (hm : s₁.heap.Ns mainGlobals mg) (hbl : s₁.heap.Ns builtinsNs mb) (hbt : ∀ y : Str, y ≠ "__name__" → mb y = bootBuiltins y) (lim : s₁.heap.NoLimit) (gens : s₁.gens = #[])
    (obj : s₁.heap.get? a = some (scriptO vs)) (hints : IntsAre vs ns) (size : ns.length ≤ sizeLine) (room : Room k callerA)
    (F : ∀ base : Heap, K.In base → base.Ns mainGlobals mg → FnG P w K mg base CX0 k fa fd [x] sp) (bind : ∀ (s : Shared) (u : Value), BindsTo s fd ⟨[u], []⟩ [(x, u)])
    (want : ∀ H : Hp, SqL K H a (ns.map V.int) → sp [.ref a] H (fun v _ => v = .bl true) E0) :
    codeAny (model P w) callerA (.call (.ref fa) ⟨[.ref a], []⟩) (fun r s' => r = .ok (.ret (.bool true)) ∧ OldK s₁.heap s'.heap ∧ s'.os = s₁.os ∧ AllBare s'.gens) s₁ := by
  have rv := ints_vals hints
  have ok : HOk P w (H0 K a vs ns) s₁.heap := fun b u h => by
    obtain ⟨rfl, _, rfl⟩ := H0_some h
    exact ⟨obj, by rw [List.length_map]; exact size, vs, _, rv, obj⟩
  have sq : SqL K (H0 K a vs ns) a (ns.map V.int) := by
    cases lk : K.lookup a with
    | none => exact .inl (.inr ⟨scriptO vs, if_pos ⟨rfl, lk⟩⟩)
    | some o =>
      have e := kin a o lk
      rw [obj] at e
      cases e
      exact .inr ⟨_, vs.toArray, _, lk, rfl, rfl, rfl, by rw [List.size_toArray, hints.length]; exact size, by simpa using rv⟩
  -- what is not tracked stays in sight
  have seen : ∀ {b : Addr} {o : Obj}, s₁.heap.get? b = some o → (b = a → K.lookup a ≠ none) → (hidT s₁.heap (H0 K a vs ns)).get? b = some o := fun {b o} e n => hidT_get e (by
    cases q : H0 K a vs ns b with
    | none => rfl
    | some u =>
      obtain ⟨h1, h2, _⟩ := H0_some q
      exact absurd h2 (n h1))
  have dicts : ∀ {b : Addr} {m : Str → Option Value}, s₁.heap.Ns b m → (hidT s₁.heap (H0 K a vs ns)).Ns b m := fun {b m} ⟨o, es, ep, e, d, r⟩ => ⟨o, es, ep, seen e (fun z => by
    subst z
    rw [obj] at e
    cases e
    cases (show Data.seq vs.toArray _ = Data.dict es ep from d)), d, r⟩
  have kinB : K.In (hidT s₁.heap (H0 K a vs ns)) := fun b o e => seen (kin b o e) (fun z => by subst z; rw [e]; simp)
  have md : Mod K mg (hidT s₁.heap (H0 K a vs ns)) := ⟨kinB, dicts hm, ⟨mb, dicts hbl, hbt⟩, let ⟨mc, h1, h2⟩ := lim; ⟨mc, dicts h1, h2⟩⟩
  have e0 : Env0 P w K mg (hidT s₁.heap (H0 K a vs ns)) callerA [] s₁ (H0 K a vs ns) :=
    { frames := rfl, mod := md, bs := fun b o e => of_hidT e, bsz := Nat.le_of_eq (hidT_size _ _), funs := trivial, frf := fun b hb => (List.not_mem_nil hb).elim, hok := ok, bare := .of_eq gens }
  refine codeAny_mono ((F _ kinB (dicts hm)).run callerA [] s₁ (H0 K a vs ns) ⟨[.ref a], []⟩ [.ref a] [.ref a] (fun v _ => v = .bl true) E0 rfl room e0 (bind s₁ (.ref a)) (.cons rfl .nil) (want _ sq)) fun r s' h => ?_
  match r, h with
  | .error z, h => exact False.elim h
  | .ok (.ret u), ⟨v, H', os, bare, un, ok', rv', q⟩ =>
    have q' : v = .bl true := q
    subst q'
    obtain rfl : u = Value.bool true := rv'
    refine ⟨rfl, OldK.of_keep fun b o e => ?_, os, bare⟩
    cases t : H0 K a vs ns b with
    | none => exact un.keep b o e t (fun z => (List.not_mem_nil z).elim) (fun z => (List.not_mem_nil z).elim)
    | some u =>
      obtain ⟨rfl, _, rfl⟩ := H0_some t
      have e2 := (ok' b _ (un.frzs b _ _ t)).1
      rw [obj] at e
      cases e
      exact e2
theorem walk_ofG {l : PySem.W.OpenLaw} {n k : Nat} {q : Program} {loose : List Str} {XP : (Str → Option Value) → Heap → Prop} {YP : World → Heap → Prop} {d : DefRec} {K : Params → PySem.W.Frag} {sp : World → Sp} {x : Str}
    (hn : l.most = some n) (hn2 : n ≤ sizeLine) (hdf : d.params.defaults = []) (room : Room k callerA) (hY : ∀ (w : World) (h : Heap), YP w h → (K w.params).In h)
    (F : ∀ (w : World) (mg : Str → Option Value) (fa : Addr) (h : Heap), (K w.params).In h → h.Ns mainGlobals mg → mg d.name = some (.ref fa) →
      ∃ fd : FuncData, (∀ (s : Shared) (u : Value), BindsTo s fd ⟨[u], []⟩ [(x, u)]) ∧ ∀ base : Heap, (K w.params).In base → base.Ns mainGlobals mg → FnG l.prog w (K w.params) mg base CX0 k fa fd [x] (sp w))
    (want : ∀ (w : World) (H : Hp) (a : Addr) (ns : List Int), ns.length ≤ n → SqL (K w.params) H a (ns.map V.int) → sp w [.ref a] H (fun v _ => v = .bl true) E0) :
    PySem.W.WalkO q loose XP YP l.row.toRowW d [] (fun f vs => PySem.call f vs) := by
  refine Att.attach_call hn hdf fun w s₀ s₁ mg mb fa o pm cd doc a vs ns G Y ho hd hcd hmg hobj hints hlen hg => ?_
  have kin := hY w _ Y
  obtain ⟨fd, hb, hF⟩ := F w mg fa _ kin G.T.g hmg
  exact law_callG kin G.T.g G.T.b G.T.builtins G.T.nolimit hg hobj hints (Nat.le_trans hlen hn2) room hF hb fun H hS => want w H a ns hlen hS
end Ls
namespace Ls
open PySem PySem.Spec PyProof.Rows L2
/-- the end over a head by facts, for a law that asks repr: the written part is told by the head -/
theorem walk_ofGE {l : PySem.W.OpenLaw} {n k : Nat} {q : Program} {loose : List Str} {XP : (Str → Option Value) → Heap → Prop} {YP : World → Heap → Prop} {d : DefRec} {x : Str} (hn : l.most = some n) (hn2 : n ≤ sizeLine) (hdf : d.params.defaults = []) (room : Room k callerA)
    (F : ∀ (w : World) (mg : Str → Option Value) (fa : Addr) (h : Heap), YP w h → h.Ns mainGlobals mg → mg d.name = some (.ref fa) → ∃ (K : PySem.W.Frag) (fd : FuncData) (sp : Sp), K.In h ∧ (∀ (s : Shared) (u : Value), BindsTo s fd ⟨[u], []⟩ [(x, u)]) ∧
      (∀ (H : Hp) (a : Addr) (ns : List Int), ns.length ≤ n → SqL K H a (ns.map V.int) → sp [.ref a] H (fun v _ => v = .bl true) E0) ∧ ∀ base : Heap, K.In base → base.Ns mainGlobals mg → FnG l.prog w K mg base CX0 k fa fd [x] sp) :
    PySem.W.WalkO q loose XP YP l.row.toRowW d [] (fun f vs => PySem.call f vs) := by
  refine Att.attach_call hn hdf fun w s₀ s₁ mg mb fa o pm cd doc a vs ns G Y ho hd hcd hmg hobj hints hlen hg => ?_
  obtain ⟨K, fd, sp, kin, hb, want, hF⟩ := F w mg fa _ Y G.T.g hmg
  exact law_callG kin G.T.g G.T.b G.T.builtins G.T.nolimit hg hobj hints (Nat.le_trans hlen hn2) room hF hb fun H hS => want H a ns hlen hS
end Ls
namespace Ls
open PySem PySem.Spec PyProof.Rows L2
def topS (i : Nat) : Stmt := PySem.Challenge.pw_longstrike_k48_rank_papers.main.body.getD i (.Pass ⟨0, 0, 0, 0⟩)
/-- the built-in names that are called -/
structure Bt (mg : Str → Option Value) : Prop where
  m_int : mg "int" = none
  m_len : mg "len" = none
  m_range : mg "range" = none
  m_list : mg "list" = none
  m_tuple : mg "tuple" = none
  m_dict : mg "dict" = none
  m_isinstance : mg "isinstance" = none
  m_all : mg "all" = none
  m_any : mg "any" = none
  m_repr : mg "repr" = none
  m_str : mg "str" = none
/-! ### short steps -/
local macro_rules | `(tactic| walk_at "ls_ne") => `(tactic| first | assumption | exact Ne.symm (by assumption) | exact ne_of_none (by assumption) (by assumption) | exact Ne.symm (ne_of_none (by assumption) (by assumption)))
local macro_rules | `(tactic| walk_at "ls_hp") => `(tactic| first
  | with_reducible assumption
  | exact upd_same
  | exact Eq.trans (upd_ne (by walk_at "ls_ne")) (by walk_at "ls_hp"))
local macro_rules | `(tactic| walk_at "ls_st") => `(tactic| first
  | with_reducible assumption
  | exact Stm.upd (by walk_at "ls_st") (by first | walk_at "ls_ne" | exact (Stm.noneS (by assumption) (by assumption)).1) (by first | walk_at "ls_ne" | exact (Stm.noneS (by assumption) (by assumption)).2))
local macro_rules | `(tactic| walk_at "ls1") => `(tactic| first
  | refine ⟨_, rfl, ?_⟩
  | refine ⟨_, _, rfl, rfl, ?_⟩
  | refine ⟨_, _, _, _, rfl, rfl, .inl (.inl (by walk_at "ls_hp")), rfl, ?_⟩
  | refine ⟨_, _, _, _, rfl, rfl, (by walk_at "ls_hp"), rfl, ?_⟩
  | refine ⟨rfl, _, rfl, ?_⟩
  | refine ⟨.inl ⟨rfl, _, .inl (.inl (by walk_at "ls_hp"))⟩, ?_⟩)
local macro_rules | `(tactic| walk_at "ls") => `(tactic| repeat (walk_at "ls1"))

section
variable {P : Program} {w : World} {K : PySem.W.Frag} {mg : Str → Option Value} {base : Heap}
/-! ### _law_draw -/
abbrev s__law_draw : Stmt := topS 56
theorem sc__law_draw : FnScope ["_law_stream", "_law_many", "_law_digit", "_law_mixed_here"] ["_law_stream", "_law_many"] (defScope s__law_draw) := ⟨rfl, rfl, rfl, by decide +kernel, rfl, by decide +kernel, by decide +kernel⟩
abbrev N__law_draw : List Str := ["_law_stream", "_law_many", "_law_digit", "_law_mixed_here"]
theorem ok_draw {f : Addr} {fd : FuncData} {j : Nat} (F : Fun K "_law_draw" "_law_draw" s__law_draw f fd) (T : Bt mg) : FnOk P w K mg base CX0 (j + 1) f fd ["_law_stream", "_law_many"] spDraw := by
  refine F.ok sc__law_draw (fun vs H Q E h => ?_) (fun cdv A outer s H vs Q E hr h => ?_)
  · obtain ⟨S, L, n, k, rfl, _⟩ := h
    rfl
  · obtain ⟨S, L, n, k, rfl, hst, hn, hk, hk2, q⟩ := h
    have hu := hu_of hr
    refine ⟨_, (pss_cons (ps_asg (pe_op op_add (pe_ix (ixL K) (pv 0) pe_int (fun _ _ => rfl)) pe_int) (pg_sub (pv 0) pe_int set_list))
      (C8.pss_cut (ps_if (PW.pt (pw_and (pt_cmpR op_eq (pe_ix (ixL K) (pv 0) pe_int (fun _ _ => rfl)) pe_int (nomark _)) (pw_and1 (pt_cmpR (neD K hr) (pe_ix (ixL K) (pv 0) pe_int (fun _ _ => rfl)) (pe_lst pa_nil) (nomark _))))) (pss_cons (ps_asg (pe_bm PySem.F.plainAttrs_list PySem.F.slot_list_pop PySem.F.type_list_pop mt_popAt (pe_ix (ixL K) (pv 0) pe_int (fun _ _ => rfl)) (pa_cons pe_int pa_nil)) (pg_sub (pv 0) pe_int set_list))
      (pss_one (ps_if (pt_cmpR op_lt (pe_ix (ixL K) (pv 0) pe_int (fun _ _ => rfl)) (pe_op op_pow pe_int pe_int) (nomark _)) (pss_cons (ps_asg (pe_op op_mod (pe_callTy call_int1 (by rfl) T.m_int (by decide +kernel) (pa_cons (pe_op op_add (pe_op op_add (pe_op op_mul (pe_ix (ixL K) (pv 0) pe_int (fun _ _ => rfl)) pe_int) (pe_ix (ixL K) (pv 0) pe_int (fun _ _ => rfl))) pe_int) pa_nil)) pe_int) (pg_sub (pv 0) pe_int set_list))
      (pss_one (ps_asg pe_int (pg_sub (pv 0) pe_int set_list)))) pss_nil))) pss_nil)
      (pss_cons (ps_if (pt_cmpR op_gt (pe_ix (ixL K) (pv 0) pe_int (fun _ _ => rfl)) pe_int (nomark _)) (pss_cons (ps_set (i := 2) sc__law_draw.nd rfl (Or.inl rfl) (pe_op op_mod (pe_callTy call_int1 (by rfl) T.m_int (by decide +kernel) (pa_cons (pe_ix (ixL K) (pv 0) pe_int (fun _ _ => rfl)) pa_nil)) (pv 1)))
      (pss_cons (ps_asg (pe_op op_fdivW (pe_ix (ixL K) (pv 0) pe_int (fun _ _ => rfl)) (pv 1)) (pg_sub (pv 0) pe_int set_list))
      (pss_one (ps_ret (pv 2))))) pss_nil)
      (pss_cons (ps_set (i := 3) sc__law_draw.nd rfl (Or.inl rfl) (pe_op op_mod (pe_op op_pow (pe_op op_add (pe_op op_add (pe_ix (ixL K) (pv 0) pe_int (fun _ _ => rfl)) (pe_op op_mul pe_int (pe_ix (ixL K) (pv 0) pe_int (fun _ _ => rfl)))) pe_int) pe_int) pe_int))
      (pss_one (ps_ret (pe_op op_mod (pe_op op_mod (pe_op op_pow (pe_op op_add (pe_op op_add (pe_op op_mul (pv 3) pe_int) (pe_op op_mul (pe_op op_mul pe_int (pe_ix (ixL K) (pv 0) pe_int (fun _ _ => rfl))) (pe_ix (ixL K) (pv 0) pe_int (fun _ _ => rfl)))) pe_int) pe_int) pe_int) (pv 1)))))))), ?_⟩
    obtain ⟨ns, d, c, m, hS, hL, d0, c0, cn, m0, m1⟩ := id hst
    have nSL := hst.ne
    walk_at "ls"
    refine ⟨fun σ' H' => σ' = [some (.ref S), some (.int k), none, none] ∧ ∃ (ns : List Int) (d m : Int), H' S = some (.lst [.ref L, .int d, .int (c + 1), .int m]) ∧ H' L = some (.lst (ns.map V.int)) ∧ 0 ≤ d ∧ 0 ≤ m ∧ m < 2147483647 ∧ Old S L H H', ?_, ?_⟩
    · walk_at "ls"
      refine ite2 (fun e => ?_) (fun e => ?_)
      · walk_at "ls"
        refine ⟨by decide, fun p hp => ?_⟩
        have hd : d = 0 := V.int.inj (of_decide_eq_true e)
        subst hd
        have nSp : p ≠ S := fun z => by rw [z, upd_same] at hp; cases hp
        have nLp : p ≠ L := fun z => by rw [z, upd_ne nSL.symm, hL] at hp; cases hp
        refine ⟨.list (ns.map .int), .list [], .lst (.inl (.inl (by walk_at "ls_hp"))) (dp_ints _), .lst (.inl (.inl upd_same)) .nil, shaped_ints ns, by decide +kernel, _, rfl, ?_⟩
        rw [eqv_nil]
        cases ns with
        | nil =>
          rw [decide_eq_true rfl]
          refine iteF ?_
          exact ⟨rfl, [], 0, m, (by walk_at "ls_hp"), (by walk_at "ls_hp"), d0, m0, m1, fun b o h1 h2 e => by rw [upd_ne (ne_of_none (by rw [upd_ne h1]; exact e) hp), upd_ne h1]; exact e⟩
        | cons x r =>
          rw [decide_eq_false (by simp)]
          refine iteT ?_
          walk_at "ls"
          refine ⟨_, _, _, 0, .int x, rfl, rfl, (by walk_at "ls_hp"), by decide, by decide, (ixN_seq (by show ixN ((List.map V.int (x :: r)).length) 0 = some 0; unfold ixN; rw [if_pos (by decide), if_pos (by rw [List.length_map, List.length_cons]; omega)]; rfl)).1, rfl, ?_⟩
          walk_at "ls"
          refine ⟨⟨by decide, by decide, by decide⟩, ?_⟩
          walk_at "ls"
          refine ite2 (fun e => ?_) (fun e => ?_)
          · walk_at "ls"
            refine ⟨.inr ⟨by decide, by decide⟩, ?_⟩
            walk_at "ls"
            refine .inl ⟨_, rfl, ?_⟩
            walk_at "ls"
            refine ⟨(by show (0 : Int) < 2147483647; decide), ?_⟩
            walk_at "ls"
            refine ⟨rfl, r, 0, _, upd_same, (by walk_at "ls_hp"), by decide, emod_lo _ (by decide), emod_hi _ (by decide), fun b o h1 h2 e => ?_⟩
            have np : b ≠ p := ne_of_none (by rw [upd_ne h1]; exact e) hp
            rw [upd_ne h1, upd_ne h1, upd_ne h1, upd_ne h2, upd_ne np, upd_ne h1]
            exact e
          · refine ⟨rfl, r, x, m, upd_same, (by walk_at "ls_hp"), ?_, m0, m1, fun b o h1 h2 e => ?_⟩
            · have hx : ¬ x < 10 ^ (18 : Int).toNat := fun z => e (decide_eq_true z)
              have h18 : (0 : Int) ≤ 10 ^ (18 : Int).toNat := by decide
              omega
            have np : b ≠ p := ne_of_none (by rw [upd_ne h1]; exact e) hp
            rw [upd_ne h1, upd_ne h2, upd_ne np, upd_ne h1]
            exact e
      · exact ⟨rfl, ns, d, m, upd_same, (by walk_at "ls_hp"), d0, m0, m1, fun b o h1 h2 e => by rw [upd_ne h1]; exact e⟩
    · rintro σ' H' ⟨rfl, ns, d, m, hS, hL, d0, m0, m1, hO⟩
      walk_at "ls"
      refine ite2 (fun e => ?_) (fun e => ?_)
      · have hd : 0 < d := of_decide_eq_true e
        walk_at "ls"
        refine .inl ⟨_, rfl, ?_⟩
        walk_at "ls"
        refine ⟨hk, ?_⟩
        walk_at "ls"
        refine ⟨⟨hk, log_lt hk hk2⟩, ?_⟩
        walk_at "ls"
        refine q _ _ (emod_lo _ hk) (emod_hi _ hk) ⟨ns, d / k, c + 1, m, upd_same, (by walk_at "ls_hp"), Int.ediv_nonneg (by omega) (by omega), by omega, by omega, m0, m1⟩ fun b o h1 h2 e => ?_
        rw [upd_ne h1]
        exact hO b o h1 h2 e
      · walk_at "ls"
        refine ⟨.inl ⟨by decide, by decide⟩, ?_⟩
        walk_at "ls"
        refine ⟨⟨by decide, by decide, lt_pow m0 m1 (by omega) (by omega)⟩, ?_⟩
        walk_at "ls"
        refine ⟨(by show (0 : Int) < 2147483629; decide), ?_⟩
        walk_at "ls"
        refine ⟨.inr ⟨by decide, by decide⟩, ?_⟩
        walk_at "ls"
        refine ⟨.inl ⟨by decide, by decide⟩, ?_⟩
        walk_at "ls"
        refine ⟨.inr ⟨by omega, by omega⟩, ?_⟩
        walk_at "ls"
        have hx := emod_hi ((m + 104729 * (c + 1) + 17) ^ Int.toNat 5) (show (0 : Int) < 2147483629 by decide)
        have hx0 := emod_lo ((m + 104729 * (c + 1) + 17) ^ Int.toNat 5) (show (0 : Int) < 2147483629 by decide)
        have hsq := sq_le (c := c + 1) (by omega) (by omega)
        refine ⟨⟨by decide, by decide, ?_⟩, ?_⟩
        · show Int.natAbs ((m + 104729 * (c + 1) + 17) ^ Int.toNat 5 % 2147483629 * 48271 + 40503 * (c + 1) * (c + 1) + 13) < 2 ^ 64
          omega
        walk_at "ls"
        refine ⟨(by show (0 : Int) < 1000000007; decide), ?_⟩
        walk_at "ls"
        refine ⟨hk, ?_⟩
        refine q _ _ (emod_lo _ hk) (emod_hi _ hk) ⟨ns, d, c + 1, m, hS, hL, d0, by omega, by omega, m0, m1⟩ hO
end
end Ls
namespace Ls
open PySem PySem.Spec PyProof.Rows L2
/-! ### short steps -/
local macro_rules | `(tactic| walk_at "ls_ne") => `(tactic| first | assumption | exact Ne.symm (by assumption) | exact ne_of_none (by assumption) (by assumption) | exact Ne.symm (ne_of_none (by assumption) (by assumption)))
local macro_rules | `(tactic| walk_at "ls_hp") => `(tactic| first
  | with_reducible assumption
  | exact upd_same
  | exact Eq.trans (upd_ne (by walk_at "ls_ne")) (by walk_at "ls_hp"))
local macro_rules | `(tactic| walk_at "ls_st") => `(tactic| first
  | with_reducible assumption
  | exact Stm.upd (by walk_at "ls_st") (by first | walk_at "ls_ne" | exact (Stm.noneS (by assumption) (by assumption)).1) (by first | walk_at "ls_ne" | exact (Stm.noneS (by assumption) (by assumption)).2))
local macro_rules | `(tactic| walk_at "ls1") => `(tactic| first
  | refine ⟨_, rfl, ?_⟩
  | refine ⟨_, _, rfl, rfl, ?_⟩
  | refine ⟨_, _, _, _, rfl, rfl, .inl (.inl (by walk_at "ls_hp")), rfl, ?_⟩
  | refine ⟨_, _, _, _, rfl, rfl, (by walk_at "ls_hp"), rfl, ?_⟩
  | refine ⟨rfl, _, rfl, ?_⟩
  | refine ⟨.inl ⟨rfl, _, .inl (.inl (by walk_at "ls_hp"))⟩, ?_⟩)
local macro_rules | `(tactic| walk_at "ls") => `(tactic| repeat (walk_at "ls1"))

/-! ### texts -/
theorem abc_cps : (("abcdefghijklmnopqrstuvwxyz" : Str)).cps.toList = List.range' 97 26 := by decide +kernel
theorem abc_at {i : Int} (h0 : 0 ≤ i) (h1 : i < 26) : ∃ c : Nat, atI (("abcdefghijklmnopqrstuvwxyz" : Str)).cps.toList i = some c ∧ 97 ≤ c ∧ c ≤ 122 := by
  obtain ⟨n, rfl⟩ := Int.eq_ofNat_of_zero_le h0
  refine ⟨97 + n, ?_, by omega, by omega⟩
  rw [atI_nat (j := n) (v := 97 + n)]
  rw [abc_cps, List.getElem?_range' (by omega)]
  simp
/-- one to eight small letters -/
def Nm' (z : Str) : Prop := 1 ≤ z.length ∧ z.length ≤ 8 ∧ ∀ c ∈ z.cps.toList, 97 ≤ c ∧ c ≤ 122
def Nm (z : Str) : Prop := Nm' z ∧ z ≠ "strike"
def words : List Str := ["kind", "open", "column", "from", "to", "check", "fall", "clear", "lone", "fresh", "put", "turn", "fell", "spread", "stuck", "again", "bare", "hold"]
theorem words_nm : ∀ y ∈ words, Nm' y := by
  intro y hy
  have h : words.all (fun y => decide (1 ≤ y.length) && decide (y.length ≤ 8) && y.cps.toList.all fun c => decide (97 ≤ c) && decide (c ≤ 122)) = true := by decide +kernel
  have h2 := List.all_eq_true.mp h y hy
  simp only [Bool.and_eq_true, decide_eq_true_eq, List.all_eq_true] at h2
  exact ⟨h2.1.1, h2.1.2, fun c hc => h2.2 c hc⟩
theorem words_at {i : Int} (h0 : 0 ≤ i) (h1 : i < 18) : ∃ y, atI (words.map V.str) i = some (.str y) ∧ y ∈ words := by
  obtain ⟨n, rfl⟩ := Int.eq_ofNat_of_zero_le h0
  have hl : words.length = 18 := by decide +kernel
  have hn : n < words.length := by omega
  refine ⟨words[n], atI_nat ?_, List.getElem_mem hn⟩
  rw [List.getElem?_map, List.getElem?_eq_getElem hn]
  rfl
theorem all_flat : ∀ ts : List Str, (ts.map V.str).all flatV = true
  | [] => rfl
  | t :: r => by rw [List.map_cons, List.all_cons, all_flat r]; rfl
theorem in_strs (z : Str) : ∀ ts : List Str, inV (.str z) (ts.map V.str) = decide (z ∈ ts)
  | [] => rfl
  | t :: r => by
    have ih := in_strs z r
    unfold inV at ih ⊢
    rw [List.map_cons, List.any_cons, ih]
    by_cases h : t = z
    · subst h
      simp [eqV]
    · have h2 : ¬ z = t := fun e => h e.symm
      simp [eqV, h, h2]
theorem signs_at {z : Str} {i : Nat} {x : V} (h : (signs z)[i]? = some x) : ∃ c, x = .str ⟨#[c]⟩ := by
  unfold signs at h
  rw [List.getElem?_map] at h
  cases e : z.cps.toList[i]? with
  | none => rw [e] at h; cases h
  | some c => rw [e] at h; exact ⟨c, (Option.some.inj h).symm⟩
theorem str_at {ts : List Str} {i : Nat} {x : V} (h : (ts.map V.str)[i]? = some x) : ∃ y, x = .str y := by
  rw [List.getElem?_map] at h
  cases e : ts[i]? with
  | none => rw [e] at h; cases h
  | some c => rw [e] at h; exact ⟨c, (Option.some.inj h).symm⟩
def addQ : V → Option V
  | .str c => some (.str ("q" ++ c))
  | _ => none
def qs : List Str := (List.range' 97 26).map fun c => ("q" : Str) ++ (⟨#[c]⟩ : Str)
theorem addQ_all : (signs "abcdefghijklmnopqrstuvwxyz").filterMap addQ = qs.map V.str := by decide +kernel
theorem qs_nm : ∀ y ∈ qs, Nm y := by
  intro y hy
  have h : qs.all (fun y => decide (1 ≤ y.length) && decide (y.length ≤ 8) && (y.cps.toList.all fun c => decide (97 ≤ c) && decide (c ≤ 122)) && !decide (y = "strike")) = true := by decide +kernel
  have h2 := List.all_eq_true.mp h y hy
  simp only [Bool.and_eq_true, decide_eq_true_eq, List.all_eq_true, Bool.not_eq_true', decide_eq_false_iff_not] at h2
  exact ⟨⟨h2.1.1.1, h2.1.1.2, fun c hc => h2.1.2 c hc⟩, h2.2⟩
def notIn (ts : List Str) (v : V) : Option V := if inV v (ts.map V.str) = true then none else some v
theorem notIn_all (ts : List Str) : ∀ ys : List Str, (ys.map V.str).filterMap (notIn ts) = (ys.filter fun z => !decide (z ∈ ts)).map V.str
  | [] => rfl
  | y :: r => by
    rw [List.map_cons, List.filterMap_cons, List.filter_cons, notIn_all ts r]
    unfold notIn
    rw [in_strs]
    by_cases h : y ∈ ts
    · simp [h]
    · simp [h]
theorem sub_len : ∀ (l : List Str), l.Nodup → ∀ ts : List Str, (∀ x ∈ l, x ∈ ts) → l.length ≤ ts.length
  | [], _, ts, _ => Nat.zero_le _
  | a :: r, nd, ts, h => by
    have ha : a ∈ ts := h a (List.mem_cons_self ..)
    have nd' := List.nodup_cons.mp nd
    have ih := sub_len r nd'.2 (ts.erase a) fun x hx => (List.mem_erase_of_ne (fun e => nd'.1 (by rw [← e]; exact hx))).mpr (h x (List.mem_cons_of_mem _ hx))
    rw [List.length_erase_of_mem ha] at ih
    have : 0 < ts.length := List.length_pos_of_mem ha
    rw [List.length_cons]
    omega
theorem some_q {ts : List Str} (h : ts.length < 26) : ∃ y r, (qs.filter fun z => !decide (z ∈ ts)) = y :: r ∧ y ∈ qs ∧ y ∉ ts := by
  cases e : qs.filter fun z => !decide (z ∈ ts) with
  | nil =>
    have h2 : ∀ x ∈ qs, x ∈ ts := fun x hx => by
      have := List.filter_eq_nil_iff.mp e x hx
      simpa using this
    have h3 := sub_len qs (by decide +kernel) ts h2
    have h4 : qs.length = 26 := by decide +kernel
    omega
  | cons y r =>
    have hm : y ∈ qs.filter fun z => !decide (z ∈ ts) := by rw [e]; exact List.mem_cons_self ..
    have h2 := List.mem_filter.mp hm
    exact ⟨y, r, rfl, h2.1, by simpa using h2.2⟩
/-- a text of one sign -/
def one (c : Nat) : Str := ⟨#[c]⟩
theorem joinL_nil : ∀ ps : List (List Nat), TL.joinL [] ps = ps.flatten
  | [] => rfl
  | [p] => by simp [TL.joinL]
  | p :: q :: r => by
    show p ++ ([] ++ TL.joinL [] (q :: r)) = _
    rw [joinL_nil (q :: r)]
    simp
theorem join_ones (cs : List Nat) : Txt.join "" (cs.map one) = ⟨cs.toArray⟩ := by
  have e : cs.map one = (cs.map fun c => [c]).map SX.S := by rw [List.map_map]; rfl
  have e2 : (("" : Str)) = SX.S [] := by decide +kernel
  rw [e, e2, SX.join_S, joinL_nil]
  have : (cs.map fun c => [c]).flatten = cs := by
    clear e e2
    induction cs with
    | nil => rfl
    | cons a r ih =>
      rw [List.map_cons, List.flatten_cons, ih]
      rfl
  rw [this]
theorem ones_len (cs : List Nat) : ((cs.map one).map (·.length)).sum = cs.length := by
  induction cs with
  | nil => rfl
  | cons a r ih =>
    rw [List.map_cons, List.map_cons, List.sum_cons, ih]
    show (1 : Nat) + _ = _
    rw [List.length_cons]
    omega
section
variable {P : Program} {w : World} {K : PySem.W.Frag} {mg : Str → Option Value} {base : Heap}
theorem Old.sq {S L a : Addr} {H H' : Hp} {xs : List V} (h : Old S L H H') (h1 : a ≠ S) (h2 : a ≠ L) (q : SqL K H a xs) : SqL K H' a xs := by
  rcases q with (q | ⟨o, q⟩) | q
  · exact .inl (.inl (h _ _ h1 h2 q))
  · exact .inl (.inr ⟨o, h _ _ h1 h2 q⟩)
  · exact .inr q
/-! ### _law_pick -/
abbrev s__law_pick : Stmt := topS 57
theorem sc__law_pick : FnScope ["_law_stream", "_law_things"] ["_law_stream", "_law_things"] (defScope s__law_pick) := ⟨rfl, rfl, rfl, by decide +kernel, rfl, by decide +kernel, by decide +kernel⟩
abbrev N__law_pick : List Str := ["_law_stream", "_law_things"]
def spPick (K : PySem.W.Frag) : Sp := fun vs H Q _ => ∃ (S L a : Addr) (n : Nat) (xs : List V), vs = [.ref S, .ref a] ∧ Stm H S L n ∧ n ≤ 10000000 ∧ SqL K H a xs ∧ a ≠ S ∧ a ≠ L ∧ 0 < xs.length ∧ xs.length ≤ 1000000 ∧
  ∀ (H' : Hp) (v : V), v ∈ xs → Stm H' S L (n + 1) → Old S L H H' → Q v H'
theorem atI_mem {xs : List V} {i : Int} (h0 : 0 ≤ i) (h1 : i < (xs.length : Int)) : ∃ v, atI xs i = some v ∧ v ∈ xs := by
  obtain ⟨n, rfl⟩ := Int.eq_ofNat_of_zero_le h0
  have hn : n < xs.length := by omega
  exact ⟨xs[n], atI_nat (List.getElem?_eq_getElem hn), List.getElem_mem hn⟩
theorem ok_pick {f : Addr} {fd : FuncData} (F : Fun K "_law_pick" "_law_pick" s__law_pick f fd) (T : Bt mg) (O__law_draw : Own P w K mg base CX0 1 "_law_draw" ["_law_stream", "_law_many"] spDraw) : FnOk P w K mg base CX0 2 f fd ["_law_stream", "_law_things"] (spPick K) := by
  refine F.ok sc__law_pick (fun vs H Q E h => ?_) (fun cdv A outer s H vs Q E hr h => ?_)
  · obtain ⟨S, L, a, n, xs, rfl, _⟩ := h
    rfl
  · obtain ⟨S, L, a, n, xs, rfl, hst, hn, hq, aS, aL, x0, x1, q⟩ := h
    have hu := hu_of hr
    refine ⟨_, (pss_one (ps_ret (pe_ix (ixL K) (pv 1) (own_call O__law_draw hr (by first | decide | omega) (pa_cons (pv 0) (pa_cons (pe_callB (len_seq K) (by rfl) T.m_len (by decide +kernel) (pa_cons (pv 1) pa_nil)) pa_nil))) (fun _ _ => rfl)))), ?_⟩
    walk_at "ls"
    refine ⟨_, _, rfl, .inl hq, ?_⟩
    refine ⟨S, L, n, _, rfl, hst, hn, by omega, by omega, fun H' r r0 r1 hst' hO => ?_⟩
    obtain ⟨v, hv, hm⟩ := atI_mem r0 r1
    exact ⟨_, _, _, v, rfl, rfl, hO.sq aS aL hq, hv, q H' v hm hst' hO⟩
/-! ### _law_fresh -/
abbrev s__law_fresh : Stmt := topS 60
theorem sc__law_fresh : FnScope ["_law_stream", "_law_taken", "_law_letters", "_law_words", "_law_name", "_law_k", "_law_one", "_law_sign"] ["_law_stream", "_law_taken"] (defScope s__law_fresh) := ⟨rfl, rfl, rfl, by decide +kernel, rfl, by decide +kernel, by decide +kernel⟩
abbrev N__law_fresh : List Str := ["_law_stream", "_law_taken", "_law_letters", "_law_words", "_law_name", "_law_k", "_law_one", "_law_sign"]
def spFresh : Sp := fun vs H Q _ => ∃ (S L a : Addr) (n : Nat) (ts : List Str), vs = [.ref S, .ref a] ∧ Stm H S L n ∧ n ≤ 9999900 ∧ H a = some (.lst (ts.map V.str)) ∧ a ≠ S ∧ a ≠ L ∧ ts.length < 26 ∧
  ∀ (H' : Hp) (z : Str), Nm z → z ∉ ts → Stm H' S L (n + 12) → Old S L H H' → Q (.str z) H'
theorem ok_fresh {f : Addr} {fd : FuncData} (F : Fun K "_law_fresh" "_law_fresh" s__law_fresh f fd) (T : Bt mg) (O__law_draw : Own P w K mg base CX0 1 "_law_draw" ["_law_stream", "_law_many"] spDraw) : FnOk P w K mg base CX0 2 f fd ["_law_stream", "_law_taken"] spFresh := by
  refine F.ok sc__law_fresh (fun vs H Q E h => ?_) (fun cdv A outer s H vs Q E hr h => ?_)
  · obtain ⟨S, L, a, n, ts, rfl, _⟩ := h
    rfl
  · obtain ⟨S, L, a, n, ts, rfl, hst, hn, ha, aS, aL, tl, q⟩ := h
    have hu := hu_of hr
    refine ⟨_, (pss_cons (ps_asg (pe_tup (pa_cons pe_str (pa_cons (pe_lst (pa_cons pe_str (pa_cons pe_str (pa_cons pe_str (pa_cons pe_str (pa_cons pe_str (pa_cons pe_str (pa_cons pe_str pa_nil)))))))) pa_nil))) (pg_tup rfl (pgs_cons (pg_name (i := 2) sc__law_fresh.nd rfl (Or.inr rfl)) (pgs_cons (pg_name (i := 3) sc__law_fresh.nd rfl (Or.inl rfl)) pgs_nil))))
      (pss_cons (ps_set (i := 3) sc__law_fresh.nd rfl (Or.inl rfl) (pe_op op_cat (pv 3) (pe_lst (pa_cons pe_str (pa_cons pe_str (pa_cons pe_str (pa_cons pe_str (pa_cons pe_str (pa_cons pe_str (pa_cons pe_str (pa_cons pe_str (pa_cons pe_str (pa_cons pe_str (pa_cons pe_str pa_nil))))))))))))))
      (pss_cons (ps_set (i := 4) sc__law_fresh.nd rfl (Or.inl rfl) (pe_join pe_str (pe_lc (own := [("_law_k", 5)]) (g := gName 5) (by rfl) sc__law_fresh.nd (pi_range1 rfl T.m_range (pa_cons (pe_op op_add pe_int (own_call O__law_draw hr (by first | decide | omega) (pa_cons (pv 0) (pa_cons pe_int pa_nil)))) pa_nil)) (blkOk_by (own := [("_law_k", 5)]) (N := N__law_fresh) (sc := defScope s__law_fresh) (by decide +kernel)) (fun _ _ _ _ _ => (pg_name (i := 5) sc__law_fresh.nd rfl (Or.inl rfl) (Or.inr rfl))) (fun _ _ _ _ _ => pts_nil) (fun _ _ _ _ _ => (pe_ix ix_str (pv 2) (own_call O__law_draw hr (by first | decide | omega) (pa_cons (pv 0) (pa_cons pe_int pa_nil))) (fun _ _ => rfl))))))
      (C8.pss_cut (ps_set (i := 4) sc__law_fresh.nd rfl (Or.inl rfl) (pe_ifExp (pt_cmpR op_eq (own_call O__law_draw hr (by first | decide | omega) (pa_cons (pv 0) (pa_cons pe_int pa_nil))) pe_int (nomark _)) (pe_ix (ixL K) (pv 3) (own_call O__law_draw hr (by first | decide | omega) (pa_cons (pv 0) (pa_cons pe_int pa_nil))) (fun _ _ => rfl)) (pv 4)))
      (pss_cons (ps_if (PW.pt (pw_or (pt_cmpR (in_seq K) (pv 4) (pv 1) (by rfl)) (pw_or1 (pt_cmpR op_eq (pv 4) pe_str (nomark _))))) (pss_one (ps_ret (pe_ix (ixL K) (pe_lc (own := [("_law_one", 6)]) (g := gName 6) (by rfl) sc__law_fresh.nd (pi_list (pe_lc (own := [("_law_sign", 7)]) (g := gName 7) (by rfl) sc__law_fresh.nd (pi_str (pv 2)) (blkOk_by (own := [("_law_sign", 7)]) (N := N__law_fresh) (sc := defScope s__law_fresh) (by decide +kernel)) (fun _ _ _ _ _ => (pg_name (i := 7) sc__law_fresh.nd rfl (Or.inl rfl) (Or.inr rfl))) (fun _ _ _ _ _ => pts_nil) (fun _ _ _ _ _ => (pe_op op_add_str pe_str (pv 7))))) (blkOk_by (own := [("_law_one", 6)]) (N := N__law_fresh) (sc := defScope s__law_fresh) (by decide +kernel)) (fun _ _ _ _ _ => (pg_name (i := 6) sc__law_fresh.nd rfl (Or.inl rfl) (Or.inr rfl))) (fun _ _ _ _ _ => (pts_one (pt_cmpR (notIn_seq K) (pv 6) (pv 1) (by rfl)))) (fun _ _ _ _ _ => (pv 6))) pe_int (fun _ _ => rfl)))) pss_nil)
      (pss_one (ps_ret (pv 4)))))))), ?_⟩
    refine ⟨(by show 7 ≤ sizeLine; decide), fun w0 hw0 => ⟨(by show 2 ≤ sizeLine; decide), fun t0 ht0 => ?_⟩⟩
    have nw0 := hst.noneS hw0
    have nt0 : t0 ≠ w0 := fun e => by rw [e, upd_same] at ht0; cases ht0
    refine ⟨_, _, rfl, .inl (.inl upd_same), rfl, _, _, rfl, _, _, rfl, rfl, ?_⟩
    walk_at "ls"
    refine ⟨(by show 11 ≤ sizeLine; decide), fun w1 hw1 => ?_⟩
    have n10 : w1 ≠ w0 := fun e => by rw [e, upd_ne nt0.symm, upd_same] at hw1; cases hw1
    refine ⟨_, _, _, _, rfl, rfl, (by rw [upd_ne n10.symm, upd_ne nt0.symm]; exact upd_same), upd_same, (by show 7 + 11 ≤ sizeLine; decide), fun w2 hw2 => ?_⟩
    have mt := (Stm.upd hst nw0.1 nw0.2).noneS ht0
    have m1 := (Stm.upd (Stm.upd hst nw0.1 nw0.2) mt.1 mt.2).noneS hw1
    have m2 := (Stm.upd (Stm.upd (Stm.upd hst nw0.1 nw0.2) mt.1 mt.2) m1.1 m1.2).noneS hw2
    refine at_heap (φ := fun H1 => Stm H1 S L n ∧ Old S L H H1 ∧ H1 w2 = some (.lst (words.map V.str)) ∧ w2 ≠ S ∧ w2 ≠ L) ⟨?_, ?_, upd_same, m2⟩ ?_
    · exact (((hst.upd nw0.1 nw0.2).upd mt.1 mt.2).upd m1.1 m1.2).upd m2.1 m2.2
    · exact (((Old.new hw0).trans (.new ht0)).trans (.new hw1)).trans (.new hw2)
    rintro H1 ⟨st1, od1, h2, nw2⟩
    walk_at "ls"
    refine ⟨⟨_, rfl⟩, ?_⟩
    walk_at "ls"
    refine ⟨S, L, n, 8, rfl, st1, by omega, by decide, by decide, fun H2 r r0 r1 st2 od2 => ?_⟩
    walk_at "ls"
    refine ⟨by omega, by omega, fun D hD => ?_⟩
    have nD := st2.noneS hD
    refine lc_it walk_range (fun i H3 => ∃ cs : List Nat, cs.length = i ∧ (∀ c ∈ cs, 97 ≤ c ∧ c ≤ 122) ∧ H3 D = some (.lst ((cs.map one).map V.str)) ∧ Stm H3 S L (n + 1 + i) ∧ Old S L H2 H3) ⟨[], rfl, (fun _ h => nomatch h), upd_same, st2.upd nD.1 nD.2, .new hD⟩ (fun _ _ _ _ => trivial) (fun i x H3 H4 hi hP hy => ?_) (fun H3 hP => ?_)
    · obtain ⟨cs, hl, hc, h3, st3, od3⟩ := hP
      obtain ⟨rfl, rfl⟩ := hy
      refine ⟨rfl, ?_⟩
      walk_at "ls"
      refine ⟨S, L, n + 1 + i, 26, rfl, st3, by omega, by decide, by decide, fun H5 q0 q1 q2 st5 od5 => ?_⟩
      obtain ⟨c, hcat, hc1, hc2⟩ := abc_at q1 q2
      refine ⟨_, _, c, rfl, rfl, (by decide +kernel), hcat, _, od5 D _ nD.1 nD.2 h3, ?_, cs ++ [c], ?_, ?_, ?_, ?_, ?_⟩
      · rw [List.length_map, List.length_map, hl]
        exact small1000 (by omega)
      · rw [List.length_append, hl]
        rfl
      · intro d hd
        rcases List.mem_append.mp hd with h | h
        · exact hc d h
        · rw [List.mem_singleton.mp h]
          exact ⟨hc1, hc2⟩
      · rw [upd_same, List.map_append, List.map_append]
        rfl
      · exact (st5.mono (by omega)).upd nD.1 nD.2
      · intro b o h1 h2 e
        rw [upd_ne (ne_of_none e hD)]
        exact od5 b o h1 h2 (od3 b o h1 h2 e)
    · obtain ⟨cs, hl, hc, h3, st3, od3⟩ := hP
      refine ⟨_, D, cs.map one, rfl, rfl, .inl (.inl (.inl h3)), ?_, ?_⟩
      · rw [ones_len, List.length_map]
        show cs.length + cs.length * 0 ≤ 16777216
        omega
      rw [join_ones]
      refine at_heap (φ := fun H4 => Stm H4 S L (n + 10) ∧ Old S L H H4 ∧ H4 w2 = some (.lst (words.map V.str))) ⟨st3.mono (by omega), (od1.trans od2).trans od3, od3 _ _ nw2.1 nw2.2 (od2 _ _ nw2.1 nw2.2 h2)⟩ ?_
      rintro H4 ⟨st4, od4, h4⟩
      refine ⟨fun σ' H' => ∃ z, Nm' z ∧ σ' = [some (.ref S), some (.ref a), some (.str "abcdefghijklmnopqrstuvwxyz"), some (.ref w2), some (.str z), none, none, none] ∧ Stm H' S L (n + 12) ∧ Old S L H H', ?_, ?_⟩
      · walk_at "ls"
        refine ⟨S, L, n + 10, 8, rfl, st4, by omega, by decide, by decide, fun H5 q0 q1 q2 st5 od5 => ?_⟩
        walk_at "ls"
        refine ite2 (fun e => ?_) (fun e => ?_)
        · walk_at "ls"
          refine ⟨S, L, n + 11, 18, rfl, st5, by omega, by decide, by decide, fun H6 u0 u1 u2 st6 od6 => ?_⟩
          obtain ⟨y, hy, hm⟩ := words_at u1 u2
          exact ⟨_, _, _, _, rfl, rfl, .inl (.inl (od6 _ _ nw2.1 nw2.2 (od5 _ _ nw2.1 nw2.2 h4))), hy, y, words_nm y hm, rfl, st6, (od4.trans od5).trans od6⟩
        · walk_at "ls"
          exact ⟨_, ⟨(by show 1 ≤ cs.toArray.size; rw [List.size_toArray]; omega), (by show cs.toArray.size ≤ 8; rw [List.size_toArray]; omega), fun c h => hc c h⟩, rfl, st5.mono (by omega), od4.trans od5⟩
      · rintro σ' H6 ⟨z, hz, rfl, st6, od6⟩
        have ha6 : H6 a = some (.lst (ts.map V.str)) := od6 _ _ aS aL ha
        refine or2 (decide (z ∈ ts)) (decide (V.str z = V.str "strike")) (fun Q' q' => ?_) (fun _ Q' q' => ?_) ?_
        · walk_at "ls"
          refine ⟨_, _, rfl, .inl (.inl (.inl ha6)), rfl, all_flat ts, _, rfl, ?_⟩
          rw [in_strs]
          exact q'
        · walk_at "ls"
          exact q'
        refine ite2 (fun e => ?_) (fun e => ?_)
        · -- some name that is not taken
          walk_at "ls"
          intro D1 hD1
          refine lc_pure walk_str (signs "abcdefghijklmnopqrstuvwxyz") addQ (signs_len _) yld_str (by decide +kernel) (fun _ => trivial) (fun i x hi hx => ?_) ?_
          · obtain ⟨c, rfl⟩ := signs_at hx
            refine ⟨rfl, ?_⟩
            walk_at "ls"
            exact ⟨(by show 1 + 1 ≤ sizeLine; decide), lc_yes hx hi (by decide +kernel) rfl⟩
          have nd1 := st6.noneS hD1
          refine ⟨_, rfl, ⟨_, .inl (.inl upd_same)⟩, fun D2 hD2 => ?_⟩
          rw [addQ_all] at hD2 ⊢
          have n12 : D1 ≠ D2 := fun e => by rw [← e, upd_same] at hD2; cases hD2
          have naD : a ≠ D1 := ne_of_none ha6 hD1
          have ha7 : ∀ acc, (upd (upd H6 D1 (.lst (qs.map V.str))) D2 (.lst acc)) a = some (.lst (ts.map V.str)) := fun acc => by
            have naD2 : a ≠ D2 := ne_of_none (show (upd H6 D1 (.lst (qs.map V.str))) a = some _ by rw [upd_ne naD]; exact ha6) hD2
            rw [upd_ne naD2, upd_ne naD]
            exact ha6
          refine lc_pure (walk_list (xs := qs.map V.str)) (qs.map V.str) (notIn ts) rfl (fun i H x H' hi hy => hy) (by decide +kernel) (fun acc => .inl (.inl (by rw [upd_ne n12]; exact upd_same))) (fun i x hi hx => ?_) ?_
          · obtain ⟨y, rfl⟩ := str_at hx
            refine ⟨rfl, ?_⟩
            walk_at "ls"
            refine ⟨_, _, rfl, .inl (.inl (.inl (ha7 _))), rfl, all_flat ts, _, rfl, ?_⟩
            show if (!inV (V.str y) (ts.map V.str)) = true then _ else _
            rw [in_strs]
            refine ite2 (fun e => ?_) (fun e => ?_)
            · walk_at "ls"
              exact lc_yes hx hi (by decide +kernel) (by unfold notIn; rw [in_strs]; simpa using e)
            · exact lc_no hx (by unfold notIn; rw [in_strs]; simpa using e)
          · rw [notIn_all]
            obtain ⟨y, r, hy, hq, hn⟩ := some_q tl
            rw [hy]
            walk_at "ls"
            refine ⟨_, _, _, _, rfl, rfl, .inl (.inl upd_same), atI_nat (j := 0) rfl, q _ y (qs_nm y hq) hn ?_ ?_⟩
            · have nd2 := (st6.upd nd1.1 nd1.2).noneS hD2
              exact (st6.upd nd1.1 nd1.2).upd nd2.1 nd2.2
            · exact (od6.trans (.new hD1)).trans (.new hD2)
        · walk_at "ls"
          rw [Bool.or_eq_true, not_or, decide_eq_true_eq, decide_eq_true_eq] at e
          exact q H6 z ⟨hz, fun h => e.2 (congrArg V.str h)⟩ e.1 st6 od6
end
end Ls
namespace Ls
open PySem PySem.Spec PyProof.Rows L2
/-! ### short steps -/
local macro_rules | `(tactic| walk_at "ls_ne") => `(tactic| first | assumption | exact Ne.symm (by assumption) | exact ne_of_none (by assumption) (by assumption) | exact Ne.symm (ne_of_none (by assumption) (by assumption)))
local macro_rules | `(tactic| walk_at "ls_hp") => `(tactic| first
  | with_reducible assumption
  | exact upd_same
  | exact Eq.trans (upd_ne (by walk_at "ls_ne")) (by walk_at "ls_hp"))
local macro_rules | `(tactic| walk_at "ls_st") => `(tactic| first
  | with_reducible assumption
  | exact Stm.upd (by walk_at "ls_st") (by first | walk_at "ls_ne" | exact (Stm.noneS (by assumption) (by assumption)).1) (by first | walk_at "ls_ne" | exact (Stm.noneS (by assumption) (by assumption)).2))
local macro_rules | `(tactic| walk_at "ls1") => `(tactic| first
  | refine ⟨_, rfl, ?_⟩
  | refine ⟨_, _, rfl, rfl, ?_⟩
  | refine ⟨_, _, _, _, rfl, rfl, .inl (.inl (by walk_at "ls_hp")), rfl, ?_⟩
  | refine ⟨_, _, _, _, rfl, rfl, (by walk_at "ls_hp"), rfl, ?_⟩
  | refine ⟨rfl, _, rfl, ?_⟩
  | refine ⟨.inl ⟨rfl, _, .inl (.inl (by walk_at "ls_hp"))⟩, ?_⟩)
local macro_rules | `(tactic| walk_at "ls") => `(tactic| repeat (walk_at "ls1"))

section
variable {P : Program} {w : World} {K : PySem.W.Frag} {mg : Str → Option Value} {base : Heap}
theorem nodup_snoc {α : Type} {l : List α} {x : α} (h : l.Nodup) (hx : x ∉ l) : (l ++ [x]).Nodup := by
  rw [List.nodup_append]
  refine ⟨h, by simp, fun a ha b hb e => ?_⟩
  rw [List.mem_singleton.mp hb] at e
  exact hx (e ▸ ha)
theorem all_snoc {α : Type} {p : α → Prop} {l : List α} {x : α} (h : ∀ y ∈ l, p y) (hx : p x) : ∀ y ∈ l ++ [x], p y := fun y hy => by
  rcases List.mem_append.mp hy with h1 | h1
  · exact h y h1
  · rw [List.mem_singleton.mp h1]
    exact hx
/-! ### _law_names -/
abbrev s__law_names : Stmt := topS 61
theorem sc__law_names : FnScope ["_law_stream", "_law_many", "_law_found", "_law_k"] ["_law_stream", "_law_many"] (defScope s__law_names) := ⟨rfl, rfl, rfl, by decide +kernel, rfl, by decide +kernel, by decide +kernel⟩
abbrev N__law_names : List Str := ["_law_stream", "_law_many", "_law_found", "_law_k"]
/-- names, all unlike -/
def NmsOk (ts : List Str) : Prop := ts.Nodup ∧ ∀ z ∈ ts, Nm z
def spNames : Sp := fun vs H Q _ => ∃ (S L : Addr) (n m : Nat), vs = [.ref S, .int (m : Int)] ∧ Stm H S L n ∧ n ≤ 9999000 ∧ m ≤ 20 ∧
  ∀ (H' : Hp) (p : Addr) (ts : List Str), ts.length = m → NmsOk ts → H p = none → H' p = some (.lst (ts.map V.str)) → Stm H' S L (n + 12 * m) → Old S L H H' → Q (.ref p) H'
theorem ok_names {f : Addr} {fd : FuncData} (F : Fun K "_law_names" "_law_names" s__law_names f fd) (T : Bt mg) (O__law_fresh : Own P w K mg base CX0 2 "_law_fresh" ["_law_stream", "_law_taken"] spFresh) : FnOk P w K mg base CX0 3 f fd ["_law_stream", "_law_many"] spNames := by
  refine F.ok sc__law_names (fun vs H Q E h => ?_) (fun cdv A outer s H vs Q E hr h => ?_)
  · obtain ⟨S, L, n, m, rfl, _⟩ := h
    rfl
  · obtain ⟨S, L, n, m, rfl, hst, hn, hm, q⟩ := h
    have hu := hu_of hr
    refine ⟨_, (pss_cons (ps_set (i := 2) sc__law_names.nd rfl (Or.inl rfl) (pe_lst pa_nil))
      (pss_cons (ps_for PassesOwn.never rfl (pi_range1 rfl T.m_range (pa_cons (pv 1) pa_nil)) (pg_name (i := 3) sc__law_names.nd rfl (Or.inl rfl)) (pss_one (ps_expr (pe_bm PySem.F.plainAttrs_list PySem.F.slot_list_append PySem.F.type_list_append mt_append (pv 2) (pa_cons (own_call O__law_fresh hr (by first | decide | omega) (pa_cons (pv 0) (pa_cons (pv 2) pa_nil))) pa_nil)))))
      (pss_one (ps_ret (pv 2))))), ?_⟩
    refine ⟨Nat.zero_le _, fun p hp => ?_⟩
    have np := hst.noneS hp
    walk_at "ls"
    refine ⟨by omega, by omega, ?_⟩
    refine for_it walk_range (fun i σ H1 => ∃ (ts : List Str) (v : Option V), σ = [some (.ref S), some (.int (m : Int)), some (.ref p), v] ∧ ts.length = i ∧ NmsOk ts ∧ H1 p = some (.lst (ts.map V.str)) ∧ Stm H1 S L (n + 12 * i) ∧ Old S L H H1)
      ⟨[], none, rfl, rfl, ⟨List.nodup_nil, fun _ h => nomatch h⟩, upd_same, hst.upd np.1 np.2, .new hp⟩ (fun _ _ _ _ _ => trivial) ?_ ?_
    · rintro i x σ H1 H2 hi ⟨ts, v, rfl, hl, hok, h1, st1, od1⟩ ⟨rfl, rfl⟩
      walk_at "ls"
      refine ⟨S, L, p, n + 12 * i, ts, rfl, st1, by omega, h1, np.1, np.2, by omega, fun H3 z hz hn2 st3 od3 => ?_⟩
      refine ⟨_, _, _, rfl, rfl, od3 _ _ np.1 np.2 h1, ?_, ts ++ [z], _, rfl, ?_, ⟨?_, ?_⟩, ?_, ?_, ?_⟩
      · rw [List.length_map]
        exact small1000 (by omega)
      · rw [List.length_append, hl]
        rfl
      · exact nodup_snoc hok.1 hn2
      · exact all_snoc hok.2 hz
      · rw [upd_same, List.map_append]
        rfl
      · exact (st3.mono (by omega)).upd np.1 np.2
      · exact (od1.trans od3).set hp
    · rintro σ H1 ⟨ts, v, rfl, hl, hok, h1, st1, od1⟩
      walk_at "ls"
      exact q H1 p ts hl hok hp h1 st1 od1
/-! ### _law_shape -/
abbrev s__law_shape : Stmt := topS 62
theorem sc__law_shape : FnScope ["_law_stream", "_law_many", "_law_most", "_law_words", "_law_columns", "_law_name", "_law_home", "_law_goal", "_law_kinds"] ["_law_stream", "_law_many", "_law_most"] (defScope s__law_shape) := ⟨rfl, rfl, rfl, by decide +kernel, rfl, by decide +kernel, by decide +kernel⟩
abbrev N__law_shape : List Str := ["_law_stream", "_law_many", "_law_most", "_law_words", "_law_columns", "_law_name", "_law_home", "_law_goal", "_law_kinds"]
/-- what a book is made of: kinds, columns (a name, its home, its goal, does it fall) -/
structure Shp where
  ks : List (Str × Bool)
  cs : List (Str × Str × Str × Bool)
abbrev ruleS (b : Bool) : Str := if b then "fall" else "clear"
def kindV (k : Str × Bool) : List V := [.str k.1, .bl k.2]
def colV (c : Str × Str × Str × Bool) : List V := [.str c.1, .str c.2.1, .str c.2.2.1, .str (ruleS c.2.2.2)]
/-- v is a tuple of these values -/
def TupOf (H : Hp) (v : V) (ys : List V) : Prop := ∃ t, v = .ref t ∧ H t = some (.tup ys)
/-- a list of tuples stands at a -/
def TupsAt (H : Hp) (xs : List V) (yss : List (List V)) : Prop := Paired (TupOf H) xs yss
structure Shp.Ok (B : Shp) : Prop where
  nk : 0 < B.ks.length
  nk3 : B.ks.length ≤ 3
  nc : B.cs.length ≤ 8
  nd : (B.ks.map (·.1) ++ B.cs.map (·.1)).Nodup
  nm : ∀ z ∈ B.ks.map (·.1) ++ B.cs.map (·.1), Nm z
  home : ∀ c ∈ B.cs, c.2.1 ∈ B.ks.map (·.1)
  goal : ∀ c ∈ B.cs, c.2.2.1 ∈ B.ks.map (·.1)
  nc0 : 0 < B.cs.length
/-- the law's own record of a shape at b -/
structure ShpAt (S L : Addr) (H : Hp) (b : Addr) (B : Shp) (ck : List Str) : Prop where
  ex : ∃ (ka ca ea : Addr) (kx cx : List V), H b = some (.dK [(.inr "kinds", .ref ka), (.inr "columns", .ref ca), (.inr "checks", .ref ea)]) ∧
    H ka = some (.lst kx) ∧ TupsAt H kx (B.ks.map kindV) ∧ H ca = some (.lst cx) ∧ TupsAt H cx (B.cs.map colV) ∧ H ea = some (.lst (ck.map V.str)) ∧ (ka ≠ S ∧ ka ≠ L) ∧ (ca ≠ S ∧ ca ≠ L) ∧ (ea ≠ S ∧ ea ≠ L)
/-! ### what stays of tuples -/
def TK (H H' : Hp) : Prop := ∀ t ys, H t = some (.tup ys) → H' t = some (.tup ys)
theorem TK.refl (H : Hp) : TK H H := fun _ _ h => h
theorem TK.trans {H H1 H2 : Hp} (a : TK H H1) (b : TK H1 H2) : TK H H2 := fun t ys h => b t ys (a t ys h)
theorem TK.same {H H1 : Hp} (s : Same H H1) : TK H H1 := fun t ys h => s t _ h
theorem TK.new {H : Hp} {p : Addr} {o : HO} (h : H p = none) : TK H (upd H p o) := .same (same_new h)
theorem TK.lst {H : Hp} {p : Addr} {o : HO} {xs : List V} (h : H p = some (.lst xs)) : TK H (upd H p o) := fun t ys e => by
  rw [upd_ne (ne_of e h fun z => nomatch z)]
  exact e
theorem TK.dK {H : Hp} {p : Addr} {o : HO} {xs : List (Key × V)} (h : H p = some (.dK xs)) : TK H (upd H p o) := fun t ys e => by
  rw [upd_ne (ne_of e h fun z => nomatch z)]
  exact e
theorem TK.old {S L : Addr} {H H' : Hp} {n : Nat} (st : Stm H S L n) (od : Old S L H H') : TK H H' := fun t ys e => by
  obtain ⟨ns, d, c, k, h1, h2, _⟩ := st
  exact od _ _ (ne_of e h1 fun z => nomatch z) (ne_of e h2 fun z => nomatch z) e
theorem TupOf.keep {H H' : Hp} {v : V} {ys : List V} (h : TupOf H v ys) (k : TK H H') : TupOf H' v ys := by
  obtain ⟨t, e, h⟩ := h
  exact ⟨t, e, k _ _ h⟩
theorem TupsAt.keep {H H' : Hp} : ∀ {xs : List V} {yss : List (List V)}, TupsAt H xs yss → TK H H' → TupsAt H' xs yss
  | _, _, .nil, _ => .nil
  | _, _, .cons r t, k => .cons (r.keep k) (TupsAt.keep t k)
theorem TupsAt.snoc {H : Hp} : ∀ {xs : List V} {yss : List (List V)} {v : V} {ys : List V}, TupsAt H xs yss → TupOf H v ys → TupsAt H (xs ++ [v]) (yss ++ [ys])
  | _, _, _, _, .nil, r => .cons r .nil
  | _, _, _, _, .cons a t, r => .cons a (TupsAt.snoc t r)
theorem TupsAt.len {H : Hp} {xs : List V} {yss : List (List V)} (h : TupsAt H xs yss) : xs.length = yss.length := Paired.length h
theorem rule_at {i : Int} (h0 : 0 ≤ i) (h1 : i < 3) : ∃ b, atI [V.str "fall", V.str "fall", V.str "clear"] i = some (.str (ruleS b)) := by
  obtain ⟨n, rfl⟩ := Int.eq_ofNat_of_zero_le h0
  match n, h1 with
  | 0, _ => exact ⟨true, rfl⟩
  | 1, _ => exact ⟨true, rfl⟩
  | 2, _ => exact ⟨false, rfl⟩
  | k + 3, h => omega
theorem ShpAt.old {S L : Addr} {H H' : Hp} {b : Addr} {B : Shp} {ck : List Str} {n : Nat} (h : ShpAt S L H b B ck) (st : Stm H S L n) (od : Old S L H H') : ShpAt S L H' b B ck := by
  obtain ⟨ka, ca, ea, kx, cx, hb, hk, hkt, hc, hct, he, n1, n2, n3⟩ := h
  have k := TK.old st od
  have nb : b ≠ S ∧ b ≠ L := by
    obtain ⟨ns, d, c, k, h1, h2, _⟩ := st
    exact ⟨ne_of hb h1 (fun z => nomatch z), ne_of hb h2 (fun z => nomatch z)⟩
  exact ⟨ka, ca, ea, kx, cx, od _ _ nb.1 nb.2 hb, od _ _ n1.1 n1.2 hk, hkt.keep k, od _ _ n2.1 n2.2 hc, hct.keep k, od _ _ n3.1 n3.2 he, n1, n2, n3⟩
theorem ShpAt.same {S L : Addr} {H H' : Hp} {b : Addr} {B : Shp} {ck : List Str} (h : ShpAt S L H b B ck) (s : Same H H') : ShpAt S L H' b B ck := by
  obtain ⟨ka, ca, ea, kx, cx, hb, hk, hkt, hc, hct, he, n1, n2, n3⟩ := h
  exact ⟨ka, ca, ea, kx, cx, s _ _ hb, s _ _ hk, hkt.keep (.same s), s _ _ hc, hct.keep (.same s), s _ _ he, n1, n2, n3⟩
theorem cut_take (xs : List V) (n : Nat) : cutV xs none (some (n : Int)) = xs.take n := by
  unfold cutV
  rw [HT.sIx_nat, HT.sIx_none, List.drop_zero, Nat.sub_zero]
  by_cases h : n ≤ xs.length
  · rw [Nat.min_eq_left h]
  · rw [Nat.min_eq_right (by omega), List.take_of_length_le (Nat.le_refl _), List.take_of_length_le (by omega)]
theorem cut_mid (xs : List V) (m k : Nat) (hm : m ≤ xs.length) : cutV xs (some (m : Int)) (some ((m + k : Nat) : Int)) = (xs.drop m).take k := by
  unfold cutV
  rw [HT.sIx_nat, HT.sIx_nat, Nat.min_eq_left hm]
  by_cases h : m + k ≤ xs.length
  · rw [Nat.min_eq_left h, Nat.add_sub_cancel_left]
  · rw [Nat.min_eq_right (by omega), List.take_of_length_le (by rw [List.length_drop]; omega), List.take_of_length_le (by rw [List.length_drop]; omega)]
end
section
variable {P : Program} {w : World} {K : PySem.W.Frag} {mg : Str → Option Value} {base : Heap}
def spShape : Sp := fun vs H Q _ => ∃ (S L : Addr) (n m c : Nat), vs = [.ref S, .int (m : Int), .int (c : Int)] ∧ Stm H S L n ∧ n ≤ 9990000 ∧ 0 < m ∧ m ≤ 3 ∧ 0 < c ∧ c ≤ 8 ∧
  ∀ (H' : Hp) (b : Addr) (B : Shp), B.Ok → B.ks.length = m → B.cs.length ≤ c → H b = none → ShpAt S L H' b B [] → Stm H' S L (n + 200) → Old S L H H' → Q (.ref b) H'
theorem ok_shape {f : Addr} {fd : FuncData} (F : Fun K "_law_shape" "_law_shape" s__law_shape f fd) (T : Bt mg) (O__law_draw : Own P w K mg base CX0 1 "_law_draw" ["_law_stream", "_law_many"] spDraw)
    (O__law_pick : Own P w K mg base CX0 2 "_law_pick" ["_law_stream", "_law_things"] (spPick K)) (O__law_names : Own P w K mg base CX0 3 "_law_names" ["_law_stream", "_law_many"] spNames) :
    FnOk P w K mg base CX0 4 f fd ["_law_stream", "_law_many", "_law_most"] spShape := by
  refine F.ok sc__law_shape (fun vs H Q E h => ?_) (fun cdv A outer s H vs Q E hr h => ?_)
  · obtain ⟨S, L, n, m, c, rfl, _⟩ := h
    rfl
  · obtain ⟨S, L, n, m, c, rfl, hst, hn, m0, m3, c0, c8, q⟩ := h
    have hu := hu_of hr
    refine ⟨_, (pss_cons (ps_par (i := 3) (j := 4) (by rfl) sc__law_shape.nd rfl rfl (by decide) rfl rfl (pa_cons (own_call O__law_names hr (by first | decide | omega) (pa_cons (pv 0) (pa_cons (pe_op op_add (pv 1) (pv 2)) pa_nil))) (pa_cons (pe_lst pa_nil) pa_nil)) (by rfl))
      (pss_cons (ps_for PassesOwn.never rfl (pi_list (pe_slice sl_list (pv 3) (po_some (pv 1)) (po_some (pe_op op_add (pe_op op_add (pv 1) pe_int) (own_call O__law_draw hr (by first | decide | omega) (pa_cons (pv 0) (pa_cons (pv 2) pa_nil))))))) (pg_name (i := 5) sc__law_shape.nd rfl (Or.inl rfl)) (pss_cons (ps_par (i := 6) (j := 7) (by rfl) sc__law_shape.nd rfl rfl (by decide) rfl rfl (pa_cons (own_call O__law_pick hr (by first | decide | omega) (pa_cons (pv 0) (pa_cons (pe_slice sl_list (pv 3) po_none (po_some (pv 1))) pa_nil))) (pa_cons (own_call O__law_pick hr (by first | decide | omega) (pa_cons (pv 0) (pa_cons (pe_slice sl_list (pv 3) po_none (po_some (pv 1))) pa_nil))) pa_nil)) (by rfl))
      (pss_one (ps_expr (pe_bm PySem.F.plainAttrs_list PySem.F.slot_list_append PySem.F.type_list_append mt_append (pv 4) (pa_cons (pe_tup (pa_cons (pv 5) (pa_cons (pv 6) (pa_cons (pv 7) (pa_cons (pe_ix (ixL K) (pe_lst (pa_cons pe_str (pa_cons pe_str (pa_cons pe_str pa_nil)))) (own_call O__law_draw hr (by first | decide | omega) (pa_cons (pv 0) (pa_cons pe_int pa_nil))) (fun _ _ => rfl)) pa_nil))))) pa_nil))))))
      (pss_cons (ps_setLc (i := 8) (own := [("_law_name", 5)]) (g := gName 5) (by rfl) sc__law_shape.nd rfl rfl (sw_true rfl rfl rfl (by decide +kernel)) (pi_list (pe_slice sl_list (pv 3) po_none (po_some (pv 1)))) (blkOk_by (own := [("_law_name", 5)]) (N := N__law_shape) (sc := defScope s__law_shape) (by decide +kernel)) (fun _ _ _ _ _ => (pg_name (i := 5) sc__law_shape.nd rfl (Or.inl rfl) (Or.inr rfl))) (fun _ _ _ _ _ => pts_nil) (fun _ _ _ _ _ => (pe_tup (pa_cons (pv 5) (pa_cons (pe_cmpR op_gt (own_call O__law_draw hr (by first | decide | omega) (pa_cons (pv 0) (pa_cons pe_int pa_nil))) pe_int (nomark _)) pa_nil)))))
      (pss_one (ps_ret (pe_disp (pps_cons pe_str (pv 8) (pps_cons pe_str (pv 4) (pps_cons pe_str (pe_lst pa_nil) pps_nil))) (by rfl) (by rfl) (fun z => by cases z) (by decide))))))), ?_⟩
    walk_at "ls"
    refine ⟨S, L, n, m + c, rfl, hst, by omega, by omega, fun H1 pw ts tl tok hpw h1 st1 od1 => ?_⟩
    refine ⟨Nat.zero_le _, fun ca hca => ?_⟩
    refine ⟨_, _, rfl, ?_⟩
    have npw := hst.noneS hpw
    have hca0 : H ca = none := by
      cases e : H ca with
      | none => rfl
      | some o => rw [od1 _ _ (st1.noneS hca).1 (st1.noneS hca).2 e] at hca; cases hca
    have nca := st1.noneS hca
    have ncw : pw ≠ ca := ne_of_none h1 hca
    -- the slice of the columns' names
    walk_at "ls"
    refine ⟨S, L, n + 12 * (m + c), (c : Int), rfl, st1.upd nca.1 nca.2, by omega, by omega, by omega, fun H2 r r0 r1 st2 od2 => ?_⟩
    walk_at "ls"
    have h2 : H2 pw = some (.lst (ts.map V.str)) := od2 _ _ npw.1 npw.2 (by rw [upd_ne ncw]; exact h1)
    have h2c : H2 ca = some (.lst []) := od2 _ _ nca.1 nca.2 upd_same
    refine ⟨pw, _, rfl, .inl (.inl h2), fun sa hsa => ?_⟩
    have nsa := st2.noneS hsa
    have nsw : pw ≠ sa := ne_of_none h2 hsa
    have nsc : ca ≠ sa := ne_of_none h2c hsa
    obtain ⟨r, rfl⟩ := Int.eq_ofNat_of_zero_le r0
    have ecut : cutV (ts.map V.str) (some (m : Int)) (some ((m : Int) + 1 + (r : Int))) = (((ts.drop m).take (1 + r)).map V.str) := by
      have := cut_mid (ts.map V.str) m (1 + r) (by rw [List.length_map]; omega)
      rw [show ((m : Int) + 1 + (r : Int)) = ((m + (1 + r) : Nat) : Int) by omega, this, List.map_take, List.map_drop]
    refine at_heap (φ := fun H3 => Stm H3 S L (n + 12 * (m + c) + 1) ∧ Old S L H H3 ∧ H3 pw = some (.lst (ts.map V.str)) ∧ H3 ca = some (.lst []) ∧ H3 sa = some (.lst (((ts.drop m).take (1 + r)).map V.str)))
      ⟨st2.upd nsa.1 nsa.2, ((od1.trans (.new hca)).trans od2).trans (.new hsa), (by rw [upd_ne nsw]; exact h2), (by rw [upd_ne nsc]; exact h2c), (by rw [← ecut]; exact upd_same)⟩ ?_
    rintro H3 ⟨st3, od3, h3, h3c, h3s⟩
    refine ⟨sa, rfl, ⟨_, .inl (.inl h3s)⟩, ?_⟩
    have lC : ((ts.drop m).take (1 + r)).length ≤ c := by rw [List.length_take, List.length_drop]; omega
    refine for_it (walk_list (xs := (((ts.drop m).take (1 + r)).map V.str))) (fun i σ H4 => ∃ (cs : List (Str × Str × Str × Bool)) (cx : List V) (v5 v6 v7 : Option V), σ = [some (.ref S), some (.int (m : Int)), some (.int (c : Int)), some (.ref pw), some (.ref ca), v5, v6, v7, none] ∧
        cs.map (·.1) = ((ts.drop m).take (1 + r)).take i ∧ (∀ d ∈ cs, d.2.1 ∈ ts.take m ∧ d.2.2.1 ∈ ts.take m) ∧ H4 ca = some (.lst cx) ∧ TupsAt H4 cx (cs.map colV) ∧ Stm H4 S L (n + 12 * (m + c) + 1 + 3 * i) ∧ Old S L H H4 ∧
        H4 pw = some (.lst (ts.map V.str)) ∧ H4 sa = some (.lst (((ts.drop m).take (1 + r)).map V.str)))
      ⟨[], [], none, none, none, rfl, rfl, (fun _ h => nomatch h), h3c, .nil, st3, od3, h3, h3s⟩ (fun i σ H4 _ ⟨_, _, _, _, _, _, _, _, _, _, _, _, _, hs⟩ => .inl (.inl hs)) ?_ ?_
    · rintro i x σ Hz H4 hi ⟨cs, cx, v5, v6, v7, rfl, ecs, hcs, h4c, h4t, st4, od4, h4, h4s⟩ ⟨rfl, hx⟩
      obtain ⟨z, rfl⟩ := str_at hx
      rw [List.length_map] at hi
      walk_at "ls"
      -- home
      refine ⟨pw, _, rfl, .inl (.inl h4), fun p1 hp1 => ?_⟩
      have n1 := st4.noneS hp1
      have n1w : pw ≠ p1 := ne_of_none h4 hp1
      rw [cut_take, ← List.map_take]
      refine ⟨S, L, p1, _, _, rfl, st4.upd n1.1 n1.2, by omega, .inl (.inl upd_same), n1.1, n1.2, ?_, ?_, fun H5 v hv st5 od5 => ?_⟩
      · rw [List.length_map, List.length_take]
        omega
      · rw [List.length_map, List.length_take]
        omega
      obtain ⟨hm, hhm, rfl⟩ := List.mem_map.mp hv
      have h5 : H5 pw = some (.lst (ts.map V.str)) := od5 _ _ npw.1 npw.2 (by rw [upd_ne n1w]; exact h4)
      walk_at "ls"
      -- goal
      refine ⟨pw, _, rfl, .inl (.inl h5), fun p2 hp2 => ?_⟩
      have n2 := st5.noneS hp2
      have n2w : pw ≠ p2 := ne_of_none h5 hp2
      rw [cut_take, ← List.map_take]
      refine ⟨S, L, p2, _, _, rfl, st5.upd n2.1 n2.2, by omega, .inl (.inl upd_same), n2.1, n2.2, ?_, ?_, fun H6 v2 hv2 st6 od6 => ?_⟩
      · rw [List.length_map, List.length_take]
        omega
      · rw [List.length_map, List.length_take]
        omega
      obtain ⟨gl, hgl, rfl⟩ := List.mem_map.mp hv2
      have k46 : Old S L H4 H6 := (((Old.new hp1).trans od5).trans (.new hp2)).trans od6
      have h6c := k46 _ _ nca.1 nca.2 h4c
      refine ⟨_, _, rfl, ?_⟩
      walk_at "ls"
      refine ⟨(by show 3 ≤ sizeLine; decide), fun p3 hp3 => ?_⟩
      have n3 := st6.noneS hp3
      walk_at "ls"
      refine ⟨S, L, _, 3, rfl, st6.upd n3.1 n3.2, by omega, by decide, by decide, fun H7 q0 q1 q2 st7 od7 => ?_⟩
      obtain ⟨b, hb⟩ := rule_at q1 q2
      refine ⟨_, _, _, _, rfl, rfl, .inl (.inl (od7 _ _ n3.1 n3.2 upd_same)), hb, ?_⟩
      refine ⟨(by show 4 ≤ sizeLine; decide), fun t ht => ?_⟩
      have k47 : Old S L H4 H7 := (k46.trans (.new hp3)).trans od7
      have h7c := k47 _ _ nca.1 nca.2 h4c
      have nct : ca ≠ t := ne_of_none h7c ht
      have nt := st7.noneS ht
      refine ⟨_, _, _, rfl, rfl, (by rw [upd_ne nct]; exact h7c), ?_, ?_⟩
      · have := h4t.len
        have e2 : cs.length = i := by
          have := congrArg List.length ecs
          rw [List.length_map, List.length_take, Nat.min_eq_left (by omega)] at this
          exact this
        rw [List.length_map] at this
        exact small1000 (by omega)
      · have kt : TK H4 (upd (upd H7 t (.tup [.str z, .str hm, .str gl, .str (ruleS b)])) ca (.lst (cx ++ [.ref t]))) := ((TK.old st4 k47).trans (.new ht)).trans (.lst (by rw [upd_ne nct]; exact h7c))
        refine ⟨cs ++ [(z, hm, gl, b)], cx ++ [.ref t], _, _, _, rfl, ?_, ?_, upd_same, ?_, ?_, ?_, ?_, ?_⟩
        · have hz : ((ts.drop m).take (1 + r))[i]? = some z := by
            rw [List.getElem?_map] at hx
            cases e : ((ts.drop m).take (1 + r))[i]? with
            | none => rw [e] at hx; cases hx
            | some y => rw [e] at hx; cases hx; rfl
          rw [List.map_append, ecs, List.take_add_one, hz]
          rfl
        · exact all_snoc hcs ⟨hhm, hgl⟩
        · rw [List.map_append]
          exact (h4t.keep kt).snoc ⟨t, rfl, by rw [upd_ne nct.symm]; exact upd_same⟩
        · exact ((st7.mono (by omega)).upd nt.1 nt.2).upd nca.1 nca.2
        · exact ((od4.trans k47).trans (.new ht)).set hca0
        · rw [upd_ne ncw, upd_ne (ne_of_none (k47 _ _ npw.1 npw.2 h4) ht)]
          exact k47 _ _ npw.1 npw.2 h4
        · rw [upd_ne nsc.symm, upd_ne (ne_of_none (k47 _ _ nsa.1 nsa.2 h4s) ht)]
          exact k47 _ _ nsa.1 nsa.2 h4s
    · rintro σ H4 ⟨cs, cx, v5, v6, v7, rfl, ecs, hcs, h4c, h4t, st4, od4, h4, h4s⟩
      rw [List.length_map, List.take_length] at ecs
      rw [List.length_map] at st4
      walk_at "ls"
      refine ⟨pw, _, rfl, .inl (.inl h4), fun sk hsk => ?_⟩
      have nsk := st4.noneS hsk
      rw [cut_take, ← List.map_take]
      have nskw : pw ≠ sk := ne_of_none h4 hsk
      have nskc : ca ≠ sk := ne_of_none h4c hsk
      refine ⟨sk, rfl, ⟨_, .inl (.inl upd_same)⟩, fun D hD => ?_⟩
      have st5 := st4.upd (o := .lst ((ts.take m).map V.str)) nsk.1 nsk.2
      have nD := st5.noneS hD
      have nDk : sk ≠ D := ne_of_none upd_same hD
      have od4s : Old S L H (upd H4 sk (.lst ((ts.take m).map V.str))) := od4.trans (.new hsk)
      have h5c : (upd H4 sk (.lst ((ts.take m).map V.str))) ca = some (.lst cx) := by rw [upd_ne nskc]; exact h4c
      have nDc : ca ≠ D := ne_of_none h5c hD
      refine lc_it (walk_list (xs := (ts.take m).map V.str)) (fun i H5 => ∃ (ks : List (Str × Bool)) (kx : List V), ks.map (·.1) = (ts.take m).take i ∧ H5 D = some (.lst kx) ∧ TupsAt H5 kx (ks.map kindV) ∧ H5 sk = some (.lst ((ts.take m).map V.str)) ∧ H5 ca = some (.lst cx) ∧
          TupsAt H5 cx (cs.map colV) ∧ Stm H5 S L (n + 12 * (m + c) + 1 + 3 * ((ts.drop m).take (1 + r)).length + i) ∧ Old S L H H5)
        ⟨[], [], rfl, upd_same, .nil, (by rw [upd_ne nDk]; exact upd_same), (by rw [upd_ne nDc]; exact h5c), (h4t.keep (.new hsk)).keep (.new hD), st5.upd nD.1 nD.2, (od4.trans (.new hsk)).trans (.new hD)⟩
        (fun i H5 _ ⟨_, _, _, _, _, h, _⟩ => .inl (.inl h)) ?_ ?_
      · rintro i x Hz H5 hi ⟨ks, kx, eks, h5D, h5t, h5s, h5c, h5ct, st5, od5⟩ ⟨rfl, hx⟩
        obtain ⟨z, rfl⟩ := str_at hx
        rw [List.length_map] at hi
        refine ⟨rfl, ?_⟩
        walk_at "ls"
        have lm : (ts.take m).length ≤ m := by rw [List.length_take]; omega
        refine ⟨S, L, _, 3, rfl, st5, by omega, by decide, by decide, fun H6 q0 q1 q2 st6 od6 => ?_⟩
        walk_at "ls"
        refine ⟨(by show 2 ≤ sizeLine; decide), fun t ht => ?_⟩
        have nt := st6.noneS ht
        have h6D := od6 _ _ nD.1 nD.2 h5D
        have nDt : D ≠ t := ne_of_none h6D ht
        have h6D' : (upd H6 t (.tup [V.str z, V.bl (decide (0 < q0))])) D = some (.lst kx) := by rw [upd_ne nDt]; exact h6D
        have kt : TK H5 (upd (upd H6 t (.tup [V.str z, V.bl (decide (0 < q0))])) D (.lst (kx ++ [.ref t]))) := ((TK.old st5 od6).trans (.new ht)).trans (.lst h6D')
        have ek : ks.length = i := by
          have := congrArg List.length eks
          rw [List.length_map, List.length_take, Nat.min_eq_left (by omega)] at this
          exact this
        have hkl : kx.length = i := by rw [h5t.len, List.length_map, ek]
        have hz : (ts.take m)[i]? = some z := by
          rw [List.getElem?_map] at hx
          cases e : (ts.take m)[i]? with
          | none => rw [e] at hx; cases hx
          | some y => rw [e] at hx; cases hx; rfl
        have h6s := od6 _ _ nsk.1 nsk.2 h5s
        have h6c := od6 _ _ nca.1 nca.2 h5c
        have lm : (ts.take m).length ≤ m := by rw [List.length_take]; omega
        refine ⟨kx, h6D', small1000 (by omega), ks ++ [(z, decide (0 < q0))], kx ++ [.ref t], ?_, upd_same, ?_, ?_, ?_, h5ct.keep kt, ?_, ?_⟩
        · rw [List.map_append, eks, List.take_add_one, hz]
          rfl
        · rw [List.map_append]
          exact (h5t.keep kt).snoc ⟨t, rfl, by rw [upd_ne nDt.symm]; exact upd_same⟩
        · rw [upd_ne nDk, upd_ne (ne_of_none h6s ht)]
          exact h6s
        · rw [upd_ne nDc, upd_ne (ne_of_none h6c ht)]
          exact h6c
        · exact ((st6.mono (by omega)).upd nt.1 nt.2).upd nD.1 nD.2
        · exact ((od5.trans od6).trans (.new ht)).set (od4s.none hD nD)
      · rintro H5 ⟨ks, kx, eks, h5D, h5t, h5s, h5c, h5ct, st5, od5⟩
        rw [List.length_map, List.take_length] at eks
        rw [List.length_map] at st5
        intro b hb
        have nb := st5.noneS hb
        have nDb : D ≠ b := ne_of_none h5D hb
        have ncb : ca ≠ b := ne_of_none h5c hb
        walk_at "ls"
        refine ⟨Nat.zero_le _, fun ea hea => ?_⟩
        have neb : b ≠ ea := ne_of_none upd_same hea
        have nea := (st5.upd nb.1 nb.2).noneS hea
        have nDe : D ≠ ea := ne_of_none (show (upd H5 b (.dK [])) D = _ by rw [upd_ne nDb]; exact h5D) hea
        have nce : ca ≠ ea := ne_of_none (show (upd H5 b (.dK [])) ca = _ by rw [upd_ne ncb]; exact h5c) hea
        refine ⟨(by rw [upd_ne neb]; exact upd_same), [(.inr "kinds", .ref D), (.inr "columns", .ref ca), (.inr "checks", .ref ea)], rfl, (by show 3 ≤ 15; decide), ?_⟩
        have lm : (ts.take m).length = m := by rw [List.length_take]; omega
        have elk : ks.length = m := by
          have := congrArg List.length eks
          rw [List.length_map, lm] at this
          exact this
        have elc : cs.length ≤ c := by
          have := congrArg List.length ecs
          rw [List.length_map] at this
          omega
        have elc0 : 0 < cs.length := by
          have := congrArg List.length ecs
          rw [List.length_map, List.length_take, List.length_drop] at this
          omega
        have emb : ∀ z ∈ (ks.map (·.1) ++ cs.map (·.1)), z ∈ ts := by
          rw [eks, ecs]
          intro z hz
          rcases List.mem_append.mp hz with h | h
          · exact List.mem_of_mem_take h
          · exact List.mem_of_mem_drop (List.mem_of_mem_take h)
        have kt : TK H5 (upd (upd (upd H5 b (.dK [])) ea (.lst [])) b (.dK (mergeK [] [(.inr "kinds", .ref D), (.inr "columns", .ref ca), (.inr "checks", .ref ea)]))) :=
          ((TK.new hb).trans (.new hea)).trans (.dK (by rw [upd_ne neb]; exact upd_same))
        refine q _ b ⟨ks, cs⟩ ⟨by show 0 < ks.length; omega, by show ks.length ≤ 3; omega, by show cs.length ≤ 8; omega, ?_, fun z hz => tok.2 z (emb z hz), fun d hd => by show d.2.1 ∈ ks.map (·.1); rw [eks]; exact (hcs d hd).1, fun d hd => by show d.2.2.1 ∈ ks.map (·.1); rw [eks]; exact (hcs d hd).2, elc0⟩
          elk elc (od5.none hb nb) ⟨D, ca, ea, kx, cx, upd_same, ?_, h5t.keep kt, ?_, h5ct.keep kt, ?_, nD, nca, nea⟩ ?_ ?_
        · show (ks.map (·.1) ++ cs.map (·.1)).Nodup
          rw [eks, ecs]
          have nd := tok.1
          rw [← List.take_append_drop m ts] at nd
          have h1 := List.nodup_append.mp nd
          refine List.nodup_append.mpr ⟨h1.1, h1.2.1.sublist (List.take_sublist _ _), fun x hx y hy => h1.2.2 x hx y (List.mem_of_mem_take hy)⟩
        · rw [upd_ne nDb, upd_ne nDe, upd_ne nDb]
          exact h5D
        · rw [upd_ne ncb, upd_ne nce, upd_ne ncb]
          exact h5c
        · rw [upd_ne neb.symm]
          exact upd_same
        · exact (((st5.mono (by omega)).upd nb.1 nb.2).upd nea.1 nea.2).upd nb.1 nb.2
        · exact ((od5.trans (.new hb)).trans (.new hea)).set (od5.none hb nb)
end
end Ls
namespace Ls
open PySem PySem.Spec PyProof.Rows L2
/-! ### short steps -/
local macro_rules | `(tactic| walk_at "ls_ne") => `(tactic| first | assumption | exact Ne.symm (by assumption) | exact ne_of_none (by assumption) (by assumption) | exact Ne.symm (ne_of_none (by assumption) (by assumption)))
local macro_rules | `(tactic| walk_at "ls_hp") => `(tactic| first
  | with_reducible assumption
  | exact upd_same
  | exact Eq.trans (upd_ne (by walk_at "ls_ne")) (by walk_at "ls_hp"))
local macro_rules | `(tactic| walk_at "ls_st") => `(tactic| first
  | with_reducible assumption
  | exact Stm.upd (by walk_at "ls_st") (by first | walk_at "ls_ne" | exact (Stm.noneS (by assumption) (by assumption)).1) (by first | walk_at "ls_ne" | exact (Stm.noneS (by assumption) (by assumption)).2))
local macro_rules | `(tactic| walk_at "ls1") => `(tactic| first
  | refine ⟨_, rfl, ?_⟩
  | refine ⟨_, _, rfl, rfl, ?_⟩
  | refine ⟨_, _, _, _, rfl, rfl, .inl (.inl (by walk_at "ls_hp")), rfl, ?_⟩
  | refine ⟨_, _, _, _, rfl, rfl, (by walk_at "ls_hp"), rfl, ?_⟩
  | refine ⟨rfl, _, rfl, ?_⟩
  | refine ⟨.inl ⟨rfl, _, .inl (.inl (by walk_at "ls_hp"))⟩, ?_⟩)
local macro_rules | `(tactic| walk_at "ls") => `(tactic| repeat (walk_at "ls1"))

/-! ### the menu -/
def colW : List Str := ["put", "turn", "keep", "hold", "again"]
def kindW : List Str := ["bare", "calm", "again"]
def bookW : List Str := ["lone", "fresh"]
def withN (ws : List Str) (z : Str) : List Str := ws.map fun a => a ++ " " ++ z
def menu (B : Shp) : List Str := ((B.cs.flatMap fun c => withN colW c.1) ++ B.ks.flatMap fun k => withN kindW k.1) ++ bookW
def addN (z : Str) : V → Option V
  | .str a => some (.str (a ++ " " ++ z))
  | _ => none
theorem addN_all (z : Str) : ∀ ws : List Str, (ws.map V.str).filterMap (addN z) = (withN ws z).map V.str
  | [] => rfl
  | a :: r => by
    rw [List.map_cons, List.filterMap_cons]
    show V.str (a ++ " " ++ z) :: (r.map V.str).filterMap (addN z) = _
    rw [addN_all z r]
    rfl
theorem cat_len (a b : Str) : (a ++ b).length = a.length + b.length := Array.size_append
theorem flat_len {α : Type} (f : α → List Str) (k : Nat) (h : ∀ x, (f x).length = k) : ∀ l : List α, (l.flatMap f).length = k * l.length
  | [] => by simp
  | a :: r => by rw [List.flatMap_cons, List.length_append, flat_len f k h r, h, List.length_cons, Nat.mul_succ]; omega
theorem menu_len (B : Shp) : (menu B).length = 5 * B.cs.length + 3 * B.ks.length + 2 := by
  unfold menu
  rw [List.length_append, List.length_append, flat_len _ 5 (fun c => by rw [withN, List.length_map]; rfl), flat_len _ 3 (fun c => by rw [withN, List.length_map]; rfl)]
  rfl
theorem TupsAt.get {H : Hp} : ∀ {xs : List V} {yss : List (List V)} {i : Nat} {x : V}, TupsAt H xs yss → xs[i]? = some x → ∃ ys, yss[i]? = some ys ∧ TupOf H x ys
  | _, _, _, _, .nil, e => by simp at e
  | _, _, 0, x, .cons r _, e => by simp at e; subst e; exact ⟨_, rfl, r⟩
  | _, _, i + 1, x, .cons _ t, e => by
    obtain ⟨u, h1, h2⟩ := TupsAt.get (i := i) (x := x) t (by simpa using e)
    exact ⟨u, by simpa using h1, h2⟩
theorem map_get {α β : Type} {f : α → β} {l : List α} {i : Nat} {y : β} (h : (l.map f)[i]? = some y) : ∃ x, l[i]? = some x ∧ y = f x := by
  rw [List.getElem?_map] at h
  cases e : l[i]? with
  | none => rw [e] at h; cases h
  | some x => rw [e] at h; exact ⟨x, rfl, (Option.some.inj h).symm⟩
theorem colW_len : ∀ a ∈ colW, a.length ≤ 5 := by decide +kernel
theorem kindW_len : ∀ a ∈ kindW, a.length ≤ 5 := by decide +kernel
theorem room_str {a b : Str} {n m : Nat} (h1 : a.length ≤ n) (h2 : b.length ≤ m) (h3 : n + m ≤ 1000) : a.length + b.length ≤ sizeLine := Nat.le_trans (by omega) (show 1000 ≤ sizeLine by decide)
theorem word_len {a : Str} (h : a.length ≤ 5) : (a ++ " ").length ≤ 6 := by
  rw [cat_len]
  have : (" " : Str).length = 1 := by decide +kernel
  omega
theorem flat_snoc {α : Type} {f : α → List Str} {l : List α} {i : Nat} {c : α} (h : l[i]? = some c) : ((l.take (i + 1)).flatMap f) = (l.take i).flatMap f ++ f c := by
  rw [List.take_add_one, h, List.flatMap_append]
  simp
/-! ### the record's three lists -/
theorem nkc : ¬ ((Sum.inr ("kinds" : Str) : Key) = Sum.inr ("columns" : Str)) := by decide +kernel
theorem nkh : ¬ ((Sum.inr ("kinds" : Str) : Key) = Sum.inr ("checks" : Str)) := by decide +kernel
theorem nch : ¬ ((Sum.inr ("columns" : Str) : Key) = Sum.inr ("checks" : Str)) := by decide +kernel
section
variable {H : Hp} {b : Addr} {x y z : V}
theorem dg {k : Key} {v : V} {kvs : List (Key × V)} (h : H b = some (.dK kvs)) (e : valV kvs k = some v) : DGet H b (kV k) (some v) := by rw [← e]; exact DGet.k h
theorem dg_kinds (h : H b = some (.dK [(.inr "kinds", x), (.inr "columns", y), (.inr "checks", z)])) : DGet H b (.str "kinds") (some x) := dg (k := .inr "kinds") h (valV_pos rfl)
theorem dg_columns (h : H b = some (.dK [(.inr "kinds", x), (.inr "columns", y), (.inr "checks", z)])) : DGet H b (.str "columns") (some y) := dg (k := .inr "columns") h (by rw [valV_neg nkc]; exact valV_pos rfl)
theorem dg_checks (h : H b = some (.dK [(.inr "kinds", x), (.inr "columns", y), (.inr "checks", z)])) : DGet H b (.str "checks") (some z) := dg (k := .inr "checks") h (by rw [valV_neg nkh, valV_neg nch]; exact valV_pos rfl)
end
section
variable {P : Program} {w : World} {K : PySem.W.Frag} {mg : Str → Option Value} {base : Heap}
abbrev s__law_all_checks : Stmt := topS 63
theorem sc__law_all_checks : FnScope ["_law_b", "_law_found", "_law_column", "_law_kind", "_law_word"] ["_law_b"] (defScope s__law_all_checks) := ⟨rfl, rfl, rfl, by decide +kernel, rfl, by decide +kernel, by decide +kernel⟩
abbrev N__law_all_checks : List Str := ["_law_b", "_law_found", "_law_column", "_law_kind", "_law_word"]
def spAll : Sp := fun vs H Q _ => ∃ (S L b : Addr) (B : Shp) (ck : List Str), vs = [.ref b] ∧ ShpAt S L H b B ck ∧ B.Ok ∧
  ∀ (H' : Hp) (p : Addr), H p = none → H' p = some (.lst ((menu B).map V.str)) → Same H H' → Q (.ref p) H'
theorem ok_all {f : Addr} {fd : FuncData} (F : Fun K "_law_all_checks" "_law_all_checks" s__law_all_checks f fd) (T : Bt mg) : FnOk P w K mg base CX0 1 f fd ["_law_b"] spAll := by
  refine F.ok sc__law_all_checks (fun vs H Q E h => ?_) (fun cdv A outer s H vs Q E hr h => ?_)
  · obtain ⟨S, L, b, B, ck, rfl, _⟩ := h
    rfl
  · obtain ⟨S, L, b, B, ck, rfl, ⟨ka, ca, ea, kx, cx, hb, hka, hkt, hca, hct, hea, _⟩, hB, q⟩ := h
    have hu := hu_of hr
    refine ⟨_, (pss_cons (ps_set (i := 1) sc__law_all_checks.nd rfl (Or.inl rfl) (pe_lst pa_nil))
      (pss_cons (ps_for PassesOwn.never rfl (pi_list (pe_dget hu (pv 0) pe_str (fun _ _ => rfl))) (pg_name (i := 2) sc__law_all_checks.nd rfl (Or.inr rfl)) (pss_one (ps_expr (pe_bm PySem.F.plainAttrs_list PySem.F.slot_list_extend PySem.F.type_list_extend mt_extend (pv 1) (pa_cons (pe_lc (own := [("_law_word", 4)]) (g := gName 4) (by rfl) sc__law_all_checks.nd (pi_list (pe_lst (pa_cons pe_str (pa_cons pe_str (pa_cons pe_str (pa_cons pe_str (pa_cons pe_str pa_nil))))))) (blkOk_by (own := [("_law_word", 4)]) (N := N__law_all_checks) (sc := defScope s__law_all_checks) (by decide +kernel)) (fun _ _ _ _ _ => (pg_name (i := 4) sc__law_all_checks.nd rfl (Or.inl rfl) (Or.inr rfl))) (fun _ _ _ _ _ => pts_nil) (fun _ _ _ _ _ => (pe_op op_add_str (pe_op op_add_str (pv 4) pe_str) (pe_ix (ixT K) (pv 2) pe_int (fun _ _ => rfl))))) pa_nil)))))
      (pss_cons (ps_for PassesOwn.never rfl (pi_list (pe_dget hu (pv 0) pe_str (fun _ _ => rfl))) (pg_name (i := 3) sc__law_all_checks.nd rfl (Or.inr rfl)) (pss_one (ps_expr (pe_bm PySem.F.plainAttrs_list PySem.F.slot_list_extend PySem.F.type_list_extend mt_extend (pv 1) (pa_cons (pe_lc (own := [("_law_word", 4)]) (g := gName 4) (by rfl) sc__law_all_checks.nd (pi_list (pe_lst (pa_cons pe_str (pa_cons pe_str (pa_cons pe_str pa_nil))))) (blkOk_by (own := [("_law_word", 4)]) (N := N__law_all_checks) (sc := defScope s__law_all_checks) (by decide +kernel)) (fun _ _ _ _ _ => (pg_name (i := 4) sc__law_all_checks.nd rfl (Or.inl rfl) (Or.inr rfl))) (fun _ _ _ _ _ => pts_nil) (fun _ _ _ _ _ => (pe_op op_add_str (pe_op op_add_str (pv 4) pe_str) (pe_ix (ixT K) (pv 3) pe_int (fun _ _ => rfl))))) pa_nil)))))
      (pss_one (ps_ret (pe_op op_cat (pv 1) (pe_lst (pa_cons pe_str (pa_cons pe_str pa_nil))))))))), ?_⟩
    refine ⟨Nat.zero_le _, fun p hp => ?_⟩
    walk_at "ls"
    have nbp : b ≠ p := ne_of_none hb hp
    have nca : ca ≠ p := ne_of_none hca hp
    have s0 : Same H (upd H p (.lst [])) := same_new hp
    refine ⟨b, _, rfl, dg_columns (s0 _ _ hb), ca, rfl, ⟨_, .inl (.inl (s0 _ _ hca))⟩, ?_⟩
    refine for_it (walk_list (xs := cx)) (fun i σ H1 => ∃ v : Option V, σ = [some (.ref b), some (.ref p), v, none, none] ∧ H1 p = some (.lst (((B.cs.take i).flatMap fun c => withN colW c.1).map V.str)) ∧ Same H H1)
      ⟨none, rfl, upd_same, s0⟩ (fun i σ H1 _ ⟨_, _, _, s1⟩ => .inl (.inl (s1 _ _ hca))) ?_ ?_
    · rintro i x σ Hz H1 hi ⟨v, rfl, h1, s1⟩ ⟨rfl, hx⟩
      obtain ⟨ys, hys, t, rfl, ht⟩ := TupsAt.get (hct.keep (.same s1)) hx
      obtain ⟨c, hc, rfl⟩ := map_get hys
      have hci : i < B.cs.length := (List.getElem?_eq_some_iff.mp hc).1
      have hnm : c.1.length ≤ 8 := (hB.nm _ (List.mem_append_right _ (List.mem_map_of_mem (List.mem_of_getElem? hc)))).1.2.1
      walk_at "ls"
      refine ⟨(by show 5 ≤ sizeLine; decide), fun w1 hw1 => ?_⟩
      refine ⟨w1, rfl, ⟨_, .inl (.inl upd_same)⟩, fun D hD => ?_⟩
      have nwD : w1 ≠ D := ne_of_none upd_same hD
      have npw : p ≠ w1 := ne_of_none h1 hw1
      have npD : p ≠ D := ne_of_none (by rw [upd_ne npw]; exact h1) hD
      have ntw : t ≠ w1 := ne_of_none ht hw1
      have ntD : t ≠ D := ne_of_none (by rw [upd_ne ntw]; exact ht) hD
      refine lc_pure (walk_list (xs := colW.map V.str)) (colW.map V.str) (addN c.1) rfl (fun i H x H' hi hy => hy) (by decide +kernel) (fun acc => .inl (.inl (by rw [upd_ne nwD]; exact upd_same))) (fun k y hk hy => ?_) ?_
      · obtain ⟨a, ha, rfl⟩ := map_get hy
        have hal : a.length ≤ 5 := colW_len a (List.mem_of_getElem? ha)
        refine ⟨rfl, ?_⟩
        walk_at "ls"
        refine ⟨room_str (m := 1) hal (by decide +kernel) (by decide), ?_⟩
        walk_at "ls"
        refine ⟨room_str (n := 6) (m := 8) (word_len hal) hnm (by decide), ?_⟩
        exact lc_yes hy hk (by decide +kernel) rfl
      rw [addN_all]
      refine ⟨_, _, _, _, rfl, rfl, (by rw [upd_ne npD, upd_ne npw]; exact h1), upd_same, ?_, ?_⟩
      · rw [List.length_map, List.length_map, flat_len _ 5 (fun c => by rw [withN, List.length_map]; rfl), withN, List.length_map, List.length_take]
        have := hB.nc
        show 5 * _ + 5 ≤ sizeLine
        exact Nat.le_trans (by omega) (show 1000 ≤ sizeLine by decide)
      · refine ⟨_, rfl, ?_, ?_⟩
        · rw [upd_same, flat_snoc hc, List.map_append]
        · intro u o e
          have nup : u ≠ p := ne_of_none e hp
          have e1 := s1 _ _ e
          have nuw : u ≠ w1 := ne_of_none e1 hw1
          rw [upd_ne nup, upd_ne (ne_of_none (by rw [upd_ne nuw]; exact e1) hD), upd_ne nuw]
          exact e1
    · rintro σ H1 ⟨v, rfl, h1, s1⟩
      have e1 : B.cs.take cx.length = B.cs := by
        have := hct.len
        rw [List.length_map] at this
        rw [this, List.take_length]
      rw [e1] at h1
      walk_at "ls"
      refine ⟨b, _, rfl, dg_kinds (s1 _ _ hb), ka, rfl, ⟨_, .inl (.inl (s1 _ _ hka))⟩, ?_⟩
      refine for_it (walk_list (xs := kx)) (fun i σ H1 => ∃ v v3 : Option V, σ = [some (.ref b), some (.ref p), v, v3, none] ∧ H1 p = some (.lst (((B.cs.flatMap fun c => withN colW c.1) ++ (B.ks.take i).flatMap fun c => withN kindW c.1).map V.str)) ∧ Same H H1)
        ⟨v, none, rfl, (by rw [List.take_zero, List.flatMap_nil, List.append_nil]; exact h1), s1⟩ (fun i σ H1 _ ⟨_, _, _, _, s1⟩ => .inl (.inl (s1 _ _ hka))) ?_ ?_
      · clear h1 s1 v
        rintro i x σ Hz H1 hi ⟨v, v3, rfl, h1, s1⟩ ⟨rfl, hx⟩
        obtain ⟨ys, hys, t, rfl, ht⟩ := TupsAt.get (hkt.keep (.same s1)) hx
        obtain ⟨c, hc, rfl⟩ := map_get hys
        have hci : i < B.ks.length := (List.getElem?_eq_some_iff.mp hc).1
        have hnm : c.1.length ≤ 8 := (hB.nm _ (List.mem_append_left _ (List.mem_map_of_mem (List.mem_of_getElem? hc)))).1.2.1
        walk_at "ls"
        refine ⟨(by show 3 ≤ sizeLine; decide), fun w1 hw1 => ?_⟩
        refine ⟨w1, rfl, ⟨_, .inl (.inl upd_same)⟩, fun D hD => ?_⟩
        have nwD : w1 ≠ D := ne_of_none upd_same hD
        have npw : p ≠ w1 := ne_of_none h1 hw1
        have npD : p ≠ D := ne_of_none (by rw [upd_ne npw]; exact h1) hD
        have ntw : t ≠ w1 := ne_of_none ht hw1
        have ntD : t ≠ D := ne_of_none (by rw [upd_ne ntw]; exact ht) hD
        refine lc_pure (walk_list (xs := kindW.map V.str)) (kindW.map V.str) (addN c.1) rfl (fun i H x H' hi hy => hy) (by decide +kernel) (fun acc => .inl (.inl (by rw [upd_ne nwD]; exact upd_same))) (fun k y hk hy => ?_) ?_
        · obtain ⟨a, ha, rfl⟩ := map_get hy
          have hal : a.length ≤ 5 := kindW_len a (List.mem_of_getElem? ha)
          refine ⟨rfl, ?_⟩
          walk_at "ls"
          refine ⟨room_str (m := 1) hal (by decide +kernel) (by decide), ?_⟩
          walk_at "ls"
          refine ⟨room_str (n := 6) (m := 8) (word_len hal) hnm (by decide), ?_⟩
          exact lc_yes hy hk (by decide +kernel) rfl
        rw [addN_all]
        refine ⟨_, _, _, _, rfl, rfl, (by rw [upd_ne npD, upd_ne npw]; exact h1), upd_same, ?_, ?_⟩
        · rw [List.length_map, List.length_append, List.length_map, flat_len _ 5 (fun c => by rw [withN, List.length_map]; rfl), flat_len _ 3 (fun c => by rw [withN, List.length_map]; rfl), withN, List.length_map, List.length_take]
          have := hB.nc
          have := hB.nk3
          show 5 * _ + 3 * _ + 3 ≤ sizeLine
          exact Nat.le_trans (by omega) (show 1000 ≤ sizeLine by decide)
        · refine ⟨_, _, rfl, ?_, ?_⟩
          · rw [upd_same, flat_snoc hc, List.map_append, List.map_append, List.map_append, List.append_assoc]
          · intro u o e
            have nup : u ≠ p := ne_of_none e hp
            have e1 := s1 _ _ e
            have nuw : u ≠ w1 := ne_of_none e1 hw1
            rw [upd_ne nup, upd_ne (ne_of_none (by rw [upd_ne nuw]; exact e1) hD), upd_ne nuw]
            exact e1
      · clear h1 s1 v
        rintro σ H1 ⟨v, v3, rfl, h1, s1⟩
        have e2 : B.ks.take kx.length = B.ks := by
          have := hkt.len
          rw [List.length_map] at this
          rw [this, List.take_length]
        rw [e2] at h1
        walk_at "ls"
        refine ⟨(by show 2 ≤ sizeLine; decide), fun p2 hp2 => ?_⟩
        have np2 : p ≠ p2 := ne_of_none h1 hp2
        refine ⟨_, _, _, _, rfl, rfl, (by rw [upd_ne np2]; exact h1), upd_same, ?_, fun p3 hp3 => ?_⟩
        · have l1 := flat_len (fun c : Str × Str × Str × Bool => withN colW c.1) 5 (fun c => by show (withN colW c.1).length = 5; rw [withN, List.length_map]; rfl) B.cs
          have l2 := flat_len (fun c : Str × Bool => withN kindW c.1) 3 (fun c => by show (withN kindW c.1).length = 3; rw [withN, List.length_map]; rfl) B.ks
          have := hB.nc
          have := hB.nk3
          rw [List.length_map, List.length_append, l1, l2]
          refine Nat.le_trans ?_ (show 1000 ≤ sizeLine by decide)
          show _ + 2 ≤ 1000
          omega
        · have s2 : Same H (upd H1 p2 (.lst [.str "lone", .str "fresh"])) := s1.trans (same_new hp2)
          refine q _ p3 (s2.free hp3) ?_ (s2.trans (same_new hp3))
          rw [upd_same]
          unfold menu
          rw [List.map_append (l₂ := bookW)]
          rfl
/-! ### _law_checked -/
abbrev s__law_checked : Stmt := topS 64
theorem sc__law_checked : FnScope ["_law_stream", "_law_b", "_law_share", "_law_checks_here", "_law_check"] ["_law_stream", "_law_b"] (defScope s__law_checked) := ⟨rfl, rfl, rfl, by decide +kernel, rfl, by decide +kernel, by decide +kernel⟩
abbrev N__law_checked : List Str := ["_law_stream", "_law_b", "_law_share", "_law_checks_here", "_law_check"]
def spChecked : Sp := fun vs H Q _ => ∃ (S L b : Addr) (n : Nat) (B : Shp) (ck : List Str), vs = [.ref S, .ref b] ∧ Stm H S L n ∧ n ≤ 9990000 ∧ ShpAt S L H b B ck ∧ B.Ok ∧
  ∀ (H' : Hp) (p : Addr) (ck' : List Str), H p = none → ck'.Sublist (menu B) → ShpAt S L H' p B ck' → Stm H' S L (n + 60) → Old S L H H' → Q (.ref p) H'
theorem share_at {i : Int} (h0 : 0 ≤ i) (h1 : i < 6) : ∃ k : Int, atI [V.int 0, V.int 2, V.int 4, V.int 6, V.int 9, V.int 12] i = some (.int k) := by
  obtain ⟨n, rfl⟩ := Int.eq_ofNat_of_zero_le h0
  match n, h1 with
  | 0, _ => exact ⟨0, rfl⟩
  | 1, _ => exact ⟨2, rfl⟩
  | 2, _ => exact ⟨4, rfl⟩
  | 3, _ => exact ⟨6, rfl⟩
  | 4, _ => exact ⟨9, rfl⟩
  | 5, _ => exact ⟨12, rfl⟩
  | k + 6, h => omega
theorem sub_snoc {α : Type} {l m : List α} {x : α} (h : l.Sublist m) : (l ++ [x]).Sublist (m ++ [x]) := List.Sublist.append h (List.Sublist.refl _)
theorem sub_skip {α : Type} {l m : List α} {x : α} (h : l.Sublist m) : l.Sublist (m ++ [x]) := h.trans (List.sublist_append_left _ _)
theorem ok_checked {f : Addr} {fd : FuncData} (F : Fun K "_law_checked" "_law_checked" s__law_checked f fd) (T : Bt mg) (O__law_draw : Own P w K mg base CX0 1 "_law_draw" ["_law_stream", "_law_many"] spDraw)
    (O__law_all_checks : Own P w K mg base CX0 1 "_law_all_checks" ["_law_b"] spAll) : FnOk P w K mg base CX0 2 f fd ["_law_stream", "_law_b"] spChecked := by
  refine F.ok sc__law_checked (fun vs H Q E h => ?_) (fun cdv A outer s H vs Q E hr h => ?_)
  · obtain ⟨S, L, b, n, B, ck, rfl, _⟩ := h
    rfl
  · obtain ⟨S, L, b, n, B, ck, rfl, hst, hn, hs, hB, q⟩ := h
    have hu := hu_of hr
    refine ⟨_, (pss_cons (ps_set (i := 2) sc__law_checked.nd rfl (Or.inr rfl) (pe_ix (ixL K) (pe_lst (pa_cons pe_int (pa_cons pe_int (pa_cons pe_int (pa_cons pe_int (pa_cons pe_int (pa_cons pe_int pa_nil))))))) (own_call O__law_draw hr (by first | decide | omega) (pa_cons (pv 0) (pa_cons pe_int pa_nil))) (fun _ _ => rfl)))
      (pss_cons (ps_setLc (i := 3) (own := [("_law_check", 4)]) (g := gName 4) (by rfl) sc__law_checked.nd rfl rfl (sw_true rfl rfl rfl (by decide +kernel)) (pi_list (own_call O__law_all_checks hr (by first | decide | omega) (pa_cons (pv 1) pa_nil))) (blkOk_by (own := [("_law_check", 4)]) (N := N__law_checked) (sc := defScope s__law_checked) (by decide +kernel)) (fun _ _ _ _ _ => (pg_name (i := 4) sc__law_checked.nd rfl (Or.inl rfl) (Or.inr rfl))) (fun _ _ _ _ _ => (pts_one (pt_cmpR op_lt (own_call O__law_draw hr (by first | decide | omega) (pa_cons (pv 0) (pa_cons pe_int pa_nil))) (pv 2) (nomark _)))) (fun _ _ _ _ _ => (pv 4)))
      (pss_one (ps_ret (pe_disp (pps_cons pe_str (pe_dget hu (pv 1) pe_str (fun _ _ => rfl)) (pps_cons pe_str (pe_dget hu (pv 1) pe_str (fun _ _ => rfl)) (pps_cons pe_str (pv 3) pps_nil))) (by rfl) (by rfl) (fun z => by cases z) (by decide)))))), ?_⟩
    refine ⟨(by show 6 ≤ sizeLine; decide), fun p0 hp0 => ?_⟩
    have n0 := hst.noneS hp0
    walk_at "ls"
    refine ⟨S, L, n, 6, rfl, hst.upd n0.1 n0.2, by omega, by decide, by decide, fun H1 r r0 r1 st1 od1 => ?_⟩
    obtain ⟨k, hk⟩ := share_at r0 r1
    refine ⟨_, _, _, _, rfl, rfl, .inl (.inl (od1 _ _ n0.1 n0.2 upd_same)), hk, ?_⟩
    have od1' : Old S L H H1 := (Old.new hp0).trans od1
    have hs1 := hs.old hst od1'
    walk_at "ls"
    refine ⟨S, L, b, B, ck, rfl, hs1, hB, fun H2 pm hpm h2 s2 => ?_⟩
    have hs2 := hs1.same s2
    have st2 := st1.keep s2
    have nm := st1.noneS hpm
    refine ⟨pm, rfl, ⟨_, .inl (.inl h2)⟩, fun D hD => ?_⟩
    have nD := st2.noneS hD
    have nmD : pm ≠ D := ne_of_none h2 hD
    have od2 : Old S L H H2 := od1'.trans (.same s2)
    have lm : (menu B).length ≤ 51 := by have := menu_len B; have := hB.nc; have := hB.nk3; omega
    refine lc_it (walk_list (xs := (menu B).map V.str)) (fun i H3 => ∃ cs : List Str, cs.Sublist ((menu B).take i) ∧ H3 D = some (.lst (cs.map V.str)) ∧ H3 pm = some (.lst ((menu B).map V.str)) ∧ Stm H3 S L (n + 1 + i) ∧ Old S L H H3)
      ⟨[], List.Sublist.refl _, upd_same, (by rw [upd_ne nmD]; exact h2), st2.upd nD.1 nD.2, od2.trans (.new hD)⟩ (fun i H3 _ ⟨_, _, _, h, _⟩ => .inl (.inl h)) ?_ ?_
    · rintro i x Hz H3 hi ⟨cs, hcs, h3D, h3m, st3, od3⟩ ⟨rfl, hx⟩
      obtain ⟨z, hz, rfl⟩ := map_get hx
      rw [List.length_map] at hi
      refine ⟨rfl, ?_⟩
      walk_at "ls"
      refine ⟨S, L, _, 12, rfl, st3, by omega, by decide, by decide, fun H4 u u0 u1 st4 od4 => ?_⟩
      have h4D := od4 _ _ nD.1 nD.2 h3D
      have h4m := od4 _ _ nm.1 nm.2 h3m
      walk_at "ls"
      have et : (menu B).take (i + 1) = (menu B).take i ++ [z] := by rw [List.take_add_one, hz]; rfl
      refine ite2 (fun e => ?_) (fun e => ?_)
      · walk_at "ls"
        have lcs : cs.length ≤ i := by have := hcs.length_le; rw [List.length_take] at this; omega
        refine ⟨_, h4D, (by rw [List.length_map]; exact small1000 (by omega)), cs ++ [z], ?_, ?_, ?_, (st4.mono (by omega)).upd nD.1 nD.2, (od3.trans od4).set (od2.none hD nD)⟩
        · rw [et]
          exact sub_snoc hcs
        · rw [upd_same, List.map_append]
          rfl
        · rw [upd_ne nmD]
          exact h4m
      · exact ⟨cs, (by rw [et]; exact sub_skip hcs), h4D, h4m, st4.mono (by omega), od3.trans od4⟩
    · rintro H3 ⟨cs, hcs, h3D, h3m, st3, od3⟩
      rw [List.length_map, List.take_length] at hcs
      obtain ⟨ka, ca, ea, kx, cx, hb, hka, hkt, hca, hct, hea, nk, nc, ne⟩ := hs.old hst od3
      intro p hp
      have np := st3.noneS hp
      have nbp : b ≠ p := ne_of_none hb hp
      have nDp : D ≠ p := ne_of_none h3D hp
      have hb' : (upd H3 p (.dK [])) b = _ := (upd_ne nbp).trans hb
      walk_at "ls"
      refine ⟨b, _, rfl, dg_kinds hb', ?_⟩
      walk_at "ls"
      refine ⟨b, _, rfl, dg_columns hb', ?_⟩
      walk_at "ls"
      refine ⟨upd_same, [(.inr "kinds", .ref ka), (.inr "columns", .ref ca), (.inr "checks", .ref D)], rfl, (by show 3 ≤ 15; decide), ?_⟩
      have kt : TK H3 (upd (upd H3 p (.dK [])) p (.dK (mergeK [] [(.inr "kinds", .ref ka), (.inr "columns", .ref ca), (.inr "checks", .ref D)]))) := (TK.new hp).trans (.dK upd_same)
      have hpn := od3.none hp np
      refine q _ p cs hpn hcs ⟨ka, ca, D, kx, cx, upd_same, ?_, hkt.keep kt, ?_, hct.keep kt, ?_, nk, nc, nD⟩ ((st3.mono (by rw [List.length_map]; omega)).upd np.1 np.2 |>.upd np.1 np.2) ((od3.trans (.new hp)).set hpn)
      · rw [upd_upd, upd_ne (ne_of_none hka hp)]
        exact hka
      · rw [upd_upd, upd_ne (ne_of_none hca hp)]
        exact hca
      · rw [upd_upd, upd_ne nDp]
        exact h3D
end
end Ls
namespace Ls
open PySem PySem.Spec PyProof.Rows L2
/-! ### repr of data, or of a pair of a text and an empty dict -/
def DpX (K : PySem.W.Frag) (H : Hp) (v : V) (d : PyData) : Prop := (Dp K H v d ∧ d.hasDict = false) ∨ ∃ (a e : Addr) (z : Str), v = .ref a ∧ H a = some (.tup [.str z, .ref e]) ∧ H e = some (.dK []) ∧ d = .tuple [.str z, .dict []]
section
variable {X : Cx} {pins : List (Addr × Obj)} {σ : L2.St} {H : Hp} {s : Shared}
theorem DpX.reads (I : Inv X pins σ H s) {v : V} {u : Value} {d : PyData} (h : DpX X.K H v d) (r : RelV v u) : ∃ as, Reads s.heap u d as ∧ (d.hasDict = true → sysModules ∉ as) := by
  rcases h with ⟨h, hn⟩ | ⟨a, e, z, rfl, ha, he, rfl⟩
  · obtain ⟨as, rd⟩ := Dp.reads I d v u h r
    exact ⟨as, rd, fun y => by rw [hn] at y; cases y⟩
  · cases r
    obtain ⟨its, rv, ⟨o, ho, hc, n, hd⟩, _⟩ := I.tuple (.inl (.inl ha))
    obtain ⟨_, hsm, vs, kv, oD, es, ep, hoD, hex, hdD, _, pr, _⟩ := dk_of I.hok he
    cases kv
    have e0 : es.toList = [] := by
      cases h : es.toList with
      | nil => rfl
      | cons x y => rw [h] at pr; cases pr
    have hcls : oD.cls = .type "dict" := hex.1
    cases rv with
    | cons r1 rr =>
      cases rr with
      | cons r2 rr =>
        cases rr
        obtain ⟨t, rfl⟩ := r1
        cases r2
        refine ⟨[] ++ ((e :: [] ++ []) ++ []), Reads.tuple ho hc hd (.cons (.str z t) (.cons (Reads.dict hoD hcls hdD ?_ ?_) .nil)), fun _ hm => ?_⟩
        · rw [e0]
          exact .nil
        · rw [e0]
          exact .nil
        · simp at hm
          rw [← hm] at hsm
          simp at hsm
/-- repr(x): the text of x's data -/
def rReprX (K : PySem.W.Frag) : List V → Hp → VK → Prop := fun xs H Q => ∃ (a : Addr) (d : PyData), xs = [.ref a] ∧ DpX K H (.ref a) d ∧ d.showable = true ∧ d.depth ≤ 60 ∧ d.shown.length ≤ sizeLine ∧ Q (.str d.shown) H
theorem call_repr_dataX {k : Nat} (hgd : X.A.guards = some []) (hr : Room k X.A) : CallR X (.builtin "repr") (rReprX X.K) := by
  intro pins s σ H xs us Q I r h
  obtain ⟨a, d, rfl, hd, hs, hdp, hz, q⟩ := h
  obtain ⟨u, rfl, ru⟩ := r.one
  obtain ⟨as, rd, hsm⟩ := DpX.reads I hd ru
  cases ru
  refine repr_of_reads' rd hs hsm hgd (by have := hr.un; omega) (fun b o e => e) (fun h' v tk keep => ?_) hz
  exact ⟨.str d.shown, H, I.kept (t' := tk) keep, ⟨_, rfl⟩, q⟩
end
end Ls
namespace Ls
open PySem PySem.Spec PyProof.Rows L2
/-! ### data whose text is not too long -/
structure DOk (k m : Nat) (d : PyData) : Prop where
  sh : d.showable = true
  nd : d.hasDict = false
  dp : d.depth ≤ k
  ls : d.leavesShort 100 = true
  bk : d.bulk ≤ m
theorem DOk.mono {k m k' m' : Nat} {d : PyData} (h : DOk k m d) (h1 : k ≤ k') (h2 : m ≤ m') : DOk k' m' d := ⟨h.sh, h.nd, Nat.le_trans h.dp h1, h.ls, Nat.le_trans h.bk h2⟩
theorem DOk.none {m : Nat} : DOk 0 m .none := ⟨rfl, rfl, by simp [PyData.depth], rfl, by simp [PyData.bulk]⟩
theorem DOk.bool {m : Nat} (b : Bool) : DOk 0 m (.bool b) := ⟨rfl, rfl, by simp [PyData.depth], rfl, by simp [PyData.bulk]⟩
theorem log_small {i : Int} (h : i.natAbs < 2 ^ 1920) : i.natAbs.log2 < 1920 := by
  by_cases z : i.natAbs = 0
  · rw [z]
    decide
  · exact (Nat.log2_lt z).mpr h
theorem DOk.int {m : Nat} {i : Int} (h : i.natAbs < 10 ^ 60) : DOk 0 m (.int i) :=
  ⟨by
    have e := log_small (Nat.lt_trans h (show 10 ^ 60 < 2 ^ 1920 by decide +kernel))
    simp [PyData.showable, e], by simp [PyData.hasDict], by simp [PyData.depth], by
    have e := int_text_length_le10 (k := 60) (by decide) h
    simp only [PyData.leavesShort, PyData.shown, decide_eq_true_eq]
    refine decide_eq_true ?_
    rw [PySem.ofString_length]
    omega, by simp [PyData.bulk]⟩
/-- a text of at most m signs -/
def okB (m : Nat) (z : Str) : Bool := decide (z.length ≤ m) && z.cps.toList.all fun c => decide (c < 1114112)
theorem okB_len {m : Nat} {z : Str} (h : okB m z = true) : z.length ≤ m := of_decide_eq_true (Bool.and_eq_true_iff.mp h).1
theorem okB_cp {m : Nat} {z : Str} (h : okB m z = true) : ∀ c ∈ z.cps.toList, c < 1114112 := fun c hc => of_decide_eq_true (List.all_eq_true.mp (Bool.and_eq_true_iff.mp h).2 c hc)
theorem okB_ch {m : Nat} {z : Str} (h : okB m z = true) : ∀ c ∈ z.cps.toList, c < 16 ^ 8 := fun c hc => Nat.lt_trans (okB_cp h c hc) (by decide)
theorem okB_strOk {m : Nat} {z : Str} (h : okB m z = true) : PyData.strOk z = true := by
  unfold PyData.strOk
  rw [← Array.all_toList]
  exact List.all_eq_true.mpr fun c hc => decide_eq_true (okB_cp h c hc)
theorem okB_mono {m m' : Nat} {z : Str} (h : okB m z = true) (h1 : m ≤ m') : okB m' z = true := by
  unfold okB at h ⊢
  obtain ⟨a, b⟩ := Bool.and_eq_true_iff.mp h
  rw [b, decide_eq_true (Nat.le_trans (of_decide_eq_true a) h1)]
  rfl
theorem okB_of {m : Nat} {z : Str} (h : z.length ≤ m) (h2 : ∀ c ∈ z.cps.toList, c < 1114112) : okB m z = true := by
  unfold okB
  rw [decide_eq_true h, Bool.true_and, List.all_eq_true]
  exact fun c hc => decide_eq_true (h2 c hc)
theorem okB_append {m n : Nat} {y z : Str} (h : okB m y = true) (h2 : okB n z = true) : okB (m + n) (y ++ z) = true := by
  unfold okB at h h2
  obtain ⟨a, b⟩ := Bool.and_eq_true_iff.mp h
  obtain ⟨c, d⟩ := Bool.and_eq_true_iff.mp h2
  have a := of_decide_eq_true a
  have c := of_decide_eq_true c
  refine okB_of ?_ fun x hx => ?_
  · rw [strLen_append]
    omega
  · have e : (y ++ z).cps.toList = y.cps.toList ++ z.cps.toList := by rw [PySem.Str.cps_append, Array.toList_append]
    rw [e] at hx
    rcases List.mem_append.mp hx with h | h
    · exact of_decide_eq_true (List.all_eq_true.mp b x h)
    · exact of_decide_eq_true (List.all_eq_true.mp d x h)
theorem DOk.str {m : Nat} {z : Str} (h : okB m z = true) : DOk 0 m (.str z) :=
  ⟨rfl, rfl, by simp [PyData.depth], by
    simp only [PyData.leavesShort]
    exact List.all_eq_true.mpr fun c hc => decide_eq_true (okB_ch h c hc), by
    simp only [PyData.bulk]
    exact okB_len h⟩
theorem dok_all {k m : Nat} : ∀ {ds : List PyData}, (∀ d ∈ ds, DOk k m d) → PyData.showableAll ds = true ∧ PyData.hasDictAll ds = false ∧ PyData.depthAll ds ≤ k ∧ PyData.leavesShortAll 100 ds = true ∧ PyData.bulkAll ds ≤ (m + 1) * ds.length
  | [], _ => ⟨by simp [PyData.showableAll], by simp [PyData.hasDictAll], by simp [PyData.depthAll], by simp [PyData.leavesShortAll], by simp [PyData.bulkAll]⟩
  | d :: r, h => by
    obtain ⟨a, b, c, e, f⟩ := dok_all fun x hx => h x (.tail _ hx)
    obtain ⟨a1, b1, c1, e1, f1⟩ := h d (.head _)
    refine ⟨by simp [PyData.showableAll, a, a1], by simp [PyData.hasDictAll, b, b1], ?_, by simp [PyData.leavesShortAll, e, e1], ?_⟩
    · simp only [PyData.depthAll]
      omega
    · simp only [PyData.bulkAll, List.length_cons]
      rw [Nat.mul_add, Nat.mul_one]
      omega
theorem DOk.list {k m : Nat} {ds : List PyData} (h : ∀ d ∈ ds, DOk k m d) : DOk (k + 1) ((m + 1) * ds.length) (.list ds) := by
  obtain ⟨a, b, c, e, f⟩ := dok_all h
  exact ⟨by rw [PyData.showable]; exact a, by rw [PyData.hasDict]; exact b, by rw [PyData.depth]; omega, by rw [PyData.leavesShort]; exact e, by rw [PyData.bulk]; exact f⟩
theorem DOk.tuple {k m : Nat} {ds : List PyData} (h : ∀ d ∈ ds, DOk k m d) : DOk (k + 1) ((m + 1) * ds.length) (.tuple ds) := by
  obtain ⟨a, b, c, e, f⟩ := dok_all h
  exact ⟨by rw [PyData.showable]; exact a, by rw [PyData.hasDict]; exact b, by rw [PyData.depth]; omega, by rw [PyData.leavesShort]; exact e, by rw [PyData.bulk]; exact f⟩
theorem DOk.list' {k m n : Nat} {ds : List PyData} (h : ∀ d ∈ ds, DOk k m d) (hn : ds.length ≤ n) : DOk (k + 1) ((m + 1) * n) (.list ds) := (DOk.list h).mono (Nat.le_refl _) (Nat.mul_le_mul_left _ hn)
theorem DOk.tuple' {k m n : Nat} {ds : List PyData} (h : ∀ d ∈ ds, DOk k m d) (hn : ds.length ≤ n) : DOk (k + 1) ((m + 1) * n) (.tuple ds) := (DOk.tuple h).mono (Nat.le_refl _) (Nat.mul_le_mul_left _ hn)
theorem DOk.fits {k m : Nat} {d : PyData} (h : DOk k m d) (hk : k ≤ 60) (hm : m ≤ 160000) : d.showable = true ∧ d.depth ≤ 60 ∧ d.shown.length ≤ sizeLine := by
  refine ⟨h.sh, Nat.le_trans h.dp hk, ?_⟩
  have e := PyData.shown_le_bulk 100 (by decide) d h.ls
  have e2 := h.bk
  have e3 : (100 + 2) * d.bulk ≤ 102 * 160000 := Nat.mul_le_mul_left _ (by omega)
  exact Nat.le_trans (show _ ≤ 102 * 160000 + 100 by omega) (by decide)
end Ls
namespace Ls
open PySem PySem.Spec PyProof.Rows L2
/-! ### names and checks are short -/
theorem nm_ok {z : Str} (h : Nm z) : okB 8 z = true := okB_of h.1.2.1 fun c hc => by
  have := (h.1.2.2 c hc).2
  omega
theorem nm_ok100 {z : Str} (h : Nm z) : okB 100 z = true := okB_mono (nm_ok h) (by decide)
theorem with_ok {ws : List Str} {z : Str} (hw : ∀ a ∈ ws, okB 5 a = true) (hz : Nm z) : ∀ x ∈ withN ws z, okB 14 x = true := fun x hx => by
  obtain ⟨a, ha, rfl⟩ := List.mem_map.mp hx
  exact okB_append (okB_append (hw a ha) (show okB 1 " " = true by decide +kernel)) (nm_ok hz)
theorem menu_ok {B : Shp} (hB : B.Ok) : ∀ z ∈ menu B, okB 14 z = true := fun z hz => by
  unfold menu at hz
  rcases List.mem_append.mp hz with hz | hz
  · rcases List.mem_append.mp hz with hz | hz
    · obtain ⟨c, hc, h⟩ := List.mem_flatMap.mp hz
      exact with_ok (show ∀ a ∈ colW, okB 5 a = true by decide +kernel) (hB.nm _ (List.mem_append_right _ (List.mem_map_of_mem hc))) z h
    · obtain ⟨c, hc, h⟩ := List.mem_flatMap.mp hz
      exact with_ok (show ∀ a ∈ kindW, okB 5 a = true by decide +kernel) (hB.nm _ (List.mem_append_left _ (List.mem_map_of_mem hc))) z h
  · exact (show ∀ z ∈ bookW, okB 14 z = true by decide +kernel) z hz
theorem menu_small {B : Shp} (hB : B.Ok) : (menu B).length ≤ 51 := by
  have h2 := menu_len B
  have h3 := hB.nc
  have h4 := hB.nk3
  omega
theorem menu_pos (B : Shp) : 0 < (menu B).length := by
  have h2 := menu_len B
  omega
end Ls
namespace Ls
open PySem PySem.Spec PyProof.Rows L2
/-! ### short steps -/
local macro_rules | `(tactic| walk_at "ls_ne") => `(tactic| first | assumption | exact Ne.symm (by assumption) | exact ne_of_none (by assumption) (by assumption) | exact Ne.symm (ne_of_none (by assumption) (by assumption)))
local macro_rules | `(tactic| walk_at "ls_hp") => `(tactic| first
  | with_reducible assumption
  | exact upd_same
  | exact Eq.trans (upd_ne (by walk_at "ls_ne")) (by walk_at "ls_hp"))
local macro_rules | `(tactic| walk_at "ls_st") => `(tactic| first
  | with_reducible assumption
  | exact Stm.upd (by walk_at "ls_st") (by first | walk_at "ls_ne" | exact (Stm.noneS (by assumption) (by assumption)).1) (by first | walk_at "ls_ne" | exact (Stm.noneS (by assumption) (by assumption)).2))
local macro_rules | `(tactic| walk_at "ls1") => `(tactic| first
  | refine ⟨_, rfl, ?_⟩
  | refine ⟨_, _, rfl, rfl, ?_⟩
  | refine ⟨_, _, _, _, rfl, rfl, .inl (.inl (by walk_at "ls_hp")), rfl, ?_⟩
  | refine ⟨_, _, _, _, rfl, rfl, (by walk_at "ls_hp"), rfl, ?_⟩
  | refine ⟨rfl, _, rfl, ?_⟩
  | refine ⟨.inl ⟨rfl, _, .inl (.inl (by walk_at "ls_hp"))⟩, ?_⟩)
local macro_rules | `(tactic| walk_at "ls") => `(tactic| repeat (walk_at "ls1"))

section
variable {P : Program} {w : World} {K : PySem.W.Frag} {mg : Str → Option Value} {base : Heap}
/-! ### _law_rules -/
abbrev s__law_rules : Stmt := topS 65
theorem sc__law_rules : FnScope ["_law_stream", "_law_many", "_law_most"] ["_law_stream", "_law_many", "_law_most"] (defScope s__law_rules) := ⟨rfl, rfl, rfl, by decide +kernel, rfl, by decide +kernel, by decide +kernel⟩
abbrev N__law_rules : List Str := ["_law_stream", "_law_many", "_law_most"]
def spRules : Sp := fun vs H Q _ => ∃ (S L : Addr) (n m c : Nat), vs = [.ref S, .int (m : Int), .int (c : Int)] ∧ Stm H S L n ∧ n ≤ 9900000 ∧ 0 < m ∧ m ≤ 3 ∧ 0 < c ∧ c ≤ 8 ∧
  ∀ (H' : Hp) (b : Addr) (B : Shp) (ck : List Str), B.Ok → B.ks.length ≤ m → B.cs.length ≤ c → H b = none → ck.Sublist (menu B) → ShpAt S L H' b B ck → Stm H' S L (n + 300) → Old S L H H' → Q (.ref b) H'
theorem ok_rules {f : Addr} {fd : FuncData} (F : Fun K "_law_rules" "_law_rules" s__law_rules f fd) (T : Bt mg) (O__law_draw : Own P w K mg base CX0 1 "_law_draw" ["_law_stream", "_law_many"] spDraw)
    (O__law_shape : Own P w K mg base CX0 4 "_law_shape" ["_law_stream", "_law_many", "_law_most"] spShape) (O__law_checked : Own P w K mg base CX0 2 "_law_checked" ["_law_stream", "_law_b"] spChecked) : FnOk P w K mg base CX0 5 f fd ["_law_stream", "_law_many", "_law_most"] spRules := by
  refine F.ok sc__law_rules (fun vs H Q E h => ?_) (fun cdv A outer s H vs Q E hr h => ?_)
  · obtain ⟨S, L, n, m, c, rfl, _⟩ := h
    rfl
  · obtain ⟨S, L, n, m, c, rfl, st, hn, hm0, hm3, hc0, hc8, q⟩ := h
    have hu := hu_of hr
    refine ⟨_, (pss_one (ps_ret (own_call O__law_checked hr (by first | decide | omega) (pa_cons (pv 0) (pa_cons (own_call O__law_shape hr (by first | decide | omega) (pa_cons (pv 0) (pa_cons (pe_op op_add pe_int (own_call O__law_draw hr (by first | decide | omega) (pa_cons (pv 0) (pa_cons (pv 1) pa_nil)))) (pa_cons (pv 2) pa_nil)))) pa_nil))))), ?_⟩
    walk_at "ls"
    refine ⟨S, L, n, (m : Int), rfl, st, by omega, by omega, by omega, fun H1 r r0 r1 st1 od1 => ?_⟩
    refine ⟨_, _, rfl, rfl, ?_⟩
    have er : (1 : Int) + r = ((1 + r.toNat : Nat) : Int) := by omega
    walk_at "ls"
    refine ⟨S, L, n + 1, 1 + r.toNat, c, (by show [V.ref S, V.int (1 + r), V.int (c : Int)] = _; rw [er]), st1, by omega, by omega, by omega, hc0, hc8, fun H2 b B hB hBk hBc hb2 hsh st2 od2 => ?_⟩
    refine ⟨S, L, b, _, B, [], rfl, st2, by omega, hsh, hB, fun H3 p ck' hp hck hsh3 st3 od3 => ?_⟩
    exact q _ p B ck' hB (by omega) hBc ((od1.trans od2).none hp (st2.noneS hp)) hck hsh3 (st3.mono (by omega)) ((od1.trans od2).trans od3)
end
end Ls
namespace Ls
open PySem PySem.Spec PyProof.Rows L2
/-! ### a list of any things, compared with an empty list -/
def rNeE (K : PySem.W.Frag) : R2 := fun x y H Q => ∃ (a b : Addr) (xs : List V), x = .ref a ∧ y = .ref b ∧ SqL K H a xs ∧ SqL K H b [] ∧ Q (.bl (!xs.isEmpty)) H
theorem op_neE {X : Cx} (hu : X.A.units + 64 < cLine) : OpR X (compareOp .NotEq) (rNeE X.K) := by
  intro pins s σ H x y v u Q I rx ry h
  obtain ⟨a, b, xs, rfl, rfl, ha, hb, q⟩ := h
  cases rx
  cases ry
  obtain ⟨its, rv, p, hz⟩ := I.list ha
  obtain ⟨its2, rv2, p2, hz2⟩ := I.list hb
  cases rv2
  have hc : X.A.units < cLine := by omega
  cases xs with
  | nil =>
    cases rv
    have h1 := SeqAt.RcNeAt.lists (A := X.A) (s := s) (e := fun _ => true) p.isList p2.isList rfl hc (fun j h1 _ => absurd h1 (by simp))
    exact h1 X.prog X.w X.xe _ ⟨.bl _, H, I, rfl, q⟩
  | cons z r =>
    have hl : its.length ≠ 0 := by rw [← rv.length]; simp
    have h1 := SeqAt.RcNeAt.lists_lengths (A := X.A) (s := s) p.isList p2.isList (by simpa using hl) hc
    exact h1 X.prog X.w X.xe _ ⟨.bl _, H, I, rfl, q⟩
theorem neE {X : Cx} (K : PySem.W.Frag) {k : Nat} (hr : Room k X.A) (h : X.K = K := by rfl) : OpR X (compareOp .NotEq) (rNeE K) := by subst h; exact op_neE hr.units
/-! ### methods of built-in types where the context is bound -/
section
variable {X : Cx} {o e : Expr} {es : List Expr} {to : TE} {t : TA} {name : Str} {apos cpos : Pos} {T id : String} {r : V → List V → Hp → VK → Prop}
theorem pe_bm0K (K : PySem.W.Frag) (pa : PlainAttrs T) (slot : Slot T name id) (hty : typeOf (.builtin id) = pure (.type "method_descriptor")) (hm : MtM X id r) (ho : PE X o to) (hK : X.K = K := by rfl)
    (hbase : attributeBase o name X.env (eval o X.env) = eval o X.env := by rfl) (hline : (apos.endLine == cpos.line) = true := by rfl) : PE X (.Call (.Attribute o name apos) [] [] cpos) (tBM0 K T r to) := by
  subst hK
  exact pe_bm0 pa slot hty hm ho hbase hline
theorem pe_bmK (K : PySem.W.Frag) (pa : PlainAttrs T) (slot : Slot T name id) (hty : typeOf (.builtin id) = pure (.type "method_descriptor")) (hm : MtM X id r) (ho : PE X o to) (ha : PA X (e :: es) t) (hK : X.K = K := by rfl)
    (hbase : attributeBase o name X.env (eval o X.env) = eval o X.env := by rfl)
    (hfew : ((backTo cpos (starEach (e :: es) X.env)).all (fun x => !x.1) && (backToKw cpos (keywordEach [] X.env)).all (fun x => x.1.isSome)
      && decide ((e :: es).length + ([] : List Keyword).length + (if ([] : List Keyword).isEmpty then 0 else 1) < 30)) = true := by rfl)
    (hline : (apos.endLine == cpos.line) = true := by rfl) (hs : starEach (e :: es) X.env = (false, eval e X.env) :: starEach es X.env := by rfl) (hplain : (backTo cpos (starEach es X.env)).any (·.1) = false := by rfl) :
    PE X (.Call (.Attribute o name apos) (e :: es) [] cpos) (tBM K T r to t) := by
  subst hK
  exact pe_bm pa slot hty hm ho ha hbase hfew hline hs hplain
end
end Ls
namespace Ls
open PySem PySem.Spec PyProof.Rows L2
/-! ### short steps -/
local macro_rules | `(tactic| walk_at "ls_ne") => `(tactic| first | assumption | exact Ne.symm (by assumption) | exact ne_of_none (by assumption) (by assumption) | exact Ne.symm (ne_of_none (by assumption) (by assumption)))
local macro_rules | `(tactic| walk_at "ls_hp") => `(tactic| first
  | with_reducible assumption
  | exact upd_same
  | exact Eq.trans (upd_ne (by walk_at "ls_ne")) (by walk_at "ls_hp"))
local macro_rules | `(tactic| walk_at "ls_st") => `(tactic| first
  | with_reducible assumption
  | exact Stm.upd (by walk_at "ls_st") (by first | walk_at "ls_ne" | exact (Stm.noneS (by assumption) (by assumption)).1) (by first | walk_at "ls_ne" | exact (Stm.noneS (by assumption) (by assumption)).2))
local macro_rules | `(tactic| walk_at "ls1") => `(tactic| first
  | refine ⟨_, rfl, ?_⟩
  | refine ⟨_, _, rfl, rfl, ?_⟩
  | refine ⟨_, _, _, _, rfl, rfl, .inl (.inl (by walk_at "ls_hp")), rfl, ?_⟩
  | refine ⟨_, _, _, _, rfl, rfl, (by walk_at "ls_hp"), rfl, ?_⟩
  | refine ⟨rfl, _, rfl, ?_⟩
  | refine ⟨.inl ⟨rfl, _, .inl (.inl (by walk_at "ls_hp"))⟩, ?_⟩)
local macro_rules | `(tactic| walk_at "ls") => `(tactic| repeat (walk_at "ls1"))

section
variable {P : Program} {w : World} {K : PySem.W.Frag} {mg : Str → Option Value} {base : Heap}
/-! ### _law_mixed -/
abbrev s__law_mixed : Stmt := topS 58
theorem sc__law_mixed : FnScope ["_law_stream", "_law_things", "_law_left", "_law_k"] ["_law_stream", "_law_things"] (defScope s__law_mixed) := ⟨rfl, rfl, rfl, by decide +kernel, rfl, by decide +kernel, by decide +kernel⟩
abbrev N__law_mixed : List Str := ["_law_stream", "_law_things", "_law_left", "_law_k"]
theorem seqIx_nat {n r : Nat} (h : r < n) : seqIndex? (r : Int) n = some r := by
  unfold seqIndex?
  simp
  omega
theorem perm_erase {α : Type} : ∀ (zs : List α) (r : Nat) (h : r < zs.length), ([zs[r]] ++ zs.eraseIdx r).Perm zs
  | z :: zs, 0, _ => .refl _
  | z :: zs, r + 1, h => by
    have h' : r < zs.length := by simpa using h
    have ih := perm_erase zs r h'
    exact List.Perm.trans (List.Perm.swap z (zs[r]'h') (zs.eraseIdx r)) (List.Perm.cons z ih)
def spMixed (K : PySem.W.Frag) : Sp := fun vs H Q _ => ∃ (S L a : Addr) (n : Nat) (xs : List V), vs = [.ref S, .ref a] ∧ Stm H S L n ∧ n + xs.length ≤ 9990000 ∧ SqL K H a xs ∧ xs.length ≤ 1000 ∧
  ∀ (H' : Hp) (p : Addr) (ys : List V), H p = none → ys.Perm xs → H' p = some (.lst ys) → (p ≠ S ∧ p ≠ L) → Stm H' S L (n + xs.length) → Old S L H H' → Q (.ref p) H'
theorem ok_mixed {f : Addr} {fd : FuncData} (F : Fun K "_law_mixed" "_law_mixed" s__law_mixed f fd) (T : Bt mg) (O__law_draw : Own P w K mg base CX0 1 "_law_draw" ["_law_stream", "_law_many"] spDraw) : FnOk P w K mg base CX0 2 f fd ["_law_stream", "_law_things"] (spMixed K) := by
  refine F.ok sc__law_mixed (fun vs H Q E h => ?_) (fun cdv A outer s H vs Q E hr h => ?_)
  · obtain ⟨S, L, a, n, xs, rfl, _⟩ := h
    rfl
  · obtain ⟨S, L, a, n, xs, rfl, st, hn, ha, lx, q⟩ := h
    have hu := hu_of hr
    refine ⟨_, (pss_cons (ps_set (i := 2) sc__law_mixed.nd rfl (Or.inr rfl) (pe_callTy (list_of K) (by rfl) T.m_list (by decide +kernel) (pa_cons (pv 1) pa_nil)))
      (pss_one (ps_ret (pe_lc (own := [("_law_k", 3)]) (g := gName 3) (by rfl) sc__law_mixed.nd (pi_range1 rfl T.m_range (pa_cons (pe_callB (len_seq K) (by rfl) T.m_len (by decide +kernel) (pa_cons (pv 2) pa_nil)) pa_nil)) (blkOk_by (own := [("_law_k", 3)]) (N := N__law_mixed) (sc := defScope s__law_mixed) (by decide +kernel)) (fun _ _ _ _ _ => (pg_name (i := 3) sc__law_mixed.nd rfl (Or.inl rfl) (Or.inr rfl))) (fun _ _ _ _ _ => pts_nil) (fun _ _ _ _ _ => (pe_bmK K PySem.F.plainAttrs_list PySem.F.slot_list_pop PySem.F.type_list_pop mt_popAt (pv 2) (pa_cons (own_call O__law_draw hr (by first | decide | omega) (pa_cons (pv 0) (pa_cons (pe_callB (len_seq K) (by rfl) T.m_len (by decide +kernel) (pa_cons (pv 2) pa_nil)) pa_nil))) pa_nil))))))), ?_⟩
    walk_at "ls"
    refine ⟨a, xs, rfl, .inl ha, fun l hl => ?_⟩
    have nl := st.noneS hl
    walk_at "ls"
    refine ⟨l, _, rfl, .inl (.inl (.inl upd_same)), ?_⟩
    refine ⟨xs.length, rfl, by omega, by omega, fun D hD => ?_⟩
    have nlD : l ≠ D := ne_of_none upd_same hD
    have st1 := st.upd (o := .lst xs) nl.1 nl.2
    have nD := st1.noneS hD
    refine lc_it walk_range (fun i H3 => ∃ ys zs : List V, H3 D = some (.lst ys) ∧ H3 l = some (.lst zs) ∧ ys.length = i ∧ zs.length + i = xs.length ∧ (ys ++ zs).Perm xs ∧ Stm H3 S L (n + i) ∧ Old S L H H3)
      ⟨[], xs, upd_same, (by rw [upd_ne nlD]; exact upd_same), rfl, rfl, .refl _, st1.upd nD.1 nD.2, (Old.new hl).trans (.new hD)⟩ (fun _ _ _ _ => trivial) (fun i x H3 H4 hi hP hy => ?_) (fun H3 hP => ?_)
    · obtain ⟨ys, zs, h3D, h3l, ly, lz, pm, st3, od3⟩ := hP
      obtain ⟨rfl, rfl⟩ := hy
      refine ⟨rfl, ?_⟩
      have lz1 : 0 < zs.length := by omega
      walk_at "ls"
      refine ⟨l, zs, rfl, .inl (.inl (.inl h3l)), ?_⟩
      refine ⟨S, L, n + i, _, rfl, st3, by omega, by omega, by omega, fun H5 r r0 r1 st5 od5 => ?_⟩
      obtain ⟨r, rfl⟩ := Int.eq_ofNat_of_zero_le r0
      have hr' : r < zs.length := by omega
      have h5D := od5 _ _ nD.1 nD.2 h3D
      have h5l := od5 _ _ nl.1 nl.2 h3l
      refine ⟨l, zs, (r : Int), r, zs[r], rfl, rfl, h5l, by omega, by omega, seqIx_nat hr', List.getElem?_eq_getElem hr', ys, (by rw [upd_ne nlD.symm]; exact h5D), small1000 (by omega), ys ++ [zs[r]], zs.eraseIdx r, upd_same, ?_, ?_, ?_, ?_, ?_, ?_⟩
      · rw [upd_ne nlD]
        exact upd_same
      · rw [List.length_append, ly]
        rfl
      · rw [List.length_eraseIdx_of_lt hr']
        omega
      · refine List.Perm.trans ?_ pm
        rw [List.append_assoc]
        exact List.Perm.append_left ys (perm_erase zs r hr')
      · exact ((st5.mono (by omega)).upd nl.1 nl.2).upd nD.1 nD.2
      · exact Old.set (Old.set (od3.trans od5) hl) (Same.free (same_new hl) hD)
    · obtain ⟨ys, zs, h3D, h3l, ly, lz, pm, st3, od3⟩ := hP
      have ez : zs = [] := List.eq_nil_of_length_eq_zero (by omega)
      subst ez
      rw [List.append_nil] at pm
      exact q H3 D ys (Same.free (same_new hl) hD) pm h3D nD st3 od3
end
end Ls
namespace Ls
open PySem PySem.Spec PyProof.Rows L2 NdefX
open PySem.W (InstAt ks_superObj ksEnv mg_none_of)

/-! ### an own error over ValueError whose __init__ says super().__init__('..') ahead -/
abbrev bmVE : List Value := [.type "ValueError", .type "Exception", .type "BaseException", .type "object"]
/-- the class at C, the cell of its name, the code object of its __init__ -/
structure SupC (P : Program) (K : PySem.W.Frag) (C cc cda : Addr) : Prop where
  ox : OexC K C
  code : ∃ ccl cdd vs ccs file tf, K.lookup cda = some ⟨ccl, cdd, .fields vs, ccs⟩ ∧ vs[2]? = some (.str file tf) ∧ ((P.main.file : Str) == file) = true
  cell : ∃ cl cld csl, K.lookup cc = some ⟨cl, cld, .cell (some (.ref C)), csl⟩
  sub : PySem.W.mroIn K C (.ref C) = some true
  nsup : PySem.W.nsIn K mainGlobals "super" = some none
  opq : PySem.W.nsIn K cStatics "thirdparty.any" = some none
  sup : PySem.W.ks_superIn K C C "__init__" = some (some (.builtin "ValueError.__init__"))
  subV : PySem.W.subIn K (.ref C) (.type "ValueError") = some true
  ini : PySem.W.excInitIn K C bmVE "ValueError.__new__" = true
  top : (P.main.scope.names.lookup ("super" : Str)).isSome = false

section
variable {prog : Program} {w : World} {A : Around} {E : Value → Shared → Prop} {s : Shared} {h₀ : Heap} {L : Addr} {m mg : Str → Option Value} {K : PySem.W.Frag} {news : List (Addr × Obj)} {x C f cc cda : Addr} {ox : Obj} {odx : Option Obj}
  {body : List Stmt} {q : Str} {scope : Scope} {p0 p1 p2 p3 p4 p5 : Pos} {fd : FuncData} {ar : Arg} {oc : Value} {od : Option Addr} {osl : Array (Option Value)}
theorem sup_node {whole : Sem Value} {Q : Value → Shared → Prop} (T : SupC prog K C cc cda) (F : Fr h₀ L s.heap m) (M : Mod K mg h₀) (N : News h₀ L s.heap news)
    (hf : K.lookup f = some ⟨oc, od, .func fd, osl⟩) (hp : (fd.params.posonlyargs ++ fd.params.args).head? = some ar) (hv : m ar.arg = some (.ref x)) (I : InstAt s.heap x ox C odx)
    (hks : scope.names.lookup ("super" : Str) = some .globalImplicit) (hkc : scope.names.lookup ("__class__" : Str) = some .free) (hka : scope.names.lookup ar.arg = some .local) (hk : scope.kind = .function)
    (h : ∀ so h', Fr h₀ L h' m → News h₀ L h' ((so, ks_superObj C x C) :: news) → (∀ p ∈ news, p.1 < so) → Q (.ref so) { s with heap := h' }) :
    _root_.PySem.wpAt (model prog w) A (.func body (ksEnv q scope L f (.ref cda) cc)) (attributeBase (.Call (.Name "super" p0) [] [] p1) "__init__" (ksEnv q scope L f (.ref cda) cc) whole) Q E s := by
  have KH : K.In s.heap := M.kin.keeps F.keep
  obtain ⟨ccl, cdd, vs, ccs, file, tf, hcode, hvs, hfile⟩ := T.code
  obtain ⟨cl, cld, csl, hcell⟩ := T.cell
  obtain ⟨nm, qn, N', bs, bm, sn, sub, ab, col, dd, k0, k1, k2, k3, k5, hC, _⟩ := T.ox.cls
  obtain ⟨mb, hb, hbt⟩ := M.blt
  obtain ⟨hh, g, d, t, os⟩ := s
  have oC := KH _ _ hC
  refine ks_wpAt_super_base (env := ksEnv q scope L f (.ref cda) cc) hks hkc (by decide) rfl (KH _ _ hf) rfl hp rfl (KH _ _ hcode) rfl hvs hfile T.top ?_
  refine PySem.W.ks_loadName_global hk hks ?_
  refine Calls.loadGlobal_builtin (env := ksEnv q scope L f (.ref cda) cc) (M.glob.keeps F.keep) (mg_none_of M.kin M.glob T.nsup) (hb.keeps F.keep) ((hbt _ (by decide +kernel)).trans PyProof.Rows.Boot.«super») ⟨rfl, ?_⟩
  refine wpAny_loadName_free hk hkc rfl ⟨_, KH _ _ hcell, rfl⟩ ?_
  refine wpAny_loadName_local hk hka F.ns hv ?_
  refine ks_wpAny_isType_cls oC rfl ⟨rfl, ?_⟩
  have nc : ∀ c, ox.data ≠ .cls c := fun c e => by
    have z := I.no
    unfold PySem.W.notCls at z
    rw [e] at z
    exact Bool.noConfusion z
  refine ks_wpAny_call_super oC rfl I.at_ I.cls nc (PySem.W.looks_mroIn KH T.sub) fun h' e k => ?_
  obtain ⟨F', N', l'⟩ := PySem.W.ks_newsPush (s := ⟨hh, g, d, t, os⟩) F N rfl e k
  exact h _ _ F' N' l'
/-- how that call reads in its frame -/
def SupEv (q : Str) (scope : Scope) (f cc cda : Addr) (txt : Str) (j : Nat) (p0 p1 p2 p3 p4 : Pos) : Prop := ∀ L, ∃ pl : Sem Bool, eval (.Call (.Attribute (.Call (.Name "super" p0) [] [] p1) "__init__" p2) [.Constant (.str txt) j p3] [] p4) (ksEnv q scope L f (.ref cda) cc) = (do
  let ov ← attributeBase (.Call (.Name "super" p0) [] [] p1) "__init__" (ksEnv q scope L f (.ref cda) cc) (eval (.Call (.Name "super" p0) [] [] p1) (ksEnv q scope L f (.ref cda) cc))
  standAt p2.atName
  let (f', first) ← holding [ov] (getMethod ov "__init__" pl)
  callWith p4 f' first (backTo p4 (starEach [.Constant (.str txt) j p3] (ksEnv q scope L f (.ref cda) cc))) [])
/-- the statement super().__init__('..') -/
theorem sup_first {txt : Str} {j : Nat} {t0 : Addr} {Q : Flow → Shared → Prop} (T : SupC prog K C cc cda) (F : Fr h₀ L s.heap m) (M : Mod K mg h₀) (hx : s.heap.get? x = some (PySem.W.excObj C t0 none .none)) (xL : x ≠ L) (x0 : h₀.get? x = none)
    (hf : K.lookup f = some ⟨oc, od, .func fd, osl⟩) (hp : (fd.params.posonlyargs ++ fd.params.args).head? = some ar) (hv : m ar.arg = some (.ref x))
    (hks : scope.names.lookup ("super" : Str) = some .globalImplicit) (hkc : scope.names.lookup ("__class__" : Str) = some .free) (hka : scope.names.lookup ar.arg = some .local) (hk : scope.kind = .function)
    (hev : SupEv q scope f cc cda txt j p0 p1 p2 p3 p4) (h : ∀ h' tk t1, Fr h₀ L h' m → h'.get? x = some (PySem.W.excObj C t1 none .none) → Q .next { s with heap := h', toks := tk }) :
    _root_.PySem.wpAt (model prog w) A (.func body (ksEnv q scope L f (.ref cda) cc)) (exec (.Expr (.Call (.Attribute (.Call (.Name "super" p0) [] [] p1) "__init__" p2) [.Constant (.str txt) j p3] [] p4) p5) (ksEnv q scope L f (.ref cda) cc)) Q E s := by
  have N : News h₀ L s.heap [(x, PySem.W.excObj C t0 none .none)] := fun p hp => by
    rcases List.mem_singleton.mp hp with rfl
    exact ⟨hx, xL, x0⟩
  obtain ⟨pl, hcl⟩ := hev L
  refine ks_wpAt_Expr_any (ks_wpAt_MethodCall (pl := pl) ?_ hcl) (hi := by show (scope.kind == .module && _) = false; rw [hk]; rfl)
  refine sup_node (ox := PySem.W.excObj C t0 none .none) (odx := none) T F M N hf hp hv ⟨hx, rfl, rfl, trivial⟩ hks hkc hka hk fun so h1 F1 N1 l1 => ?_
  refine PySem.W.kxs_method PySem.W.kxs_ValueError F1 M.kin N1 (List.mem_cons_self ..) (ox := PySem.W.excObj C t0 none .none) (odx := none) ⟨(N1 _ (.tail _ (.head _))).1, rfl, rfl, trivial⟩ T.opq T.sup T.subV rfl fun u h2 F2 N2 l2 => ?_
  have xs : x ≠ so := Nat.ne_of_lt (l1 (x, PySem.W.excObj C t0 none .none) (.head _))
  have xu : x ≠ u := Nat.ne_of_lt (l2 (x, PySem.W.excObj C t0 none .none) (.tail _ (.head _)))
  refine PySem.W.kxs_callWith1 N2 (.head _) ?_
  refine Calls.spliced_cons (Calls.Constant_str (k := j) (pos := p3) (Calls.spliced_nil ⟨PySem.W.kxs_at N2 (.head _), ?_⟩))
  refine PySem.W.kxs_call F2 M.kin N2 PySem.F.excBase_ValueError T.ini (.head _) (PySem.W.UpdF.tail (Ne.symm xu) (PySem.W.UpdF.tail (Ne.symm xs) (PySem.W.UpdF.head fun p hp => nomatch hp))) (by show 1 ≤ sizeLine; rw [sizeLine_eq]; omega) fun t' h3 F3 N3 l3 => ?_
  exact h h3 _ t' F3 (N3 _ (.tail _ (.tail _ (.tail _ (.head _))))).1
end

/-- no error leaves -/
abbrev CXN : CXT := fun _ _ _ _ _ _ => False
/-- THE RULE: such an __init__ by what stands behind super().__init__('..') -/
theorem sup_fn {CX : CXT} {P : Program} {w : World} {K : PySem.W.Frag} {mg : Str → Option Value} {base : Heap} {k : Nat} {fI C cc cda : Addr} {name qual : Str} {params : Arguments} {body rest : List Stmt} {scope : Scope} {doc pm ct oc : Value}
    {od : Option Addr} {osl : Array (Option Value)} {N ps : List Str} {sp : Sp} {txt : Str} {j : Nat} {p0 p1 p2 p3 p4 p5 : Pos} {ar : Arg} (T : SupC P K C cc cda)
    (lk : K.lookup fI = some ⟨oc, od, .func (PySem.W.fnX name qual params body scope [("__class__", cc)] .none .none doc pm none (.ref cda) ct), osl⟩) (hcd : PySem.W.codeIn K (.ref cda) qual = true) (S : NScope N ps ["__class__"] scope)
    (hbd : body = .Expr (.Call (.Attribute (.Call (.Name "super" p0) [] [] p1) "__init__" p2) [.Constant (.str txt) j p3] [] p4) p5 :: rest)
    (hp : (params.posonlyargs ++ params.args).head? = some ar) (ha : ps[0]? = some ar.arg) (hks : scope.names.lookup ("super" : Str) = some .globalImplicit) (hev : SupEv qual scope fI cc cda txt j p0 p1 p2 p3 p4)
    (len : ∀ vs H Q E, sp vs H Q E → vs.length = ps.length)
    (self : ∀ vs H Q E, sp vs H Q E → ∃ a, vs[0]? = some (.ref a) ∧ H a = some (exo a C none))
    (hbody : ∀ (A : Around) (outer : List Env) (s : Shared) (H : Hp) (vs : List V) (Q : VK) (E : XK), sp vs H Q E →
      ∃ t, PSs (ncx CXN P w K mg base N ⟨name, qual, params, body, scope, [("__class__", cc)], cda⟩ fI A outer s H E) rest t ∧ t { nx := fun _ H' => Q .non H', rt := Q } (startF N vs [some (.ref C)]) H) :
    FnOk P w K mg base CX (k + 1) fI (PySem.W.fnX name qual params body scope [("__class__", cc)] .none .none doc pm none (.ref cda) ct) ps sp := by
  refine ⟨len, fun A outer s H args us vs Q E hr e0 hb r hsp => ?_⟩
  have hl := len _ _ _ _ hsp
  obtain ⟨a, hv0, hHa⟩ := self _ _ _ _ hsp
  obtain ⟨u0, hu0, ru0⟩ := r.get hv0
  obtain rfl : u0 = Value.ref a := ru0
  have bk : ∀ b o, base.get? b = some o → s.heap.get? b = some o := fun b o e => (e0.bs b o e).1
  have KX : K.In s.heap := e0.mod.kin.keeps bk
  have lim : s.heap.NoLimit := e0.mod.nolimit.keeps bk
  obtain ⟨t1, hoa⟩ := exo_at e0.hok hHa
  obtain ⟨cl, cld, csl, hcell⟩ := T.cell
  have C0 : CellsAt [("__class__", cc)] ["__class__"] [some (.ref C)] s.heap H := {
    len := rfl
    all := fun y c e => by
      have z : y = "__class__" ∧ c = cc := by
        by_cases hy : y = ("__class__" : Str)
        · subst hy
          simp [List.lookup] at e
          exact ⟨rfl, e.symm⟩
        · have e2 : (y == ("__class__" : Str)) = false := by simpa using hy
          simp [List.lookup, e2] at e
      obtain ⟨_, rfl⟩ := z
      refine ⟨?_, _, _, KX _ _ hcell, rfl⟩
      exact (e0.bs _ _ (e0.mod.kin _ _ hcell)).2
    inj := fun x y c e1 e2 => by
      have one : ∀ {y : Str}, List.lookup y [(("__class__" : Str), cc)] = some c → y = "__class__" := fun {y} e => by
        by_cases hy : y = ("__class__" : Str)
        · exact hy
        · have e2 : (y == ("__class__" : Str)) = false := by simpa using hy
          simp [List.lookup, e2] at e
      rw [one e1, one e2]
    has := fun i y e => by
      cases i with
      | succ i => simp at e
      | zero =>
        simp at e
        subst e
        refine ⟨cc, by simp [List.lookup], fun v hv => ?_⟩
        simp at hv
        subst hv
        exact ⟨.ref C, rfl, _, KX _ _ hcell, rfl⟩ }
  refine codeAny_call_function hr.depth (KX _ _ lk) rfl S.co S.gen rfl (PySem.W.codeRec_of KX hcd) (hb _ _ _ _ ?_)
  refine wpAny_newFunctionEnv S.nocell (fun ⟨n, _⟩ hy => S.par n (List.of_mem_zip hy).1) (fun h₁ hns hsb => ⟨lim.fresh _ hsb, ?_⟩) S.kind
  have kp : ∀ b o, s.heap.get? b = some o → h₁.get? b = some o := fun b o e => hsb.extBut b o (Nat.ne_of_lt (Heap.lt_size e)) (Heap.get?_push_of_some _ e)
  obtain ⟨t, ht, hq⟩ := hbody A outer s H vs Q E hsp
  have I1 : Inv (ncx CXN P w K mg base N ⟨name, qual, params, body, scope, [("__class__", cc)], cda⟩ fI A outer s H E) [] (startF N vs [some (.ref C)]) H { s with heap := h₁, toks := s.toks + (ps.zip us).length } := inv_startN S hr.hd e0 hl r C0 hns kp
  have aL : a ≠ s.heap.objs.size := Nat.ne_of_lt (Heap.lt_size hoa)
  have hid : ∀ b o, (PySem.W.hideAll s.heap [a]).get? b = some o → s.heap.get? b = some o := fun b o e => PySem.W.of_hideAll _ e
  have G0 : ∀ b o, base.get? b = some o → (PySem.W.hideAll s.heap [a]).get? b = some o := fun b o e => PySem.W.hideAll_get _ (bk b o e) fun z => by
    have z' := List.mem_singleton.mp z
    subst z'
    rw [(e0.bs _ _ e).2] at hHa
    cases hHa
  have M0 : Mod K mg (PySem.W.hideAll s.heap [a]) := ⟨e0.mod.kin.keeps G0, e0.mod.glob.keeps G0, by
    obtain ⟨mb, hb, hbt⟩ := e0.mod.blt
    exact ⟨mb, hb.keeps G0, hbt⟩, e0.mod.nolimit.keeps G0⟩
  have ndP : ps.Nodup := by
    have q := S.nd.sublist (List.take_sublist (ps.length + [("__class__" : Str)].length) N)
    rw [S.pre] at q
    exact (List.nodup_append.mp q).1
  have F1 : Fr (PySem.W.hideAll s.heap [a]) s.heap.objs.size h₁ (fun y => (ps.zip us).reverse.lookup y) := ⟨hns, fun b o e => kp _ _ (hid _ _ e), Nat.le_of_eq (PySem.W.hideAll_size _ _)⟩
  show codeAny _ _ (.func body (envF ⟨name, qual, params, body, scope, [("__class__", cc)], cda⟩ fI s.heap.objs.size)) _ _
  refine ks_codeAny_funcAt ?_
  show _root_.PySem.wpAt _ _ (.func body (ksEnv qual scope s.heap.objs.size fI (.ref cda) cc)) (execs body (ksEnv qual scope s.heap.objs.size fI (.ref cda) cc)) _ _ _
  have hbx : execs body (ksEnv qual scope s.heap.objs.size fI (.ref cda) cc) = execs (.Expr (.Call (.Attribute (.Call (.Name "super" p0) [] [] p1) "__init__" p2) [.Constant (.str txt) j p3] [] p4) p5 :: rest) (ksEnv qual scope s.heap.objs.size fI (.ref cda) cc) := by rw [hbd]
  rw [hbx]
  refine ks_wpAt_execs_cons ?_
  refine sup_first (x := a) T F1 M0 (kp _ _ hoa) aL (PySem.W.hideAll_none _ (List.mem_singleton.mpr rfl)) lk hp (zip_look ndP ha hu0) hks (S.frk _ (List.mem_singleton.mpr rfl)) (S.par _ (List.mem_of_getElem? ha)) S.kind hev fun h3 tk t3 F3 hx3 => ?_
  have k3 : ∀ b o, b ≠ a → s.heap.get? b = some o → h3.get? b = some o := fun b o hb e => F3.keep _ _ (PySem.W.hideAll_get _ e fun z => hb (List.mem_singleton.mp z))
  have old : ∀ b o, b ≠ s.heap.objs.size → h₁.get? b = some o → s.heap.get? b = some o := fun b o hb e => by
    exact (Heap.get?_push_ne _ _ _ hb).symm.trans ((hsb.2 b hb).symm.trans e)
  have na : ∀ {b : Addr}, H b = none → b ≠ a := fun {b} n z => by
    rw [z, hHa] at n
    cases n
  have eu : upd H a (exo a C none) = H := by
    funext b
    by_cases hb : b = a
    · rw [hb, upd_same, hHa]
    · rw [upd_ne hb]
  have hok3 : HOk P w H h3 := by
    have z := e0.hok.write (x := a) (e := a) (o' := exo a C none) (h' := h3) (by rw [hHa]; exact True.intro) (.inl rfl) k3 ⟨_, hx3⟩ (exo_ok hx3)
    rw [eu] at z
    exact z
  have I3 : Inv (ncx CXN P w K mg base N ⟨name, qual, params, body, scope, [("__class__", cc)], cda⟩ fI A outer s H E) [] (startF N vs [some (.ref C)]) H { s with heap := h3, toks := tk } := by
    refine Inv.step (s := { s with heap := h₁, toks := s.toks + (ps.zip us).length }) (h' := h3) I1 (g' := s.gens) (d' := s.drawn) (t' := tk) (ch := []) (fun _ z => nomatch z) (fun b o hL _ _ e n => k3 b o (na n) (old b o hL e)) (fun b o hL _ _ e n => ⟨o.slots, k3 b o (na n) (old b o hL e)⟩) (fun _ _ _ _ n => n) (fun b o _ e => ?_)
      (fun _ _ z => z) (fun _ _ _ z => z) (fun b ps z => ⟨#[], by rw [z]; simp⟩) (fun m hm => ?_) hok3 e0.bare
    · by_cases hL : b = s.heap.objs.size
      · obtain ⟨o', _, _, q, _⟩ := F3.ns
        exact ⟨o', by rw [hL]; exact q⟩
      · by_cases hb : b = a
        · exact ⟨_, by rw [hb]; exact hx3⟩
        · exact ⟨o, k3 b o hb (old b o hL e)⟩
    · have q : m = fun y => (ps.zip us).reverse.lookup y := funext fun y => Heap.Ns.agree (show h₁.Ns s.heap.objs.size m from hm) hns y
      rw [q]
      exact F3.ns
  refine wpAt_of_wpAny ?_
  refine wpAny_mono (ht.run [] _ (startF N vs [some (.ref C)]) H _ I3 hq) (fun fl s' hs => ?_) fun e s' hs => ?_
  · have fin : ∀ {σ' : L2.St} {H' : Hp} {v : V} {u : Value}, Inv (ncx CXN P w K mg base N ⟨name, qual, params, body, scope, [("__class__", cc)], cda⟩ fI A outer s H E) [] σ' H' s' → L2.RelV v u → Q v H' → CE outer P w H s Q u s' :=
      fun {σ' H' v u} J rv q => ⟨v, H', J.os, J.bare, J.base, J.hok, rv, q⟩
    cases fl with
    | ret u =>
      obtain ⟨v, σ', H', J, rv, q⟩ := hs
      exact fin J rv q
    | next =>
      obtain ⟨σ', H', J, q⟩ := hs
      exact fin (v := V.non) (u := Value.none) J rfl q
    | brk =>
      obtain ⟨_, _, _, q⟩ := hs
      exact False.elim q
    | cont =>
      obtain ⟨_, _, _, q⟩ := hs
      exact False.elim q
  · exact wpAny_mono hs (fun _ _ z => z.elim) fun _ _ z => z.elim
end Ls
namespace Ls
open PySem PySem.Spec PyProof.Rows L2 NdefX
open PySem.W (ksEnv)

/-! ### the texts of such __init__ -/
/-- self.f = f -/
def StoreSt (f : Str) (st : Stmt) : Prop := (∃ p p' p'' pos, st = .Assign [.Attribute (.Name "self" p) f p'] (.Name f p'') pos) ∧ (f == ("__debug__" : Str)) = false ∧ (f == ("__classdict__" : Str)) = false
def Stores : List Str → List Stmt → Prop
  | [], [] => True
  | f :: fs, st :: r => StoreSt f st ∧ Stores fs r
  | _, _ => False
/-- what is asked of the text st of an own error's __init__ with the fields fs -/
structure ErrTx (st : Stmt) (qual : Str) (fs : List Str) : Prop where
  nsc : NScope (("self" : Str) :: (fs ++ [("__class__" : Str)])) (("self" : Str) :: fs) [("__class__" : Str)] (defScope st)
  hsup : (defScope st).names.lookup ("super" : Str) = some .globalImplicit
  par : ∃ ar, ((defArgs st).posonlyargs ++ (defArgs st).args).head? = some ar ∧ ar.arg = "self"
  body : ∃ (txt : Str) (j : Nat) (p0 p1 p2 p3 p4 p5 : Pos) (rest : List Stmt), defBody st = .Expr (.Call (.Attribute (.Call (.Name "super" p0) [] [] p1) "__init__" p2) [.Constant (.str txt) j p3] [] p4) p5 :: rest ∧ Stores fs rest ∧
    ∀ f cc cda, SupEv qual (defScope st) f cc cda txt j p0 p1 p2 p3 p4
  bind : ∀ (cc cda : Addr) (doc pm ct : Value) (us : List Value), us.length = (("self" : Str) :: fs).length → bindArgs (PySem.W.fnX "__init__" qual (defArgs st) (defBody st) (defScope st) [("__class__", cc)] .none .none doc pm none (.ref cda) ct) ⟨us, []⟩ = pure ((("self" : Str) :: fs).zip us)

/-! ### what they promise -/
/-- an exception of C at a, its dict (fields fs) at d -/
def exoD (H : Hp) (a C d : Addr) (fs : List (Str × V)) : Hp := upd (upd H d (exd d fs)) a (exo a C (some d))
def spI0 (C : Addr) : Sp := fun vs H Q _ => ∃ a, vs = [.ref a] ∧ H a = some (exo a C none) ∧ Q .non H
def spI1 (C : Addr) (f : Str) : Sp := fun vs H Q _ => ∃ a v, vs = [.ref a, v] ∧ H a = some (exo a C none) ∧ ∀ d, H d = none → d ≠ a → Q .non (exoD H a C d [(f, v)])
def spI2 (C : Addr) (f g : Str) : Sp := fun vs H Q _ => ∃ a v w, vs = [.ref a, v, w] ∧ H a = some (exo a C none) ∧ ∀ d, H d = none → d ≠ a → Q .non (exoD H a C d [(g, w), (f, v)])

section
variable {CX : CXT} {P : Program} {w : World} {K : PySem.W.Frag} {mg : Str → Option Value} {base : Heap} {fI C cc cda : Addr} {st : Stmt} {qual f g : Str} {doc pm ct oc : Value} {od : Option Addr} {osl : Array (Option Value)}
theorem err_fn0 (T : SupC P K C cc cda) (Tx : ErrTx st qual [])
    (lk : K.lookup fI = some ⟨oc, od, .func (PySem.W.fnX "__init__" qual (defArgs st) (defBody st) (defScope st) [("__class__", cc)] .none .none doc pm none (.ref cda) ct), osl⟩) (hcd : PySem.W.codeIn K (.ref cda) qual = true) :
    FnOk P w K mg base CX 1 fI (PySem.W.fnX "__init__" qual (defArgs st) (defBody st) (defScope st) [("__class__", cc)] .none .none doc pm none (.ref cda) ct) ["self"] (spI0 C) := by
  obtain ⟨txt, j, p0, p1, p2, p3, p4, p5, rest, hb, hst, hev⟩ := Tx.body
  obtain ⟨ar, hp, ha⟩ := Tx.par
  refine sup_fn (N := ["self", "__class__"]) T lk hcd Tx.nsc hb hp (by rw [ha]; rfl) Tx.hsup (hev _ _ _) (fun vs H Q E ⟨a, e, _⟩ => by rw [e]; rfl) (fun vs H Q E ⟨a, e, h, _⟩ => ⟨a, by rw [e]; rfl, h⟩) fun A outer s H vs Q E ⟨a, e, h, q⟩ => ?_
  cases rest with
  | nil => exact ⟨_, pss_nil, q⟩
  | cons x r => exact hst.elim
theorem err_fn1 (T : SupC P K C cc cda) (Tx : ErrTx st qual [f]) (hno : PySem.W.findIn K (.ref C) f = some none)
    (lk : K.lookup fI = some ⟨oc, od, .func (PySem.W.fnX "__init__" qual (defArgs st) (defBody st) (defScope st) [("__class__", cc)] .none .none doc pm none (.ref cda) ct), osl⟩) (hcd : PySem.W.codeIn K (.ref cda) qual = true) :
    FnOk P w K mg base CX 1 fI (PySem.W.fnX "__init__" qual (defArgs st) (defBody st) (defScope st) [("__class__", cc)] .none .none doc pm none (.ref cda) ct) ["self", f] (spI1 C f) := by
  obtain ⟨txt, j, p0, p1, p2, p3, p4, p5, rest, hb, hst, hev⟩ := Tx.body
  obtain ⟨ar, hp, ha⟩ := Tx.par
  refine sup_fn (N := ["self", f, "__class__"]) T lk hcd Tx.nsc hb hp (by rw [ha]; rfl) Tx.hsup (hev _ _ _) (fun vs H Q E ⟨a, v, e, _⟩ => by rw [e]; rfl) (fun vs H Q E ⟨a, v, e, h, _⟩ => ⟨a, by rw [e]; rfl, h⟩) fun A outer s H vs Q E ⟨a, v, e, h, q⟩ => ?_
  subst e
  match rest, hst with
  | [x], hst =>
    obtain ⟨⟨⟨q1, q2, q3, q4, rfl⟩, d1, d2⟩, _⟩ := hst
    refine ⟨_, pss_one (ps_ost (pe_var (i := 0) rfl (.inl (Tx.nsc.par _ (List.mem_cons_self ..)))) (pe_var (i := 1) rfl (.inl (Tx.nsc.par _ (.tail _ (.head _)))) d1 d2)), ?_⟩
    exact ⟨v, rfl, .ref a, rfl, a, C, rfl, T.ox, hno, .inl ⟨h, fun dx n ne => q dx n ne⟩⟩
  | [], hst => exact hst.elim
  | _ :: _ :: _, hst => exact hst.2.elim
theorem err_fn2 (T : SupC P K C cc cda) (Tx : ErrTx st qual [f, g]) (hno : PySem.W.findIn K (.ref C) f = some none) (hno2 : PySem.W.findIn K (.ref C) g = some none)
    (lk : K.lookup fI = some ⟨oc, od, .func (PySem.W.fnX "__init__" qual (defArgs st) (defBody st) (defScope st) [("__class__", cc)] .none .none doc pm none (.ref cda) ct), osl⟩) (hcd : PySem.W.codeIn K (.ref cda) qual = true) :
    FnOk P w K mg base CX 1 fI (PySem.W.fnX "__init__" qual (defArgs st) (defBody st) (defScope st) [("__class__", cc)] .none .none doc pm none (.ref cda) ct) ["self", f, g] (spI2 C f g) := by
  obtain ⟨txt, j, p0, p1, p2, p3, p4, p5, rest, hb, hst, hev⟩ := Tx.body
  obtain ⟨ar, hp, ha⟩ := Tx.par
  refine sup_fn (N := ["self", f, g, "__class__"]) T lk hcd Tx.nsc hb hp (by rw [ha]; rfl) Tx.hsup (hev _ _ _) (fun vs H Q E ⟨a, v, u, e, _⟩ => by rw [e]; rfl) (fun vs H Q E ⟨a, v, u, e, h, _⟩ => ⟨a, by rw [e]; rfl, h⟩) fun A outer s H vs Q E ⟨a, v, u, e, h, q⟩ => ?_
  subst e
  match rest, hst with
  | [x, y], hst =>
    obtain ⟨⟨⟨q1, q2, q3, q4, rfl⟩, d1, d2⟩, ⟨⟨q5, q6, q7, q8, rfl⟩, d3, d4⟩, _⟩ := hst
    refine ⟨_, pss_cons (ps_ost (pe_var (i := 0) rfl (.inl (Tx.nsc.par _ (List.mem_cons_self ..)))) (pe_var (i := 1) rfl (.inl (Tx.nsc.par _ (.tail _ (.head _)))) d1 d2))
      (pss_one (ps_ost (pe_var (i := 0) rfl (.inl (Tx.nsc.par _ (List.mem_cons_self ..)))) (pe_var (i := 2) rfl (.inl (Tx.nsc.par _ (.tail _ (.tail _ (.head _))))) d3 d4))), ?_⟩
    refine ⟨v, rfl, .ref a, rfl, a, C, rfl, T.ox, hno, .inl ⟨h, fun dx n ne => ?_⟩⟩
    refine ⟨u, rfl, .ref a, rfl, a, C, rfl, T.ox, hno2, .inr ⟨dx, [(f, v)], upd_same, (upd_ne ne).trans upd_same, Nat.le_of_ble_eq_true rfl, ?_⟩⟩
    have e : upd (upd (upd H dx (exd dx [(f, v)])) a (exo a C (some dx))) dx (exd dx [(g, u), (f, v)]) = exoD H a C dx [(g, u), (f, v)] := by
      funext b
      unfold exoD
      by_cases hb : b = dx
      · subst hb
        rw [upd_same, upd_ne ne, upd_same]
      · rw [upd_ne hb]
        by_cases h2 : b = a
        · subst h2
          rw [upd_same, upd_same]
        · rw [upd_ne h2, upd_ne h2, upd_ne hb, upd_ne hb]
    show Q _ (upd (upd (upd H dx (exd dx [(f, v)])) a (exo a C (some dx))) dx (exd dx [(g, u), (f, v)]))
    rw [e]
    exact q dx n ne
  | [], hst => exact hst.elim
  | [_], hst => exact hst.2.elim
  | _ :: _ :: _ :: _, hst => exact hst.2.2.elim
end
end Ls
namespace Ls
open PySem PySem.Spec PyProof.Rows L2 NdefX

/-! ### a class of own errors -/
/-- x names the class at C, its fields fs, sp what its __init__ promises -/
structure OwnX (P : Program) (w : World) (K : PySem.W.Frag) (mg : Str → Option Value) (base : Heap) (x : Str) (fs : List Str) (sp : Sp) (C : Addr) : Prop where
  ox : OexC K C
  xf : XfC K C
  gl : mg x = some (.ref C)
  nof : ∀ f ∈ fs, PySem.W.findIn K (.ref C) f = some none
  ini : ∃ (fI : Addr) (fd : FuncData), PySem.W.findIn K (.ref C) "__init__" = some (some (.ref fI)) ∧ PySem.W.typeIn K (.ref fI) = some (.type "function") ∧ FnOk P w K mg base CX0 1 fI fd (("self" : Str) :: fs) sp ∧ Binds K fd (("self" : Str) :: fs) []

/-- a reading of arguments that may be weakened -/
def upA (ta : TA) : TA := fun σ H Q => ∃ Q' : List V → Hp → Prop, ta σ H Q' ∧ ∀ vs H', Q' vs H' → Q vs H'
section
variable {X : Cx} {x f g : Str} {C : Addr} {fs : List Str} {sp : Sp} {e : Expr} {es : List Expr} {ta : TA} {p pos : Pos}
theorem pa_up (h : PA X es ta) : PA X es (upA ta) := ⟨fun pos pins s σ H Q I ⟨Q', h', k⟩ => thn (h.run pos pins s σ H Q' I h') fun us s1 ⟨vs, H1, I1, r, q⟩ => ⟨vs, H1, I1, r, k _ _ q⟩⟩
theorem pmk_imp {t t' : L2.St → Hp → XK → Prop} (h : PMk X e t) (i : ∀ σ H Q, t' σ H Q → t σ H Q) : PMk X e t' := fun pins s σ H Q I q => h pins s σ H Q I (i _ _ _ q)
theorem pass0E {E : XK} : Passes CX0 X E := fun _ _ _ _ _ _ _ h => h.elim
theorem exoD_end {H : Hp} {a d : Addr} {l : List (Str × V)} (ha : H a = none) : upd (del (exoD (upd H a (exo a C none)) a C d l) a) d (.xd l) = upd H d (.xd l) := by
  funext b
  by_cases hb : b = d
  · rw [hb, upd_same, upd_same]
  · rw [upd_ne hb, upd_ne hb]
    by_cases h2 : b = a
    · rw [h2, del_same, ha]
    · unfold exoD
      rw [del_ne h2, upd_ne h2, upd_ne hb, upd_ne h2]
def tErr1 (C : Addr) (f : Str) (ta : TA) : L2.St → Hp → XK → Prop := fun σ H Q => ta σ H fun vs H1 => ∃ v, vs = [v] ∧ ∀ d, H1 d = none → Q (.ref C) (some d) (upd H1 d (.xd [(f, v)]))
def tErr2 (C : Addr) (f g : Str) (ta : TA) : L2.St → Hp → XK → Prop := fun σ H Q => ta σ H fun vs H1 => ∃ v w, vs = [v, w] ∧ ∀ d, H1 d = none → Q (.ref C) (some d) (upd H1 d (.xd [(g, w), (f, v)]))
def tErr0 (C : Addr) : L2.St → Hp → XK → Prop := fun _ H Q => Q (.ref C) none H
theorem xd_of {H : Hp} {a d : Addr} {l : List (Str × V)} : exoD H a C d l a = some (exo a C (some d)) := upd_same
/-- x(e) -/
theorem pmk_err1 (O : OwnX X.prog X.w X.K X.mg X.base x [f] (spI1 C f) C) (hr : Room 2 X.A) (ha : PA X [e] ta) (hg : Gl X x := by rfl) (hdb : (x == ("__debug__" : Str)) = false := by decide)
    (he : starEach [e] X.env = (false, eval e X.env) :: starEach [] X.env := by rfl) : PMk X (.Call (.Name x p) [e] [] pos) (tErr1 C f ta) := by
  obtain ⟨fI, fd, iC, tI, F1, hb⟩ := O.ini
  refine pmk_imp (pmk_oex O.ox iC tI F1 hr hb .nil pass0E hg O.gl (pa_up ha) hdb he rfl) fun σ H Q q => ?_
  refine ⟨_, q, fun vs H1 ⟨v, ev, k⟩ => ?_⟩
  subst ev
  refine ⟨Nat.le_of_ble_eq_true rfl, fun a ha => ⟨a, v, rfl, upd_same, fun d hd hda => ⟨rfl, d, [(f, v)], xd_of, ?_, ?_, ?_⟩⟩⟩
  · unfold exoD
    rw [upd_ne hda, upd_same]
  · rw [upd_ne hda] at hd
    exact hd
  · rw [exoD_end ha]
    rw [upd_ne hda] at hd
    exact k d hd
/-- x(e, e2) -/
theorem pmk_err2 {e2 : Expr} (O : OwnX X.prog X.w X.K X.mg X.base x [f, g] (spI2 C f g) C) (hr : Room 2 X.A) (ha : PA X [e, e2] ta) (hg : Gl X x := by rfl) (hdb : (x == ("__debug__" : Str)) = false := by decide)
    (he : starEach [e, e2] X.env = (false, eval e X.env) :: starEach [e2] X.env := by rfl) (hpl : (backTo pos (starEach [e2] X.env)).any (·.1) = false := by rfl) : PMk X (.Call (.Name x p) [e, e2] [] pos) (tErr2 C f g ta) := by
  obtain ⟨fI, fd, iC, tI, F1, hb⟩ := O.ini
  refine pmk_imp (pmk_oex O.ox iC tI F1 hr hb .nil pass0E hg O.gl (pa_up ha) hdb he hpl) fun σ H Q q => ?_
  refine ⟨_, q, fun vs H1 ⟨v, w, ev, k⟩ => ?_⟩
  subst ev
  refine ⟨Nat.le_of_ble_eq_true rfl, fun a ha => ⟨a, v, w, rfl, upd_same, fun d hd hda => ⟨rfl, d, [(g, w), (f, v)], xd_of, ?_, ?_, ?_⟩⟩⟩
  · unfold exoD
    rw [upd_ne hda, upd_same]
  · rw [upd_ne hda] at hd
    exact hd
  · rw [exoD_end ha]
    rw [upd_ne hda] at hd
    exact k d hd
/-- the end of x(): the exception, which has no dict, is let go -/
theorem mk_endN {pins : List (Addr × Obj)} {σ : L2.St} {H1 : Hp} {Q : XK} {hp hp2 h2 : Heap} {g1 g2 : Array GenState} {d1 d2 : Drawn} {t1 t2 : Nat} {os1 os2 : OsState} {a : Addr} (T : Raises X (.ref C)) (I1 : Inv X pins σ H1 ⟨hp, g1, d1, t1, os1⟩)
    (ha : hp.objs.size ≤ a) (k : ∀ b o, hp.get? b = some o → hp2.get? b = some o) (un : Un (frs X.stack) [] (upd H1 a (exo a C none)) (upd H1 a (exo a C none)) hp2 h2) (hok : HOk X.prog X.w (upd H1 a (exo a C none)) h2) (ho : os2 = os1) (hb : AllBare g2)
    (q : Q (.ref C) none H1) : MkP X pins σ Q (.ref a) ⟨h2, g2, d2, t2, os2⟩ := by
  obtain ⟨t0, hoe⟩ := exo_at (e := a) (C := C) (d := none) hok upd_same
  have hn : H1 a = none := I1.hok.fresh ha
  obtain ⟨G, g1', g2'⟩ := restrict h2 fun b => decide (b ≠ a)
  have gk : ∀ b, b ≠ a → G.get? b = h2.get? b := fun b hb => g1' b (decide_eq_true hb)
  have ge : G.get? a = none := g2' a (by simp)
  have nha : ∀ {b : Addr} {o : Obj}, hp.get? b = some o → b ≠ a := fun {b o} z => Nat.ne_of_lt (Nat.lt_of_lt_of_le (Heap.lt_size z) ha)
  have up : ∀ {b : Addr}, b ≠ a → H1 b = none → upd H1 a (exo a C none) b = none := fun {b} hb n => by rw [upd_ne hb]; exact n
  have U : Un (frs X.stack) [] H1 H1 hp G := {
    keep := fun b o z n hf hx => by
      rw [gk b (nha z)]
      exact un.keep b o (k b o z) (up (nha z) n) hf hx
    slot := fun b o z n hf hx => by
      rw [gk b (nha z)]
      exact un.slot b o (k b o z) (up (nha z) n) hf hx
    free := fun b o z n hx => n
    there := fun b o z hx => by
      rw [gk b (nha z)]
      exact un.there b o (k b o z) hx
    tups := fun b xs z => z
    frzs := fun b o v z => z
    tbls := fun b ps z => ⟨#[], by rw [z]; simp⟩ }
  have hok3 : HOk X.prog X.w H1 G := fun b o z => by
    have hba : b ≠ a := fun e => by
      rw [e, hn] at z
      cases z
    have z2 : upd H1 a (exo a C none) b = some o := (upd_ne hba).trans z
    have noa : ∀ {c : Addr}, upd H1 a (exo a C none) c = some (.own b) → c ≠ a := fun {c} hc e => by
      rw [e, upd_same] at hc
      exact exo_own (Option.some.inj hc)
    exact (hok b o z2).stay (fun c v hc y => by
        have hca : c ≠ a := by
          rcases hc with hc | hc
          · rw [hc]
            exact hba
          · exact noa hc
        rw [gk c hca]
        exact y)
      (fun c hc => by rw [upd_ne (noa hc)] at hc; exact hc) (fun c xs hc => by
        have hca : c ≠ a := fun e => by
          rw [e, upd_same] at hc
          exact exo_tup (Option.some.inj hc)
        rw [upd_ne hca] at hc
        exact hc)
  have J : Inv X pins σ H1 ⟨G, g2, d2, t2, os2⟩ := I1.call' (ch := []) ho U hok3 hb (fun b z => absurd z (by simp))
  refine ⟨a, _, _, ⟨G, g2, d2, t2, os2⟩, H1, .ref C, none, rfl, J, fun b o z => ?_, ge, hoe, ⟨rfl, rfl⟩, rfl, rfl, hn, rfl, hb, T, q⟩
  by_cases hba : b = a
  · rw [hba, ge] at z
    cases z
  · exact (gk b hba).symm.trans z
/-- x() -/
theorem pmk_err0 (O : OwnX X.prog X.w X.K X.mg X.base x [] (spI0 C) C) (hr : Room 2 X.A) (hg : Gl X x := by rfl) (hdb : (x == ("__debug__" : Str)) = false := by decide) : PMk X (.Call (.Name x p) [] [] pos) (tErr0 C) := by
  obtain ⟨fI, fd, iC, tI, F1, hb⟩ := O.ini
  intro pins s σ H Q I h
  obtain ⟨nm, q, N, bs, bm, sn, sub, ab, col, dd, k0, k1, k2, k3, k5, hC, hbm⟩ := O.ox.cls
  refine wpAny_Call_Name_kw (ld_glob I hg O.gl ?_ hdb)
  refine PySem.W.callWith_K0 I.kIn O.ox.kC ?_
  show wpAny _ _ (call (.ref C) []) _ _ _
  obtain ⟨hp, g, dr, tk, os⟩ := s
  have hsz : hp.objs.size ≤ hp.objs.size + 1 := Nat.le_succ _
  have hn : H (hp.objs.size + 1) = none := I.hok.fresh hsz
  have kk : ∀ b o, hp.get? b = some o → ((hp.push (PySem.W.kdv_tup [])).push (PySem.HandSPX.excO C hp.objs.size)).get? b = some o := fun b o e => Heap.get?_push_of_some _ (Heap.get?_push_of_some _ e)
  have hget : ((hp.push (PySem.W.kdv_tup [])).push (PySem.HandSPX.excO C hp.objs.size)).get? (hp.objs.size + 1) = some (PySem.HandSPX.excO C hp.objs.size) := by heap_get
  have I2 : Inv X pins σ (upd H (hp.objs.size + 1) (exo (hp.objs.size + 1) C none)) ⟨(hp.push (PySem.W.kdv_tup [])).push (PySem.HandSPX.excO C hp.objs.size), g, dr, tk, os⟩ :=
    I.laid (t' := tk) (a := hp.objs.size + 1) (o := exo (hp.objs.size + 1) C none) (h' := (hp.push (PySem.W.kdv_tup [])).push (PySem.HandSPX.excO C hp.objs.size)) kk hsz (exo_ok hget)
  have r2 : Vals [V.ref (hp.objs.size + 1)] [Value.ref (hp.objs.size + 1)] := .cons rfl .nil
  have hq : spI0 C [V.ref (hp.objs.size + 1)] (upd H (hp.objs.size + 1) (exo (hp.objs.size + 1) C none)) (fun v H2 => v = .non ∧ H2 = upd H (hp.objs.size + 1) (exo (hp.objs.size + 1) C none)) (fun _ _ _ => False) := ⟨_, rfl, upd_same, rfl, rfl⟩
  refine wpAny_call (PySem.HandSPX.call_own F.excBase_ValueError (fun Y => PySem.HandSPX.refsVE_contains Y bm hbm) (I.kIn _ _ hC) (PySem.W.looks_findIn I.kIn iC) (fun self => PySem.W.bind_fn I.kIn self tI) (Nat.zero_le _)
    (codeAny_mono (F1.run _ X.stack _ _ ⟨[Value.ref (hp.objs.size + 1)], []⟩ [Value.ref (hp.objs.size + 1)] _ _ (fun _ _ _ => False) ((hr.mono (by omega : 2 ≤ 2)).make C [] [] |>.mono (Nat.le_refl _)) (I2.env0.make C [] []) (hb _ [Value.ref (hp.objs.size + 1)] I2.kIn rfl) r2 hq) fun r s' hq' => ?_))
  cases r with
  | error er => exact hq'.elim
  | ok fl =>
    cases fl with
    | ret u =>
      obtain ⟨v, H2, os2, bare2, un2, hok2, rv, ev, eH⟩ := hq'
      subst ev
      subst eH
      obtain ⟨h2, g2, d2, t2, os'⟩ := s'
      exact ⟨rv, mk_endN (raises_own O.ox.exC O.ox.tyC) I hsz kk un2 hok2 os2 bare2 h⟩
    | next => exact False.elim hq'
    | brk => exact False.elim hq'
    | cont => exact False.elim hq'
end
end Ls
namespace Ls
open PySem PySem.Spec PyProof.Rows L2

/-! ### several clauses «except X as e» -/
/-- the ends of a suite behind which the name at slot i goes -/
def asEnds (D : Ends) (i : Nat) : Ends := { nx := fun σ' H' => D.nx (σ'.set i none) H', rt := D.rt, bk := fun σ' H' => D.bk (σ'.set i none) H', ct := fun σ' H' => D.ct (σ'.set i none) H' }
/-- a clause: its class, its name's slot, its suite -/
structure AsCl where
  c : Value
  i : Nat
  ts : Addr → Value → Option Addr → TS
/-- what the clauses wish of an exception of the body -/
def wAsM (K : PySem.W.Frag) (Wout : WX) (D : Ends) : List AsCl → WX
  | [] => Wout
  | q :: r => fun cls d σ H => ∃ b, PySem.W.exmOne K cls q.c = some b ∧ (b = true → ∀ a, H a = none → q.ts a cls d (asEnds D q.i) (σ.set q.i (some (.ref a))) H) ∧ (b = false → wAsM K Wout D r cls d σ H)
inductive AsOk (X : Cx) : List ExceptHandler → List AsCl → Prop
  | nil : AsOk X [] []
  | cons {x n : Str} {q : AsCl} {st : Stmt} {sts : List Stmt} {p1 p2 : Pos} {hds : List ExceptHandler} {l : List AsCl} (hi : X.N[q.i]? = some n) (hl : X.env.kindOf n = some .local) (hc : Names X x q.c)
      (hsu : ∀ (a : Addr) (oe : Obj) (cls : Value) (d : Option Addr) (pn : List (Addr × Obj)), Zc cls d oe → (∃ vs, oe.data = .fields vs) → PSs (X.suite a ((a, oe) :: pn)) (st :: sts) (q.ts a cls d)) (r : AsOk X hds l) :
      AsOk X (.ExceptHandler (some (.Name x p1)) (some n) (st :: sts) p2 :: hds) (q :: l)
/-- where an exception of the body arrives -/
abbrev xeAs (X : Cx) (pins : List (Addr × Obj)) (hds : List ExceptHandler) (D : Ends) : Value → Shared → Prop := fun e s₁ =>
  wpAny (model X.prog X.w) X.A (noteFrame e X.env) (fun _ s₂ => wpAny (model X.prog X.w) X.A (setFlight e none) (fun _ s₃ => wpAny (model X.prog X.w) X.A (handleBy e X.env hds) (SP X pins D) X.xe s₃) X.xe s₂) X.xe s₁
section
variable {X : Cx} {body : List Stmt} {h₀ : ExceptHandler} {hds : List ExceptHandler} {l : List AsCl} {pos : Pos} {tb : WX → TS} {Wout : WX} {pins : List (Addr × Obj)} {D : Ends}
theorem as_takes (ok : X.Ok) (hs : X.stack = X.env :: X.outer) (hf : X.env.frame = some X.env.locals) (hN : X.N.Nodup) (tk : Takes X Wout) (hh : AsOk X hds l) : Takes (X.tr (X.pn ++ pins) (xeAs X pins hds D)) (wAsM X.K Wout D l) := by
  intro u s' xx
  have hfr : X.A.frames = some (X.env :: X.outer) := by rw [ok.frames, hs]
  obtain ⟨a, B, sI, pins', σ', H', cls, d, rfl, JT, nb, up, sky, na, os, ag, w0⟩ := xx
  have J : Inv X pins σ' H' sI := JT.ofTry ok
  have sky2 : Sky B (X.env :: X.outer) a (Zc cls d) X.env.locals s'.heap := by
    rw [← hs]
    exact sky
  show wpAny _ _ (noteFrame (.ref a) X.env) _ _ _
  refine Sky.land Zc.steady hfr hf sky2 fun hA flA upA => ?_
  have JA : Inv X pins σ' H' { s' with heap := hA } := J.landed nb flA.1 (up.trans upA) os ag
  obtain ⟨oA, vA, eA, zA, dA⟩ := flA.there
  have nfr : a ∉ frs (X.env :: X.outer) := fun hm => by
    obtain ⟨_, o', e', hnf⟩ := (flA.2.2.1).mem hm
    have e2 := eA.symm.trans e'
    cases e2
    exact hnf _ dA
  have nL : a ≠ X.env.locals := fun z => nfr (List.mem_filterMap.mpr ⟨X.env, List.mem_cons_self, by rw [hf, z]⟩)
  have nF : a ∉ X.fs := fun hm => by
    obtain ⟨y, hy, q⟩ := List.mem_filterMap.mp hm
    exact nfr (List.mem_filterMap.mpr ⟨y, .tail _ hy, q⟩)
  have SA := JA.suite eA dA na nL nF
  have LT : PySem.W.Looks (model X.prog X.w) hA (typeOf (.ref a)) cls := fun A Q E s k q => wpAny_typeOf_ref (k _ _ eA) (by rw [zA.1]; exact q)
  have go : ∀ {hds' : List ExceptHandler} {l' : List AsCl}, AsOk X hds' l' → wAsM X.K Wout D l' cls d σ' H' → wpAny (model X.prog X.w) X.A (handleBy (.ref a) X.env hds') (SP X pins D) X.xe { s' with heap := hA } := by
    intro hds' l' hk
    induction hk with
    | nil =>
      intro w
      refine wpAny_handleBy_nil ?_
      obtain ⟨_, _, _, oe, vs, T, _, _, he, _, hd, h1, _⟩ := id flA
      unfold PySem.passOn
      refine wpAny_bind (wpAny_field he hd h1 ?_)
      have nt : ¬ ((Value.ref T == Value.none) = true) := by simp
      rw [if_neg nt]
      have fin : wpAny (model X.prog X.w) X.A (setFlight (.ref a) X.env.frame) (fun _ s4 => wpAny (model X.prog X.w) X.A (throw (.ref a) : Sem Flow) (SP X pins D) X.xe s4) X.xe { s' with heap := hA } := by
        rw [hf]
        refine HandSPX.setFlight_upZ flA fun hB skyB upB => wpAny_throw (tk _ _ ?_)
        refine ⟨a, B, sI, pins, σ', H', cls, d, rfl, J, nb, (up.trans upA).trans upB, .inr (.inr ?_), na, os, ag, w⟩
        rw [hs]
        exact skyB
      first
        | exact wpAny_bind (wpAny_pure (wpAny_bind fin))
        | exact wpAny_bind fin
    | @cons x n q st sts p1 p2 hds2 l2 hi hl hc hsu r ih =>
      intro w
      obtain ⟨b, hb, hyes, hno⟩ := w
      refine wpAny_handleBy_cons (codeAny_handlers_test ?_) (by intro z; cases z)
      have LM := PySem.W.exm_one (M := model X.prog X.w) JA.kIn LT hb
      have test : ∀ {Q : Value → Shared → Prop} {E : Value → Shared → Prop}, Q q.c { s' with heap := hA } → wpAny (model X.prog X.w) (X.A.mark (some (.ref a))) (eval (.Name x p1) X.env) Q E { s' with heap := hA } := fun {Q E} z => by
        obtain ⟨hg, hdb, hm | ⟨hm, hv, hnn⟩⟩ := hc
        · exact ld_glob (X := X.suite a ((a, oA) :: (X.pn ++ pins))) SA hg hm z hdb
        · exact ld_blt (X := X.suite a ((a, oA) :: (X.pn ++ pins))) SA hg hm hv z hnn hdb
      refine test (LM.here ?_)
      cases b with
      | false =>
        show wpAny _ X.A (handleBy (.ref a) X.env hds2) _ _ _
        exact ih (hno rfl)
      | true =>
        refine codeAny_handlers_suite_as ?_
        refine HandSPX.lands_againZ flA fun hB flB upB => ?_
        have JB : Inv X pins σ' H' { s' with heap := hB } := J.landed nb flB.1 ((up.trans upA).trans upB) os ag
        obtain ⟨oB, vB, eB, zB, dB⟩ := flB.there
        have SB := JB.suite eB dB na nL nF
        refine store_ok (X := X.suite a ((a, oB) :: (X.pn ++ pins))) (v := .ref a) SB hN hi (.inl hl) rfl (fun s5 S5 => ?_) (.inr hl)
        refine wpAny_mono ((hsu a oB cls d (X.pn ++ pins) zB ⟨_, dB⟩).run [] s5 _ H' _ S5 (hyes rfl a na)) (fun f s6 hsp => ?_) (fun _ _ z => z.elim)
        have gone : ∀ {σ6 : L2.St} {H6 : Hp} {Q : Shared → Prop}, Inv (X.suite a ((a, oB) :: (X.pn ++ pins))) [] σ6 H6 s6 → (∀ s7, Inv X pins (σ6.set q.i none) H6 s7 → Q s7) →
            wpAny (model X.prog X.w) X.A (do bindName X.env n .none; unbindBehindTheSuite X.env n p2) (fun _ s7 => Q s7) X.xe s6 := fun {σ6 H6 Q} S6 hq => gone_ok (S6.unsuite ok) hN hi hl hq
        cases f with
        | ret u =>
          obtain ⟨v6, σ6, H6, S6, r6, q6⟩ := hsp
          exact gone S6 fun s7 J7 => ⟨v6, _, _, J7, r6, q6⟩
        | next =>
          obtain ⟨σ6, H6, S6, q6⟩ := hsp
          exact gone S6 fun s7 J7 => ⟨_, _, J7, q6⟩
        | brk =>
          obtain ⟨σ6, H6, S6, q6⟩ := hsp
          exact gone S6 fun s7 J7 => ⟨_, _, J7, q6⟩
        | cont =>
          obtain ⟨σ6, H6, S6, q6⟩ := hsp
          exact gone S6 fun s7 J7 => ⟨_, _, J7, q6⟩
  exact go hh w0
/-- THE RULE: try: body / except X as e: .. / except Y as f: .. -/
theorem ps_try_asM (hs : X.stack = X.env :: X.outer) (hf : X.env.frame = some X.env.locals) (hN : X.N.Nodup) (tk : Takes X Wout)
    (hb : ∀ (W : WX) (pn : List (Addr × Obj)) (xe : Value → Shared → Prop), Takes (X.tr pn xe) W → PassesOwn (model X.prog X.w) X.A X.env xe → PSs (X.tr pn xe) body (tb W))
    (hh : AsOk X (h₀ :: hds) l) : PS X (.Try body (h₀ :: hds) [] [] pos) (fun D σ H => tb (wAsM X.K Wout D l) D σ H) := by
  refine ⟨fun pins s σ H D I h => ?_⟩
  have ok := I.ok
  refine wpAny_Try_except ?_
  have PB := hb (wAsM X.K Wout D l) (X.pn ++ pins) (xeAs X pins (h₀ :: hds) D) (as_takes ok hs hf hN tk hh) PassesOwn.looking
  refine wpAny_mono (PB.run [] s σ H D (I.toTry _) h) (fun f s1 hsp => ?_) (fun e s1 he => he)
  cases f with
  | next =>
    obtain ⟨σ', H', J', q⟩ := hsp
    exact wpAny_execs_nil ⟨σ', H', J'.ofTry ok, q⟩
  | ret u =>
    obtain ⟨v, σ', H', J', r, q⟩ := hsp
    exact ⟨v, σ', H', J'.ofTry ok, r, q⟩
  | brk =>
    obtain ⟨σ', H', J', q⟩ := hsp
    exact ⟨σ', H', J'.ofTry ok, q⟩
  | cont =>
    obtain ⟨σ', H', J', q⟩ := hsp
    exact ⟨σ', H', J'.ofTry ok, q⟩
end
end Ls
namespace Ls
open PySem PySem.Spec PyProof.Rows L2 NdefX

/-! ### what the written part must say of an own error, as one test -/
/-- C is an own exception class over ValueError -/
def clsB (K : PySem.W.Frag) (C : Addr) : Bool := match K.lookup C with
  | some ⟨.type "type", _, .cls cd, sl⟩ => (match cd.mro, sl.toList with
    | .ref D :: bm, [_, _, _, _, some (.builtin n), _] => D == C && n == "ValueError.__new__" && cd.hasDict && !cd.hasDel && PySem.HandSPX.refsVE bm
    | _, _ => false)
  | _ => false
def findB (K : PySem.W.Frag) (C : Addr) (x : Str) (v : Option Value) : Bool := decide (PySem.W.findIn K (.ref C) x = some v)
def cellB (K : PySem.W.Frag) (C cc : Addr) : Bool := match K.lookup cc with
  | some ⟨_, _, .cell (some v), _⟩ => v == .ref C
  | _ => false
def codeB (P : Program) (K : PySem.W.Frag) (cda : Addr) : Bool := match K.lookup cda with
  | some ⟨_, _, .fields vs, _⟩ => (match (vs : Array Value)[2]? with
    | some (Value.str file _) => (P.main.file : Str) == file
    | _ => false)
  | _ => false
def errB (P : Program) (K : PySem.W.Frag) (C fI cc cda : Addr) (fs : List Str) : Bool :=
  clsB K C && (findB K C "__setattr__" (some (.builtin "object.__setattr__")) && (decide (PySem.W.subIn K (.ref C) (.type "BaseException") = some true) && (decide (PySem.W.typeIn K (.ref C) = some (.type "type")) &&
  (PySem.W.keepIn K (.ref C) && (xfB K C && (codeB P K cda && (cellB K C cc && (decide (PySem.W.mroIn K C (.ref C) = some true) && (decide (PySem.W.nsIn K mainGlobals "super" = some none) &&
  (decide (PySem.W.nsIn K cStatics "thirdparty.any" = some none) && (decide (PySem.W.ks_superIn K C C "__init__" = some (some (.builtin "ValueError.__init__"))) && (decide (PySem.W.subIn K (.ref C) (.type "ValueError") = some true) &&
  (PySem.W.excInitIn K C bmVE "ValueError.__new__" && (!(P.main.scope.names.lookup ("super" : Str)).isSome && (findB K C "__init__" (some (.ref fI)) && (decide (PySem.W.typeIn K (.ref fI) = some (.type "function")) &&
  fs.all fun f => findB K C f none))))))))))))))))

section
variable {P : Program} {w : World} {K : PySem.W.Frag} {mg : Str → Option Value} {base h : Heap} {C fI cc cda : Addr} {fs : List Str}
theorem clsB_ok (q : clsB K C = true) : ∃ nm qn N bs bm sn sub ab col dd k0 k1 k2 k3 k5, K.lookup C = some (excClassObj nm qn C N bs bm true sn sub ab col dd k0 k1 k2 k3 k5 "ValueError.__new__") ∧ PySem.HandSPX.refsVE bm = true := by
  unfold clsB at q
  split at q
  · rename_i dd cd sl ho
    split at q
    · rename_i D bm k0 k1 k2 k3 n k5 hm hs
      simp only [Bool.and_eq_true, beq_iff_eq, Bool.not_eq_true'] at q
      obtain ⟨⟨⟨⟨rfl, rfl⟩, hd⟩, hdel⟩, hr⟩ := q
      obtain ⟨nm, bs, mro, ns, qn, hd', sn, sub, ab, col, del⟩ := cd
      dsimp only at hm hdel hd
      subst hm hdel hd
      obtain ⟨l⟩ := sl
      simp only at hs
      subst hs
      exact ⟨nm, qn, ns, bs, bm, sn, sub, ab, col, dd, k0, k1, k2, k3, k5, ho, hr⟩
    · cases q
  · cases q
/-- what the test tells -/
structure ErrK (P : Program) (K : PySem.W.Frag) (C fI cc cda : Addr) (fs : List Str) : Prop where
  sup : SupC P K C cc cda
  xf : XfC K C
  ini : PySem.W.findIn K (.ref C) "__init__" = some (some (.ref fI))
  tI : PySem.W.typeIn K (.ref fI) = some (.type "function")
  nof : ∀ f ∈ fs, PySem.W.findIn K (.ref C) f = some none
theorem errB_ok (q : errB P K C fI cc cda fs = true) : ErrK P K C fI cc cda fs := by
  unfold errB at q
  obtain ⟨q1, q⟩ := Bool.and_eq_true_iff.mp q
  obtain ⟨q2, q⟩ := Bool.and_eq_true_iff.mp q
  obtain ⟨q3, q⟩ := Bool.and_eq_true_iff.mp q
  obtain ⟨q4, q⟩ := Bool.and_eq_true_iff.mp q
  obtain ⟨q5, q⟩ := Bool.and_eq_true_iff.mp q
  obtain ⟨q6, q⟩ := Bool.and_eq_true_iff.mp q
  obtain ⟨q7, q⟩ := Bool.and_eq_true_iff.mp q
  obtain ⟨q8, q⟩ := Bool.and_eq_true_iff.mp q
  obtain ⟨q9, q⟩ := Bool.and_eq_true_iff.mp q
  obtain ⟨q10, q⟩ := Bool.and_eq_true_iff.mp q
  obtain ⟨q11, q⟩ := Bool.and_eq_true_iff.mp q
  obtain ⟨q12, q⟩ := Bool.and_eq_true_iff.mp q
  obtain ⟨q13, q⟩ := Bool.and_eq_true_iff.mp q
  obtain ⟨q14, q⟩ := Bool.and_eq_true_iff.mp q
  obtain ⟨q15, q⟩ := Bool.and_eq_true_iff.mp q
  obtain ⟨q16, q⟩ := Bool.and_eq_true_iff.mp q
  obtain ⟨q17, q18⟩ := Bool.and_eq_true_iff.mp q
  have O : OexC K C := ⟨clsB_ok q1, of_decide_eq_true q2, of_decide_eq_true q3, of_decide_eq_true q4, q5⟩
  refine ⟨⟨O, ?_, ?_, of_decide_eq_true q9, of_decide_eq_true q10, of_decide_eq_true q11, of_decide_eq_true q12, of_decide_eq_true q13, q14, by simpa using q15⟩, xfB_ok q6, of_decide_eq_true q16, of_decide_eq_true q17, fun f hf => ?_⟩
  · unfold codeB at q7
    split at q7
    · rename_i c d vs sl ho
      split at q7
      · rename_i file tk hv
        exact ⟨c, d, vs, sl, file, tk, ho, hv, q7⟩
      · cases q7
    · cases q7
  · unfold cellB at q8
    split at q8
    · rename_i c d v sl ho
      have e := beq_iff_eq.mp q8
      subst e
      exact ⟨c, d, sl, ho⟩
    · cases q8
  · exact of_decide_eq_true (List.all_eq_true.mp q18 f hf)

variable {x qual f g : Str} {st : Stmt} {oc doc pm ct : Value} {od : Option Addr} {osl : Array (Option Value)}
theorem own_x0 (X : K.In h) (G : h.Ns mainGlobals mg) (Tx : ErrTx st qual []) (a : PySem.W.nsIn K mainGlobals x = some (some (.ref C)))
    (l : K.lookup fI = some ⟨oc, od, .func (PySem.W.fnX "__init__" qual (defArgs st) (defBody st) (defScope st) [("__class__", cc)] .none .none doc pm none (.ref cda) ct), osl⟩) (c : PySem.W.codeIn K (.ref cda) qual = true)
    (b : errB P K C fI cc cda [] = true) : OwnX P w K mg base x [] (spI0 C) C :=
  have E := errB_ok b
  ⟨E.sup.ox, E.xf, PySem.W.mg_of X G a, E.nof, _, _, E.ini, E.tI, err_fn0 E.sup Tx l c, .all fun us hl => Tx.bind _ _ _ _ _ us hl⟩
theorem own_x1 (X : K.In h) (G : h.Ns mainGlobals mg) (Tx : ErrTx st qual [f]) (a : PySem.W.nsIn K mainGlobals x = some (some (.ref C)))
    (l : K.lookup fI = some ⟨oc, od, .func (PySem.W.fnX "__init__" qual (defArgs st) (defBody st) (defScope st) [("__class__", cc)] .none .none doc pm none (.ref cda) ct), osl⟩) (c : PySem.W.codeIn K (.ref cda) qual = true)
    (b : errB P K C fI cc cda [f] = true) : OwnX P w K mg base x [f] (spI1 C f) C :=
  have E := errB_ok b
  ⟨E.sup.ox, E.xf, PySem.W.mg_of X G a, E.nof, _, _, E.ini, E.tI, err_fn1 E.sup Tx (E.nof _ (.head _)) l c, .all fun us hl => Tx.bind _ _ _ _ _ us hl⟩
theorem own_x2 (X : K.In h) (G : h.Ns mainGlobals mg) (Tx : ErrTx st qual [f, g]) (a : PySem.W.nsIn K mainGlobals x = some (some (.ref C)))
    (l : K.lookup fI = some ⟨oc, od, .func (PySem.W.fnX "__init__" qual (defArgs st) (defBody st) (defScope st) [("__class__", cc)] .none .none doc pm none (.ref cda) ct), osl⟩) (c : PySem.W.codeIn K (.ref cda) qual = true)
    (b : errB P K C fI cc cda [f, g] = true) : OwnX P w K mg base x [f, g] (spI2 C f g) C :=
  have E := errB_ok b
  ⟨E.sup.ox, E.xf, PySem.W.mg_of X G a, E.nof, _, _, E.ini, E.tI, err_fn2 E.sup Tx (E.nof _ (.head _)) (E.nof _ (.tail _ (.head _))) l c, .all fun us hl => Tx.bind _ _ _ _ _ us hl⟩
end
end Ls
namespace Ls
open PySem PySem.Spec PyProof.Rows L2

/-! ### defs that may raise -/
/-- a def of the module that keeps a promise, errors and all -/
structure OwnR (P : Program) (w : World) (K : PySem.W.Frag) (mg : Str → Option Value) (base : Heap) (k : Nat) (x : Str) (ps : List Str) (sp : Sp) : Prop where
  ex : ∃ (f : Addr) (fd : FuncData), FnOk P w K mg base (L2.CX P w) k f fd ps sp ∧ mg x = some (.ref f) ∧ PySem.W.keepIn K (.ref f) = true ∧ Binds K fd ps []
/-- a method -/
structure OwnMR (P : Program) (w : World) (K : PySem.W.Frag) (mg : Str → Option Value) (base : Heap) (k : Nat) (C : Addr) (m : Str) (ps : List Str) (sp : Sp) : Prop where
  cl : Cls K C
  ex : ∃ (f : Addr) (fd : FuncData), FnOk P w K mg base (L2.CX P w) k f fd ps sp ∧ Meth K C m f ∧ Binds K fd ps []
/-- a class that is called -/
structure OwnCR (P : Program) (w : World) (K : PySem.W.Frag) (mg : Str → Option Value) (base : Heap) (k : Nat) (C : Addr) (x : Str) (ps : List Str) (sp : Sp) : Prop where
  ex : ∃ (f : Addr) (fd : FuncData), FnOk P w K mg base (L2.CX P w) k f fd ps sp ∧ mg x = some (.ref C) ∧ Mk K C f ∧ Binds K fd ps []
def tMakeS (C : Addr) (sp : Sp) (W : WX) (t : TA) : TE := fun σ H Q => t σ H fun vs H1 => ∀ x dx, H1 x = none → H1 dx = none → dx ≠ x → sp (.ref x :: vs) (upd (upd H1 dx (.own x)) x (.ins C dx [])) (fun v H2 => v = .non ∧ Q (.ref x) H2) (WE W σ)
def tMethR (C : Addr) (m : Str) (sp : Sp) (W : WX) (ta : TE) (t : TA) : TE := fun σ H Q => ta σ H fun x H1 => ∃ a dx fs, x = .ref a ∧ H1 a = some (.ins C dx fs) ∧ fs.lookup m = none ∧ t σ H1 fun vs H2 => sp (x :: vs) H2 Q (WE W σ)
section
variable {X : Cx} {W : WX} {k j : Nat} {x m : Str} {ps : List Str} {sp : Sp} {p pos apos : Pos} {e o : Expr} {es : List Expr} {t : TA} {ta : TE} {C : Addr} {pl : Sem Bool}
theorem own_callR (O : OwnR X.prog X.w X.K X.mg X.base k x ps sp) (hr : Room j X.A) (hkj : k ≤ j) (tk : Takes X W) (ha : PA X (e :: es) t)
    (hg : Gl X x := by rfl) (hdb : (x == ("__debug__" : Str)) = false := by decide) (he : starEach (e :: es) X.env = (false, eval e X.env) :: starEach es X.env := by rfl) (hpl : (backTo pos (starEach es X.env)).any (·.1) = false := by rfl) :
    PE X (.Call (.Name x p) (e :: es) [] pos) (tCallS sp (WE W) t) := by
  obtain ⟨f, fd, F, g, kp, b⟩ := O.ex
  exact pe_callS F (hr.mono hkj) hg g kp b (fun σ => passAt tk σ) ha hdb he hpl
theorem own_callR0 (O : OwnR X.prog X.w X.K X.mg X.base k x ps sp) (hr : Room j X.A) (hkj : k ≤ j) (tk : Takes X W) (hg : Gl X x := by rfl) (hdb : (x == ("__debug__" : Str)) = false := by decide) :
    PE X (.Call (.Name x p) [] [] pos) (tCallS sp (WE W) tNil) := by
  obtain ⟨f, fd, F, g, kp, b⟩ := O.ex
  refine ⟨fun pins s σ H Q I h => ?_⟩
  refine wpAny_Call_Name_kw (ld_glob I hg g ?_ hdb)
  exact PySem.W.callWith_K0 I.kIn kp (run_fnS (us := []) F (hr.mono hkj) b (passAt tk σ) I .nil h)
theorem own_methR (O : OwnMR X.prog X.w X.K X.mg X.base k C m ps sp) (hr : Room j X.A) (hkj : k ≤ j) (tk : Takes X W) (ho : PE X o ta) (ha : PA X (e :: es) t)
    (hst : starEach (e :: es) X.env = (false, eval e X.env) :: starEach es X.env := by rfl) (hpl : (backTo pos (starEach es X.env)).any (·.1) = false := by rfl)
    (ht : eval (.Call (.Attribute o m apos) (e :: es) [] pos) X.env = (do
      let ov ← eval o X.env
      standAt apos.atName
      let (f, first) ← holding [ov] (getMethod ov m pl)
      callWith pos f first (backTo pos (starEach (e :: es) X.env)) (backToKw pos (keywordEach [] X.env))) := by rfl) :
    PE X (.Call (.Attribute o m apos) (e :: es) [] pos) (tMethR C m sp W ta t) := by
  obtain ⟨f, fd, F, me, b⟩ := O.ex
  refine ⟨fun pins s σ H Q I h => ?_⟩
  refine PySem.W.methodCall_KW (pl := pl) (thn (ho.run pins s σ H _ I h) fun u s1 hh => ?_) ht
  obtain ⟨y, H1, I1, ry, a, dx, fs, ey, ea, l, q⟩ := hh
  subst ey
  obtain rfl : u = Value.ref a := ry
  refine getmeth_ok I1 ea O.cl me l ?_
  refine PySem.W.callWith_K (first := [.ref a]) (h₀ := X.base) I.ok.mod.kin me.kp (thn (ha.run pos pins s1 σ H1 _ I1 q) fun us s2 hv => ?_) hst hpl
  obtain ⟨vs, H2, I2, r, q2⟩ := hv
  exact ⟨I2.kIn, run_fnS (us := .ref a :: us) (vs := .ref a :: vs) F (hr.mono hkj) b (passAt tk σ) I2 (.cons rfl r) q2⟩
theorem own_methR0 (O : OwnMR X.prog X.w X.K X.mg X.base k C m ps sp) (hr : Room j X.A) (hkj : k ≤ j) (tk : Takes X W) (ho : PE X o ta)
    (ht : eval (.Call (.Attribute o m apos) [] [] pos) X.env = (do
      let ov ← eval o X.env
      standAt apos.atName
      let (f, first) ← holding [ov] (getMethod ov m pl)
      callWith pos f first (backTo pos (starEach [] X.env)) (backToKw pos (keywordEach [] X.env))) := by rfl) :
    PE X (.Call (.Attribute o m apos) [] [] pos) (tMethR C m sp W ta tNil) := by
  obtain ⟨f, fd, F, me, b⟩ := O.ex
  refine ⟨fun pins s σ H Q I h => ?_⟩
  refine PySem.W.methodCall_KW (pl := pl) (thn (ho.run pins s σ H _ I h) fun u s1 hh => ?_) ht
  obtain ⟨y, H1, I1, ry, a, dx, fs, ey, ea, l, q⟩ := hh
  subst ey
  obtain rfl : u = Value.ref a := ry
  refine getmeth_ok I1 ea O.cl me l ?_
  exact PySem.W.callWith_K0 (first := [.ref a]) I1.kIn me.kp (run_fnS (us := [.ref a]) (vs := [.ref a]) F (hr.mono hkj) b (passAt tk σ) I1 (.cons rfl .nil) q)
theorem own_makeR (O : OwnCR X.prog X.w X.K X.mg X.base k C x ps sp) (hr : Room j X.A) (hkj : k + 1 ≤ j) (tk : Takes X W) (ha : PA X (e :: es) t)
    (hg : Gl X x := by rfl) (hdb : (x == ("__debug__" : Str)) = false := by decide) (he : starEach (e :: es) X.env = (false, eval e X.env) :: starEach es X.env := by rfl) (hpl : (backTo pos (starEach es X.env)).any (·.1) = false := by rfl) :
    PE X (.Call (.Name x p) (e :: es) [] pos) (tMakeS C sp W t) := by
  obtain ⟨f, fd, F, g, M, b⟩ := O.ex
  have hr2 : Room (k + 1) X.A := hr.mono hkj
  refine ⟨fun pins s σ H Q I h => ?_⟩
  refine wpAny_Call_Name_kw (ld_glob I hg g ?_ hdb)
  refine PySem.W.callWith_K (h₀ := X.base) I.ok.mod.kin M.kp (thn (ha.run pos pins s σ H _ I h) fun us s1 hh => ?_) he hpl
  obtain ⟨vs, H1, I1, r, q⟩ := hh
  refine ⟨I1.kIn, ?_⟩
  show wpAny _ _ (call (.ref C) us) _ _ _
  have hq := q (s1.heap.objs.size + 1) s1.heap.objs.size (I1.hok.fresh (Nat.le_succ _)) (I1.hok.fresh (Nat.le_refl _)) (Nat.ne_of_lt (Nat.lt_succ_self _))
  have I2 := Inv.made (C := C) I1
  have r2 : Vals (V.ref (s1.heap.objs.size + 1) :: vs) (Value.ref (s1.heap.objs.size + 1) :: us) := .cons rfl r
  have hl : (Value.ref (s1.heap.objs.size + 1) :: us ++ []).length = ps.length := by
    rw [List.append_nil, ← r2.length]
    exact F.len _ _ _ _ hq
  have hb := b _ (Value.ref (s1.heap.objs.size + 1) :: us) I2.kIn hl
  rw [List.append_nil] at hb
  refine wpAny_call (make_map (f := f) I1.kIn M.makes M.init (beq_iff_eq.mp M.fn) (codeAny_mono (F.run _ X.stack _ _ ⟨Value.ref (s1.heap.objs.size + 1) :: us, []⟩ (Value.ref (s1.heap.objs.size + 1) :: us) _ _ (WE W σ) (hr2.make C us [])
    (I2.env0.make C us []) hb r2 hq) fun r s' hq' => ?_))
  cases r with
  | error er => exact passAt tk σ pins _ _ er s' I2 hq'
  | ok fl =>
    cases fl with
    | ret u =>
      obtain ⟨v, H', I3, rv, ev, q3⟩ := I2.after hq'
      subst ev
      exact ⟨rv, ⟨V.ref (s1.heap.objs.size + 1), H', I3, rfl, q3⟩⟩
    | next => exact False.elim hq'
    | brk => exact False.elim hq'
    | cont => exact False.elim hq'
/-- raise x(..) -/
def tRaise (W : WX) (t : L2.St → Hp → XK → Prop) : TS := fun _ σ H => t σ H fun cls d H' => W cls d σ H'
theorem ps_err {t : L2.St → Hp → XK → Prop} (hc : X.calm = true) (tk : Takes X W) (he : PMk X e t) : PS X (.Raise (some e) none pos) (tRaise W t) := ps_raise hc tk he
end
/-- what a def's body takes -/
theorem takes_def {P : Program} {w : World} {K : PySem.W.Frag} {mg : Str → Option Value} {base : Heap} {N : List Str} {qual : Str} {scope : Scope} {f : Addr} {cd : Value} {A : Around} {outer : List Env} {s : Shared} {H : Hp} {E : XK} :
    Takes (cxOf (L2.CX P w) P w K mg base N qual scope f cd A outer s H E) (fun cls d _ H => E cls d H) := takes_of rfl rfl rfl rfl
theorem own_def {P : Program} {w : World} {K : PySem.W.Frag} {mg : Str → Option Value} {base : Heap} {N : List Str} {qual : Str} {scope : Scope} {f : Addr} {cd : Value} {A : Around} {outer : List Env} {s : Shared} {H : Hp} {E : XK} :
    PassesOwn (model P w) (A.deeper (envOfC qual scope s.heap.objs.size f cd)) (envOfC qual scope s.heap.objs.size f cd) (cxOf (L2.CX P w) P w K mg base N qual scope f cd A outer s H E).xe := passes_of (X := cxOf (L2.CX P w) P w K mg base N qual scope f cd A outer s H E) rfl
end Ls
namespace Ls
open PySem PySem.Spec PyProof.Rows L2

/-! ### a list or a tuple: iterated over, unpacked -/
/-- the items of a list or of a tuple -/
def SqU (K : PySem.W.Frag) (H : Hp) (a : Addr) (xs : List V) : Prop := SqL K H a xs ∨ SqT K H a xs
/-- what is known of H1 is known of H2 -/
def Stays (H1 H2 : Hp) : Prop := ∀ b u, H1 b = some u → H2 b = some u
section
variable {K : PySem.W.Frag} {H1 H2 : Hp} {a : Addr} {xs : List V} {o : HO}
theorem Stays.rd (s : Stays H1 H2) (h : Rd H1 a o) : Rd H2 a o := by
  rcases h with h | ⟨ob, h⟩
  · exact .inl (s _ _ h)
  · exact .inr ⟨ob, s _ _ h⟩
theorem Stays.sqL (s : Stays H1 H2) (h : SqL K H1 a xs) : SqL K H2 a xs := h.elim (fun z => .inl (s.rd z)) .inr
theorem Stays.sqT (s : Stays H1 H2) (h : SqT K H1 a xs) : SqT K H2 a xs := h.elim (fun z => .inl (s.rd z)) .inr
theorem Stays.sqU (s : Stays H1 H2) (h : SqU K H1 a xs) : SqU K H2 a xs := h.elim (fun z => .inl (s.sqL z)) fun z => .inr (s.sqT z)
end
/-- for .. in e, e a list or a tuple (so it stood in H0): the walk J over its items is known while G stands, and what keeps H0 keeps G -/
def iSeq (K : PySem.W.Frag) (te : TE) : TI := fun σ H R => te σ H fun x H1 => ∃ a xs H0, x = .ref a ∧ SqU K H0 a xs ∧ Stays H0 H1 ∧ ∀ (J : It) (G : Hp → Prop), Walk J xs.length G (YAt xs) → G H1 → (∀ H2, Stays H0 H2 → G H2) → R J H1
/-- (a, b, ..) = a list or a tuple of that length -/
def gSeq (K : PySem.W.Frag) (n : Nat) (t : TGs) : TG := fun v σ H Q => ∃ a xs, v = .ref a ∧ SqU K H a xs ∧ xs.length = n ∧ t xs σ H Q
section
variable {X : Cx} {tg e : Expr} {te : TE} {pos : Pos}
theorem pi_seq (he : PE X e te) : PI X tg e (iSeq X.K te) := by
  refine ⟨fun pins s σ H R I h => ?_⟩
  refine thn (he.run pins s σ H _ I h) fun v s1 hh => ?_
  obtain ⟨x, H1, I1, r1, a, xs, H0, rfl, h0, st, q⟩ := hh
  cases r1
  have fine : ∀ {H2 : Hp} {J : Inv X pins σ H2 s1}, ∀ b ∈ [s1.heap.objs.size], FpOk X pins H2 b := fun {H2 J} b hb => by
    have eb : b = s1.heap.objs.size := by simpa using hb
    subst eb
    exact J.fpOk (Nat.le_refl _) (J.hok.fresh (Nat.le_refl _))
  rcases h0 with h0 | h0
  · have hq := st.sqL h0
    obtain ⟨its, rv, p, hz⟩ := I1.list hq
    refine wpAny_pyIter_list p.isList ?_
    refine ⟨s1.heap.objs.size, [s1.heap.objs.size], _, _, H1, rfl, I1.kept (t' := s1.toks) fun b o z => Heap.get?_push_of_some _ z, turn_list a _, ⟨_, Heap.get?_push_size _ rfl, rfl, rfl⟩, fine (J := I1), ?_⟩
    exact q _ _ walk_list hq fun H2 st2 => st2.sqL h0
  · have hq := st.sqT h0
    obtain ⟨its, rv, p, hz⟩ := I1.tuple hq
    refine wpAny_pyIter_tuple (show s1.heap.IsTuple a its.toArray from p) ?_
    refine ⟨s1.heap.objs.size, [s1.heap.objs.size], _, _, H1, rfl, I1.kept (t' := s1.toks) fun b o z => Heap.get?_push_of_some _ z, turn_tuple a _, ⟨_, Heap.get?_push_size _ rfl, rfl, rfl⟩, fine (J := I1), ?_⟩
    exact q _ _ walk_tup hq fun H2 st2 => st2.sqT h0
theorem pg_seq {es : List Expr} {k : Nat} {t : TGs} {n : Nat} (hc : X.calm = true) (h : PGs X es t)
    (hn : (assignEach es X.env).length = n := by rfl) (hst : (assignEach es X.env).findIdx? (·.1) = none := by rfl) : PG X (.Tuple es k pos) (gSeq X.K n t) := by
  refine ⟨fun pins s σ H v u Q I r hw => ?_⟩
  obtain ⟨a, xs, e1, hq, hl, hw⟩ := hw
  rcases hq with hq | hq
  · exact (pg_unl hc h hn hst).run pins s σ H v u Q I r ⟨a, xs, e1, hq, hl, hw⟩
  · exact (pg_tup hc h hn hst).run pins s σ H v u Q I r ⟨a, xs, e1, hq, hl, hw⟩
end
/-- s[i], s a list or a tuple -/
def rIxU (K : PySem.W.Frag) : R2 := fun x y H Q => ∃ p xs i v, x = .ref p ∧ y = .int i ∧ SqU K H p xs ∧ atI xs i = some v ∧ Q v H
theorem ixU {X : Cx} (K : PySem.W.Frag) (h : X.K = K := by rfl) : IxR X (rIxU K) := by
  subst h
  intro value slice pins s σ H x y v u Q I rx ry hh hs
  obtain ⟨p, xs, i, z, ex, ey, hq, he, q⟩ := hh
  rcases hq with hq | hq
  · exact ix_list value slice pins s σ H x y v u Q I rx ry ⟨p, xs, i, z, ex, ey, hq, he, q⟩ hs
  · exact ix_tup value slice pins s σ H x y v u Q I rx ry ⟨p, xs, i, z, ex, ey, hq, he, q⟩ hs
/-- isinstance, the written part named -/
theorem isi_of {X : Cx} (K : PySem.W.Frag) (h : X.K = K := by rfl) : CallR X (.builtin "isinstance") (rIsi K) := by subst h; exact call_isi
end Ls
namespace Ls
open PySem PySem.Spec PyProof.Rows L2
/-! ### short steps -/
local macro_rules | `(tactic| walk_at "ls_ne") => `(tactic| first | assumption | exact Ne.symm (by assumption) | exact ne_of_none (by assumption) (by assumption) | exact Ne.symm (ne_of_none (by assumption) (by assumption)))
local macro_rules | `(tactic| walk_at "ls_hp") => `(tactic| first
  | with_reducible assumption
  | exact upd_same
  | exact Eq.trans (upd_ne (by walk_at "ls_ne")) (by walk_at "ls_hp"))
local macro_rules | `(tactic| walk_at "ls_st") => `(tactic| first
  | with_reducible assumption
  | exact Stm.upd (by walk_at "ls_st") (by first | walk_at "ls_ne" | exact (Stm.noneS (by assumption) (by assumption)).1) (by first | walk_at "ls_ne" | exact (Stm.noneS (by assumption) (by assumption)).2))
local macro_rules | `(tactic| walk_at "ls1") => `(tactic| first
  | refine ⟨_, rfl, ?_⟩
  | refine ⟨_, _, rfl, rfl, ?_⟩
  | refine ⟨_, _, _, _, rfl, rfl, .inl (.inl (by walk_at "ls_hp")), rfl, ?_⟩
  | refine ⟨_, _, _, _, rfl, rfl, (by walk_at "ls_hp"), rfl, ?_⟩
  | refine ⟨rfl, _, rfl, ?_⟩
  | refine ⟨.inl ⟨rfl, _, .inl (.inl (by walk_at "ls_hp"))⟩, ?_⟩)
local macro_rules | `(tactic| walk_at "ls") => `(tactic| repeat (walk_at "ls1"))

/-! ### any object in a name's place -/
/-- no string -/
def NotS (K : PySem.W.Frag) (H : Hp) (v : V) : Prop := (∃ t, TyX K H v t ∧ PySem.W.kitOne K t (.type "str") = some false) ∧ ∀ z, v ≠ .str z
/-- a string that is not too long, or no string -/
def Thg (K : PySem.W.Frag) (H : Hp) (v : V) : Prop := (∃ z, v = .str z ∧ z.length ≤ 1000) ∨ NotS K H v
def letters : List Nat := ("abcdefghijklmnopqrstuvwxyz" : Str).cps.toList
def isNameB (z : Str) : Bool := !decide (z = "strike") && (decide (1 ≤ z.length) && decide (z.length ≤ 8)) && z.cps.toList.all fun c => decide (c ∈ letters)
def isNameV : V → Bool
  | .str z => isNameB z
  | _ => false
def isWordV (ts : List Str) : V → Bool
  | .str z => decide (z ∈ ts)
  | _ => false
theorem notS_name {K : PySem.W.Frag} {H : Hp} {v : V} (h : NotS K H v) : isNameV v = false := by
  cases v with
  | str z => exact absurd rfl (h.2 z)
  | _ => rfl
theorem notS_word {K : PySem.W.Frag} {H : Hp} {v : V} {ts : List Str} (h : NotS K H v) : isWordV ts v = false := by
  cases v with
  | str z => exact absurd rfl (h.2 z)
  | _ => rfl
/-- the module's constants -/
structure Gn (K : PySem.W.Frag) (mg : Str → Option Value) (aR aC aK aB : Addr) (tS tL tN : Tok) : Prop where
  STRIKE : mg "STRIKE" = some (.str "strike" tS)
  LETTERS : mg "LETTERS" = some (.str "abcdefghijklmnopqrstuvwxyz" tL)
  LONGEST_NAME : mg "LONGEST_NAME" = some (.int 8 tN)
  RULES : mg "RULES" = some (.ref aR)
  COLUMN_CHECKS : mg "COLUMN_CHECKS" = some (.ref aC)
  KIND_CHECKS : mg "KIND_CHECKS" = some (.ref aK)
  BOOK_CHECKS : mg "BOOK_CHECKS" = some (.ref aB)
  kRULES : KTup K aR [.str "fall", .str "clear"]
  kCOL : KTup K aC (colW.map V.str)
  kKIND : KTup K aK (kindW.map V.str)
  kBOOK : KTup K aB (bookW.map V.str)
def inL : V → Option V
  | .str z => some (.bl (z.cps.toList.all fun c => decide (c ∈ letters)))
  | _ => none
theorem inL_all (z : Str) : (signs z).filterMap inL = (z.cps.toList.map fun c => decide (c ∈ letters)).map V.bl := by
  unfold signs
  generalize z.cps.toList = l
  induction l with
  | nil => rfl
  | cons c r ih =>
    rw [List.map_cons, List.filterMap_cons, List.map_cons, List.map_cons]
    show V.bl ([c].all fun c => decide (c ∈ letters)) :: _ = _
    rw [ih]
    simp
section
variable {P : Program} {w : World} {K : PySem.W.Frag} {mg : Str → Option Value} {base : Heap}
/-! ### is_name -/
abbrev s_is_name : Stmt := topS 14
theorem sc_is_name : FnScope ["thing", "letter"] ["thing"] (defScope s_is_name) := ⟨rfl, rfl, rfl, by decide +kernel, rfl, by decide +kernel, by decide +kernel⟩
abbrev N_is_name : List Str := ["thing", "letter"]
def spIsName (K : PySem.W.Frag) : Sp := fun vs H Q _ => ∃ v, vs = [v] ∧ Thg K H v ∧ ∀ H', Same H H' → Q (.bl (isNameV v)) H'
theorem ok_is_name {f : Addr} {fd : FuncData} {aR aC aK aB : Addr} {tS tL tN : Tok} (F : Fun K "is_name" "is_name" s_is_name f fd) (T : Bt mg) (G : Gn K mg aR aC aK aB tS tL tN) : FnOk P w K mg base CX0 1 f fd ["thing"] (spIsName K) := by
  refine F.ok sc_is_name (fun vs H Q E h => ?_) (fun cdv A outer s H vs Q E hr h => ?_)
  · obtain ⟨z, rfl, _⟩ := h
    rfl
  · obtain ⟨v, rfl, hv, q⟩ := h
    have hu := hu_of hr
    refine ⟨_, (pss_cons (ps_if (PW.pt (pw_or (pt_not (pt_val (pe_callB call_isi (by rfl) T.m_isinstance (by decide +kernel) (pa_cons (pv 0) (pa_cons (pe_bltn (v := V.ty "str") (by rfl) T.m_str boot_str rfl) pa_nil))))) (pw_or1 (pt_cmpR op_eq (pv 0) (glob_str G.STRIKE) (nomark _))))) (pss_one (ps_ret pe_bl)) pss_nil)
      (pss_one (ps_ret (pe_and (pe_chain op_le op_le pe_int (pe_callB call_len_str (by rfl) T.m_len (by decide +kernel) (pa_cons (pv 0) pa_nil)) (glob_int G.LONGEST_NAME)) (pe_one (pe_callB (cr_all rfl) (by rfl) T.m_all (by decide +kernel) (pa_cons (pe_lc (own := [("letter", 1)]) (g := gName 1) (by rfl) sc_is_name.nd (pi_str (pv 0)) (blkOk_by (own := [("letter", 1)]) (N := N_is_name) (sc := defScope s_is_name) (by decide +kernel)) (fun _ _ _ _ _ => (pg_name (i := 1) sc_is_name.nd rfl (Or.inl rfl) (Or.inr rfl))) (fun _ _ _ _ _ => pts_nil) (fun _ _ _ _ _ => (pe_cmpR op_in_sign (pv 1) (glob_str G.LETTERS) (by rfl)))) pa_nil))))))), ?_⟩
    rcases hv with ⟨z, rfl, hz⟩ | hv
    · refine or2 false (decide (V.str z = V.str "strike")) (fun Q' q' => ?_) (fun _ Q' q' => ?_) ?_
      · refine ⟨_, rfl, ?_⟩
        exact ⟨_, _, _, _, true, rfl, .ty "str", .base (.str z), kit_ty (by decide +kernel), _, rfl, q'⟩
      · walk_at "ls"
        exact q'
      have q : ∀ H', Same H H' → Q (.bl (isNameB z)) H' := q
      refine ite2 (fun e => ?_) (fun e => ?_)
      · have e1 : z = "strike" := V.str.inj (of_decide_eq_true (by simpa using e))
        have : isNameB z = false := by rw [e1]; decide +kernel
        have h := q H (Same.refl H)
        rw [this] at h
        exact h
      · have e1 : ¬ z = "strike" := fun h => e (by rw [h]; simp)
        refine ⟨_, rfl, ?_⟩
        refine ⟨z, rfl, Nat.le_trans hz (show 1000 ≤ sizeLine by decide), ?_⟩
        refine ⟨_, _, rfl, rfl, _, rfl, ?_⟩
        refine ite2 (fun e2 => ?_) (fun e2 => ?_)
        · refine ⟨_, _, rfl, rfl, _, rfl, ?_⟩
          refine ite2 (fun e3 => ?_) (fun e3 => ?_)
          · walk_at "ls"
            intro D hD
            refine lc_pure walk_str (signs z) inL (signs_len _) yld_str (Nat.lt_of_le_of_lt hz (show 1000 < sizeLine by decide)) (fun _ => trivial) (fun i x hi hx => ?_) ?_
            · obtain ⟨c, rfl⟩ := signs_at hx
              refine ⟨rfl, ?_⟩
              walk_at "ls"
              exact lc_yes hx hi (Nat.lt_of_le_of_lt hz (show 1000 < sizeLine by decide)) (by show some (V.bl ([c].all fun c => decide (c ∈ letters))) = _; simp [letters])
            · rw [inL_all]
              refine ⟨D, _, rfl, .inl (.inl upd_same), ?_⟩
              have h := q _ (same_new (o := .lst ((z.cps.toList.map fun c => decide (c ∈ letters)).map V.bl)) hD)
              have e4 : isNameB z = (z.cps.toList.map fun c => decide (c ∈ letters)).all id := by
                have h2 : 1 ≤ z.length := by have := of_decide_eq_true e2; omega
                have h3 : z.length ≤ 8 := by have := of_decide_eq_true e3; omega
                unfold isNameB
                rw [List.all_map]
                simp [e1, h2, h3]
              rw [e4] at h
              exact h
          · have : isNameB z = false := by
              have h3 : ¬ z.length ≤ 8 := fun h => e3 (decide_eq_true (by omega))
              unfold isNameB
              simp [h3]
            have h := q H (Same.refl H)
            rw [this] at h
            exact h
        · refine ⟨_, rfl, ?_⟩
          have : isNameB z = false := by
            have h3 : ¬ 1 ≤ z.length := fun h => e2 (decide_eq_true (by omega))
            unfold isNameB
            simp [h3]
          have h := q H (Same.refl H)
          rw [this] at h
          exact h
    · obtain ⟨t, ht, kt⟩ := hv.1
      refine or2 true false (fun Q' q' => ?_) (fun z => nomatch z) ?_
      · refine ⟨_, rfl, ?_⟩
        exact ⟨_, _, _, _, false, rfl, .ty "str", ht, kt, _, rfl, q'⟩
      have h := q H (Same.refl H)
      rw [notS_name hv] at h
      exact iteT h
/-! ### is_word_of -/
abbrev s_is_word_of : Stmt := topS 16
theorem sc_is_word_of : FnScope ["thing", "words"] ["thing", "words"] (defScope s_is_word_of) := ⟨rfl, rfl, rfl, by decide +kernel, rfl, by decide +kernel, by decide +kernel⟩
abbrev N_is_word_of : List Str := ["thing", "words"]
def spWord (K : PySem.W.Frag) : Sp := fun vs H Q _ => ∃ (v : V) (a : Addr) (ts : List Str), vs = [v, .ref a] ∧ Thg K H v ∧ (SqL K H a (ts.map V.str) ∨ SqT K H a (ts.map V.str)) ∧ Q (.bl (isWordV ts v)) H
theorem ok_word {f : Addr} {fd : FuncData} (F : Fun K "is_word_of" "is_word_of" s_is_word_of f fd) (T : Bt mg) : FnOk P w K mg base CX0 1 f fd ["thing", "words"] (spWord K) := by
  refine F.ok sc_is_word_of (fun vs H Q E h => ?_) (fun cdv A outer s H vs Q E hr h => ?_)
  · obtain ⟨z, a, ts, rfl, _⟩ := h
    rfl
  · obtain ⟨v, a, ts, rfl, hv, hs, q⟩ := h
    have hu := hu_of hr
    refine ⟨_, (pss_one (ps_ret (pe_and (pe_callB call_isi (by rfl) T.m_isinstance (by decide +kernel) (pa_cons (pv 0) (pa_cons (pe_bltn (v := V.ty "str") (by rfl) T.m_str boot_str rfl) pa_nil))) (pe_one (pe_cmpR (in_seq K) (pv 0) (pv 1) (by rfl)))))), ?_⟩
    refine ⟨_, rfl, ?_⟩
    rcases hv with ⟨z, rfl, hz⟩ | hv
    · refine ⟨_, _, _, _, true, rfl, .ty "str", .base (.str z), kit_ty (by decide +kernel), _, rfl, iteT ?_⟩
      walk_at "ls"
      refine ⟨a, _, rfl, hs, rfl, all_flat ts, ?_⟩
      show Q (.bl (inV (.str z) (ts.map V.str))) H
      rw [in_strs]
      exact q
    · obtain ⟨t, ht, kt⟩ := hv.1
      rw [notS_word hv] at q
      exact ⟨_, _, _, _, false, rfl, .ty "str", ht, kt, _, rfl, iteF q⟩
/-! ### _want_free_name -/
abbrev s__want_free_name : Stmt := topS 27
theorem sc__want_free_name : FnScope ["name", "taken"] ["name", "taken"] (defScope s__want_free_name) := ⟨rfl, rfl, rfl, by decide +kernel, rfl, by decide +kernel, by decide +kernel⟩
abbrev N__want_free_name : List Str := ["name", "taken"]
def spFree (K : PySem.W.Frag) (cN cU : Addr) : Sp := fun vs H Q E => ∃ (v : V) (a : Addr) (ts : List Str), vs = [v, .ref a] ∧ Thg K H v ∧ H a = some (.lst (ts.map V.str)) ∧
  (isNameV v = false → ∀ H' d, Same H H' → H' d = none → E (.ref cN) (some d) (upd H' d (.xd [("name", v)]))) ∧
  (isNameV v = true → isWordV ts v = true → ∀ H' d, Same H H' → H' d = none → E (.ref cU) (some d) (upd H' d (.xd [("name", v)]))) ∧
  (isNameV v = true → isWordV ts v = false → ∀ H', Same H H' → Q .non H')
theorem ok_free {f : Addr} {fd : FuncData} {cN cU : Addr} (F : Fun K "_want_free_name" "_want_free_name" s__want_free_name f fd) (O_is_name : Own P w K mg base CX0 1 "is_name" ["thing"] (spIsName K))
    (O_BadName : OwnX P w K mg base "BadName" ["name"] (spI1 cN "name") cN) (O_NameInUse : OwnX P w K mg base "NameInUse" ["name"] (spI1 cU "name") cU) : FnOk P w K mg base (L2.CX P w) 3 f fd ["name", "taken"] (spFree K cN cU) := by
  refine F.okX sc__want_free_name (fun vs H Q E h => ?_) (fun cdv A outer s H vs Q E hr h => ?_)
  · obtain ⟨z, a, ts, rfl, _⟩ := h
    rfl
  · obtain ⟨v, a, ts, rfl, hv, ha, q1, q2, q3⟩ := h
    have hu := hu_of hr
    refine ⟨_, (pss_cons (ps_if (pt_not (pt_val (own_call O_is_name hr (by first | decide | omega) (pa_cons (pv 0) pa_nil)))) (pss_one (ps_err rfl takes_def (pmk_err1 O_BadName (hr.mono (by decide)) (pa_cons (pv 0) pa_nil)))) pss_nil)
      (pss_one (ps_if (pt_cmpR (in_seq K) (pv 0) (pv 1) (by rfl)) (pss_one (ps_err rfl takes_def (pmk_err1 O_NameInUse (hr.mono (by decide)) (pa_cons (pv 0) pa_nil)))) pss_nil))), ?_⟩
    refine ⟨_, rfl, ?_⟩
    refine ⟨v, rfl, hv, fun H1 s1 => ?_⟩
    refine ⟨_, rfl, ?_⟩
    cases hn : isNameV v with
    | false =>
      refine iteT ?_
      walk_at "ls"
      exact fun d hd => q1 hn _ d s1 hd
    | true =>
      refine iteF ?_
      obtain ⟨z, rfl⟩ : ∃ z, v = .str z := by
        cases v with
        | str z => exact ⟨z, rfl⟩
        | _ => cases hn
      walk_at "ls"
      refine ⟨a, _, rfl, .inl (.inl (.inl (s1 _ _ ha))), rfl, all_flat ts, _, rfl, ?_⟩
      show if inV (.str z) (ts.map V.str) = true then _ else _
      rw [in_strs]
      cases hw : decide (z ∈ ts) with
      | true =>
        refine iteT ?_
        walk_at "ls"
        exact fun d hd => q2 hn hw _ d s1 hd
      | false => exact iteF (q3 hn hw H1 s1)
end
end Ls
namespace Ls
open PySem PySem.Spec PyProof.Rows L2
/-! ### short steps -/
local macro_rules | `(tactic| walk_at "ls_ne") => `(tactic| first | assumption | exact Ne.symm (by assumption) | exact ne_of_none (by assumption) (by assumption) | exact Ne.symm (ne_of_none (by assumption) (by assumption)))
local macro_rules | `(tactic| walk_at "ls_hp") => `(tactic| first
  | with_reducible assumption
  | exact upd_same
  | exact Eq.trans (upd_ne (by walk_at "ls_ne")) (by walk_at "ls_hp"))
local macro_rules | `(tactic| walk_at "ls_st") => `(tactic| first
  | with_reducible assumption
  | exact Stm.upd (by walk_at "ls_st") (by first | walk_at "ls_ne" | exact (Stm.noneS (by assumption) (by assumption)).1) (by first | walk_at "ls_ne" | exact (Stm.noneS (by assumption) (by assumption)).2))
local macro_rules | `(tactic| walk_at "ls1") => `(tactic| first
  | refine ⟨_, rfl, ?_⟩
  | refine ⟨_, _, rfl, rfl, ?_⟩
  | refine ⟨_, _, _, _, rfl, rfl, .inl (.inl (by walk_at "ls_hp")), rfl, ?_⟩
  | refine ⟨_, _, _, _, rfl, rfl, (by walk_at "ls_hp"), rfl, ?_⟩
  | refine ⟨rfl, _, rfl, ?_⟩
  | refine ⟨.inl ⟨rfl, _, .inl (.inl (by walk_at "ls_hp"))⟩, ?_⟩)
local macro_rules | `(tactic| walk_at "ls") => `(tactic| repeat (walk_at "ls1"))

/-! ### rows of any objects -/
def RowOf (K : PySem.W.Frag) (H : Hp) (v : V) (ys : List V) : Prop := ∃ t, v = .ref t ∧ SqU K H t ys
/-- xs are lists or tuples with the items yss -/
def RowsAt (K : PySem.W.Frag) (H : Hp) (xs : List V) (yss : List (List V)) : Prop := Paired (RowOf K H) xs yss
theorem RowsAt.get {K : PySem.W.Frag} {H : Hp} : ∀ {xs : List V} {yss : List (List V)} {i : Nat} {x : V}, RowsAt K H xs yss → xs[i]? = some x → ∃ ys, yss[i]? = some ys ∧ RowOf K H x ys
  | _ :: _, _ :: _, 0, x, .cons h r, e => ⟨_, rfl, by cases e; exact h⟩
  | _ :: xs, _ :: yss, i + 1, x, .cons h r, e => RowsAt.get (xs := xs) (yss := yss) (i := i) r e
theorem RowOf.same {K : PySem.W.Frag} {H H' : Hp} {v : V} {ys : List V} (h : RowOf K H v ys) (s : Same H H') : RowOf K H' v ys := by
  obtain ⟨t, e, q⟩ := h
  exact ⟨t, e, Stays.sqU s q⟩
theorem RowsAt.same {K : PySem.W.Frag} {H H' : Hp} : ∀ {xs : List V} {yss : List (List V)}, RowsAt K H xs yss → Same H H' → RowsAt K H' xs yss
  | _, _, .nil, _ => .nil
  | _, _, .cons h r, s => .cons (h.same s) (RowsAt.same r s)
theorem RowsAt.len {K : PySem.W.Frag} {H : Hp} {xs : List V} {yss : List (List V)} (h : RowsAt K H xs yss) : xs.length = yss.length := Paired.length h
theorem ty_same {K : PySem.W.Frag} {H H' : Hp} {v : V} {t : Value} (h : TyX K H v t) (s : Same H H') : TyX K H' v t := by
  cases h with
  | base h =>
    refine .base ?_
    cases h with
    | non => exact .non
    | bl x => exact .bl x
    | int i => exact .int i
    | str x => exact .str x
    | flt x => exact .flt x
    | lst e => exact .lst (s _ _ e)
    | frz e => exact .frz (s _ _ e)
    | tup e => exact .tup (s _ _ e)
    | dK e => exact .dK (s _ _ e)
    | dT e => exact .dT (s _ _ e)
    | ins e cl ha hn htk hm => exact .ins (s _ _ e) cl ha hn htk hm
  | byt b => exact .byt b
  | set e => exact .set (s _ _ e)
  | kList e c => exact .kList e c
  | kTuple e c => exact .kTuple e c
  | kDict e c => exact .kDict e c
  | fTuple e => exact .fTuple (s _ _ e)
  | fDict e => exact .fDict (s _ _ e)
theorem NotS.same {K : PySem.W.Frag} {H H' : Hp} {v : V} (h : NotS K H v) (s : Same H H') : NotS K H' v := by
  obtain ⟨⟨t, a, b⟩, c⟩ := h
  exact ⟨⟨t, ty_same a s, b⟩, c⟩
theorem Thg.same {K : PySem.W.Frag} {H H' : Hp} {v : V} (h : Thg K H v) (s : Same H H') : Thg K H' v := h.elim .inl fun z => .inr (z.same s)
/-- the first item of a tuple -/
def fstOf (H : Hp) : V → Option V
  | .ref t => match H t with
    | some (.tup (y :: _)) => some y
    | _ => none
  | _ => none
theorem fst_tup {H : Hp} {v y : V} {ys : List V} (h : TupOf H v (y :: ys)) : fstOf H v = some y := by
  obtain ⟨t, rfl, h⟩ := h
  show (match H t with | some (.tup (y :: _)) => some y | _ => none) = some y
  rw [h]
theorem fst_all {α : Type} {H : Hp} (g : α → V) (r : α → List V) : ∀ {xs : List V} {l : List α}, TupsAt H xs (l.map fun a => g a :: r a) → xs.filterMap (fstOf H) = l.map g
  | [], [], _ => rfl
  | x :: xs, a :: l, h => by
    cases h with
    | cons h1 h2 =>
      rw [List.filterMap_cons, fst_tup h1, fst_all g r h2]
      rfl
  | [], a :: l, h => by cases h
  | x :: xs, [], h => by cases h
theorem Same.set {H H1 : Hp} {p : Addr} {o : HO} (s : Same H H1) (hp : H p = none) : Same H (upd H1 p o) := fun b u e => by
  rw [upd_ne (ne_of_none e hp)]
  exact s _ _ e
/-! ### what is wrong of names -/
def strOf : V → Str
  | .str z => z
  | _ => ⟨#[]⟩
/-- false: no name; true: a name in use -/
def nameErr (taken : List Str) (v : V) : Option Bool := if isNameV v = true then (if isWordV taken v = true then some true else none) else some false
theorem name_str {v : V} (h : isNameV v = true) : v = .str (strOf v) := by
  cases v with
  | str z => rfl
  | _ => cases h
def kindsErr : List Str → List (V × V) → Option (Bool × V)
  | _, [] => none
  | taken, k :: r => match nameErr taken k.1 with
    | some b => some (b, k.1)
    | none => kindsErr (taken ++ [strOf k.1]) r
theorem nameErr_none {taken : List Str} {v : V} (h : nameErr taken v = none) : isNameV v = true ∧ isWordV taken v = false := by
  unfold nameErr at h
  split at h
  · rename_i h1
    split at h
    · cases h
    · rename_i h2
      exact ⟨h1, by simpa using h2⟩
  · cases h
/-- all good ahead: the names of the first i -/
theorem kindsErr_step {taken : List Str} {ks : List (V × V)} {i : Nat} {k : V × V} (e : ks[i]? = some k) : kindsErr taken (ks.drop i) = match nameErr taken k.1 with
    | some b => some (b, k.1)
    | none => kindsErr (taken ++ [strOf k.1]) (ks.drop (i + 1)) := by
  obtain ⟨hi, rfl⟩ := List.getElem?_eq_some_iff.mp e
  rw [List.drop_eq_getElem_cons hi]
  rfl
/-- the error that is due, as an error that leaves -/
def nameE (cN cU : Addr) (H : Hp) (E : XK) (b : Bool) (v : V) : Prop := ∀ H' d, Same H H' → H' d = none → E (.ref (if b = true then cU else cN)) (some d) (upd H' d (.xd [("name", v)]))
theorem nameE.go {cN cU : Addr} {H H1 : Hp} {E : XK} {b : Bool} {v : V} (h : nameE cN cU H E b v) (s : Same H H1) : nameE cN cU H1 E b v := fun H' d s' n => h H' d (s.trans s') n
/-- the promise of _want_free_name by nameErr -/
theorem free_of {K : PySem.W.Frag} {cN cU a : Addr} {H : Hp} {Q : VK} {E : XK} {v : V} {ts : List Str} (hv : Thg K H v) (ha : H a = some (.lst (ts.map V.str)))
    (h : match nameErr ts v with
      | some b => nameE cN cU H E b v
      | none => ∀ H', Same H H' → Q .non H') : spFree K cN cU [v, .ref a] H Q E := by
  unfold nameErr at h
  refine ⟨v, a, ts, rfl, hv, ha, fun h1 => ?_, fun h1 h2 => ?_, fun h1 h2 => ?_⟩
  · rw [h1, if_neg (by decide)] at h
    exact h
  · rw [h1, h2, if_pos rfl, if_pos rfl] at h
    exact h
  · rw [h1, h2, if_pos rfl, if_neg (by decide)] at h
    exact h
section
variable {P : Program} {w : World} {K : PySem.W.Frag} {mg : Str → Option Value} {base : Heap}
/-! ### _read_kinds -/
abbrev s__read_kinds : Stmt := topS 25
theorem sc__read_kinds : FnScope ["kinds", "found", "name", "is_open", "kind"] ["kinds"] (defScope s__read_kinds) := ⟨rfl, rfl, rfl, by decide +kernel, rfl, by decide +kernel, by decide +kernel⟩
abbrev N__read_kinds : List Str := ["kinds", "found", "name", "is_open", "kind"]
def spReadK (K : PySem.W.Frag) (cN cU : Addr) : Sp := fun vs H Q E => ∃ (a : Addr) (xs : List V) (ks : List (V × V)), vs = [.ref a] ∧ SqU K H a xs ∧ RowsAt K H xs (ks.map fun k => [k.1, k.2]) ∧ (∀ k ∈ ks, Thg K H k.1) ∧ ks.length ≤ 1000 ∧
  match kindsErr [] ks with
  | some (b, v) => nameE cN cU H E b v
  | none => ∀ (H' : Hp) (p : Addr) (ys : List V), H' p = some (.tup ys) → TupsAt H' ys (ks.map fun k => [k.1, k.2]) → Same H H' → Q (.ref p) H'
theorem ok_readK {f : Addr} {fd : FuncData} {cN cU : Addr} (F : Fun K "_read_kinds" "_read_kinds" s__read_kinds f fd) (T : Bt mg) (O__want_free_name : OwnR P w K mg base 3 "_want_free_name" ["name", "taken"] (spFree K cN cU)) : FnOk P w K mg base (L2.CX P w) 4 f fd ["kinds"] (spReadK K cN cU) := by
  refine F.okX sc__read_kinds (fun vs H Q E h => ?_) (fun cdv A outer s H vs Q E hr h => ?_)
  · obtain ⟨a, xs, B, rfl, _⟩ := h
    rfl
  · obtain ⟨a, xs, ks, rfl, ha, hx, ht, hk, q⟩ := h
    have hu := hu_of hr
    refine ⟨_, (pss_cons (ps_set (i := 1) sc__read_kinds.nd rfl (Or.inl rfl) (pe_lst pa_nil))
      (pss_cons (ps_for own_def rfl (pi_seq (pv 0)) (pg_seq rfl (pgs_cons (pg_name (i := 2) sc__read_kinds.nd rfl (Or.inl rfl)) (pgs_cons (pg_name (i := 3) sc__read_kinds.nd rfl (Or.inl rfl)) pgs_nil))) (pss_cons (ps_expr (own_callR O__want_free_name hr (by first | decide | omega) takes_def (pa_cons (pv 2) (pa_cons (pe_lc (own := [("kind", 4)]) (g := gName 4) (by rfl) sc__read_kinds.nd (pi_list (pv 1)) (blkOk_by (own := [("kind", 4)]) (N := N__read_kinds) (sc := defScope s__read_kinds) (by decide +kernel)) (fun _ _ _ _ _ => (pg_name (i := 4) sc__read_kinds.nd rfl (Or.inl rfl) (Or.inr rfl))) (fun _ _ _ _ _ => pts_nil) (fun _ _ _ _ _ => (pe_ix (ixT K) (pv 4) pe_int (fun _ _ => rfl)))) pa_nil))))
      (pss_one (ps_expr (pe_bm PySem.F.plainAttrs_list PySem.F.slot_list_append PySem.F.type_list_append mt_append (pv 1) (pa_cons (pe_tup (pa_cons (pv 2) (pa_cons (pv 3) pa_nil))) pa_nil))))))
      (pss_one (ps_ret (pe_callTy (tuple_of K) (by rfl) T.m_tuple (by decide +kernel) (pa_cons (pv 1) pa_nil)))))), ?_⟩
    refine ⟨Nat.zero_le _, fun p hp => ?_⟩
    have s0 : Same H (upd H p (.lst [])) := same_new hp
    walk_at "ls"
    refine ⟨a, xs, H, rfl, ha, s0, fun J G wk g0 gs => ?_⟩
    have lx : xs.length = ks.length := by rw [hx.len, List.length_map]
    refine for_it wk (fun i σ H1 => ∃ (fx : List V) (v2 v3 : Option V) (zs : List Str), σ = [some (.ref a), some (.ref p), v2, v3, none] ∧ H1 p = some (.lst fx) ∧ TupsAt H1 fx ((ks.take i).map fun k => [k.1, k.2]) ∧ Same H H1 ∧
        (ks.take i).map (·.1) = zs.map V.str ∧ kindsErr [] ks = kindsErr zs (ks.drop i))
      ⟨[], none, none, [], rfl, upd_same, .nil, s0, rfl, rfl⟩ (fun i σ H1 _ ⟨_, _, _, _, _, _, _, s1, _⟩ => gs _ s1) ?_ ?_
    · rintro i x σ Hz H1 hi ⟨fx, v2, v3, zs, rfl, h1, h1t, s1, ez, ek⟩ ⟨rfl, hxi⟩
      obtain ⟨ys, hys, t, rfl, hto⟩ := RowsAt.get (hx.same s1) hxi
      obtain ⟨k, hki, rfl⟩ := map_get hys
      refine ⟨t, _, rfl, hto, rfl, _, _, rfl, _, _, rfl, rfl, ?_⟩
      walk_at "ls"
      have lf : fx.length ≤ 1000 := by
        rw [h1t.len, List.length_map, List.length_take]
        omega
      have lz : fx.length < sizeLine := Nat.lt_of_le_of_lt lf (show 1000 < sizeLine by decide)
      refine ⟨⟨_, .inl (.inl h1)⟩, fun D hD => ?_⟩
      have npD : p ≠ D := ne_of_none h1 hD
      refine lc_pure (walk_list (xs := fx)) fx (fstOf H1) rfl (fun i H x H' hi hy => hy) lz (fun acc => .inl (.inl (by rw [upd_ne npD]; exact h1))) (fun j y hj hy => ?_) ?_
      · obtain ⟨zs, hzs, hto⟩ := TupsAt.get h1t hy
        obtain ⟨k2, hk2, rfl⟩ := map_get hzs
        obtain ⟨t2, rfl, ht2⟩ := id hto
        have n2 : t2 ≠ D := ne_of_none ht2 hD
        refine ⟨rfl, ?_⟩
        walk_at "ls"
        exact lc_yes hy hj lz (fst_tup hto)
      rw [fst_all (fun a : V × V => a.1) (fun a => [a.2]) (l := ks.take i) h1t, ez]
      have e1 := kindsErr_step (taken := zs) hki
      rw [ek, e1] at q
      simp only [tNil, List.set]
      refine free_of ((ht _ (List.mem_of_getElem? hki)).same (s1.trans (same_new hD))) upd_same ?_
      cases hn : nameErr zs k.1 with
      | some b =>
        rw [hn] at q
        exact nameE.go q (s1.trans (same_new hD))
      | none =>
        intro H2 sH2
        have s12 : Same H1 H2 := (same_new hD).trans sH2
        have h2 := s12 _ _ h1
        obtain ⟨n1, n2⟩ := nameErr_none hn
        walk_at "ls"
        refine ⟨(by show 2 ≤ sizeLine; decide), fun t2 ht2 => ?_⟩
        have npt : p ≠ t2 := ne_of_none h2 ht2
        have h2' : (upd H2 t2 (.tup [k.1, k.2])) p = some (.lst fx) := by rw [upd_ne npt]; exact h2
        refine ⟨_, _, _, rfl, rfl, h2', lz, fx ++ [.ref t2], _, _, zs ++ [strOf k.1], rfl, upd_same, ?_, ?_, ?_, ?_⟩
        · rw [List.take_add_one, hki, Option.toList_some, List.map_append]
          exact (h1t.keep (((TK.same s12).trans (.new ht2)).trans (.lst h2'))).snoc ⟨t2, rfl, by rw [upd_ne npt.symm]; exact upd_same⟩
        · exact Same.set ((s1.trans s12).trans (same_new ht2)) hp
        · rw [List.take_add_one, hki, Option.toList_some, List.map_append, ez, List.map_append, List.map_cons, List.map_cons, ← name_str n1]
          rfl
        · rw [ek, e1, hn]
    · rintro σ H1 ⟨fx, v2, v3, zs, rfl, h1, h1t, s1, ez, ek⟩
      rw [lx, List.take_length] at h1t
      rw [lx, List.drop_length] at ek
      rw [ek] at q
      walk_at "ls"
      refine ⟨p, fx, rfl, .inl ⟨.inl (.inl h1), fun l hl => ?_⟩⟩
      exact q _ l fx upd_same (h1t.keep (.new hl)) (s1.trans (same_new hl))
end
end Ls
namespace Ls
open PySem PySem.Spec PyProof.Rows L2
/-! ### short steps -/
local macro_rules | `(tactic| walk_at "ls_ne") => `(tactic| first | assumption | exact Ne.symm (by assumption) | exact ne_of_none (by assumption) (by assumption) | exact Ne.symm (ne_of_none (by assumption) (by assumption)))
local macro_rules | `(tactic| walk_at "ls_hp") => `(tactic| first
  | with_reducible assumption
  | exact upd_same
  | exact Eq.trans (upd_ne (by walk_at "ls_ne")) (by walk_at "ls_hp"))
local macro_rules | `(tactic| walk_at "ls_st") => `(tactic| first
  | with_reducible assumption
  | exact Stm.upd (by walk_at "ls_st") (by first | walk_at "ls_ne" | exact (Stm.noneS (by assumption) (by assumption)).1) (by first | walk_at "ls_ne" | exact (Stm.noneS (by assumption) (by assumption)).2))
local macro_rules | `(tactic| walk_at "ls1") => `(tactic| first
  | refine ⟨_, rfl, ?_⟩
  | refine ⟨_, _, rfl, rfl, ?_⟩
  | refine ⟨_, _, _, _, rfl, rfl, .inl (.inl (by walk_at "ls_hp")), rfl, ?_⟩
  | refine ⟨_, _, _, _, rfl, rfl, (by walk_at "ls_hp"), rfl, ?_⟩
  | refine ⟨rfl, _, rfl, ?_⟩
  | refine ⟨.inl ⟨rfl, _, .inl (.inl (by walk_at "ls_hp"))⟩, ?_⟩)
local macro_rules | `(tactic| walk_at "ls") => `(tactic| repeat (walk_at "ls1"))

/-! ### what is wrong of columns -/
abbrev Col := V × V × V × V
def colU (c : Col) : List V := [c.1, c.2.1, c.2.2.1, c.2.2.2]
def ruleW : List Str := ["fall", "clear"]
inductive ColE
  | name (b : Bool) (v : V)
  | kind (v : V)
  | rule (v : V)
def colErr (kn taken : List Str) (c : Col) : Option ColE := match nameErr (kn ++ taken) c.1 with
  | some b => some (.name b c.1)
  | none => if isWordV kn c.2.1 = true then (if isWordV kn c.2.2.1 = true then (if isWordV ruleW c.2.2.2 = true then none else some (.rule c.2.2.2)) else some (.kind c.2.2.1)) else some (.kind c.2.1)
def colsErr (kn : List Str) : List Str → List Col → Option ColE
  | _, [] => none
  | taken, c :: r => match colErr kn taken c with
    | some e => some e
    | none => colsErr kn (taken ++ [strOf c.1]) r
theorem colsErr_step {kn taken : List Str} {cs : List Col} {i : Nat} {c : Col} (e : cs[i]? = some c) : colsErr kn taken (cs.drop i) = match colErr kn taken c with
    | some e => some e
    | none => colsErr kn (taken ++ [strOf c.1]) (cs.drop (i + 1)) := by
  obtain ⟨hi, rfl⟩ := List.getElem?_eq_some_iff.mp e
  rw [List.drop_eq_getElem_cons hi]
  rfl
/-- one field's error that leaves -/
def oneE (C : Addr) (f : Str) (H : Hp) (E : XK) (v : V) : Prop := ∀ H' d, Same H H' → H' d = none → E (.ref C) (some d) (upd H' d (.xd [(f, v)]))
theorem oneE.go {C : Addr} {f : Str} {H H1 : Hp} {E : XK} {v : V} (h : oneE C f H E v) (s : Same H H1) : oneE C f H1 E v := fun H' d s' n => h H' d (s.trans s') n
def colE (cN cU cK cR : Addr) (H : Hp) (E : XK) : ColE → Prop
  | .name b v => nameE cN cU H E b v
  | .kind v => oneE cK "kind" H E v
  | .rule v => oneE cR "rule" H E v
theorem word_str {v : V} {ts : List Str} (h : isWordV ts v = true) : v = .str (strOf v) := by
  cases v with
  | str z => rfl
  | _ => cases h
section
variable {P : Program} {w : World} {K : PySem.W.Frag} {mg : Str → Option Value} {base : Heap}
/-! ### _read_columns -/
abbrev s__read_columns : Stmt := topS 26
theorem sc__read_columns : FnScope ["columns", "kinds", "kind", "names", "found", "name", "home", "goal", "rule", "column"] ["columns", "kinds"] (defScope s__read_columns) := ⟨rfl, rfl, rfl, by decide +kernel, rfl, by decide +kernel, by decide +kernel⟩
abbrev N__read_columns : List Str := ["columns", "kinds", "kind", "names", "found", "name", "home", "goal", "rule", "column"]
def spReadC (K : PySem.W.Frag) (cN cU cK cR : Addr) : Sp := fun vs H Q E => ∃ (a b : Addr) (xs ys : List V) (cs : List Col) (ks : List (V × V)) (kn : List Str), vs = [.ref a, .ref b] ∧ SqU K H a xs ∧ RowsAt K H xs (cs.map colU) ∧ H b = some (.tup ys) ∧ TupsAt H ys (ks.map fun k => [k.1, k.2]) ∧
  ks.map (·.1) = kn.map V.str ∧ (∀ c ∈ cs, Thg K H c.1 ∧ Thg K H c.2.1 ∧ Thg K H c.2.2.1 ∧ Thg K H c.2.2.2) ∧ cs.length ≤ 1000 ∧ ks.length ≤ 1000 ∧
  match colsErr kn [] cs with
  | some e => colE cN cU cK cR H E e
  | none => ∀ (H' : Hp) (p : Addr) (zs : List V), H' p = some (.tup zs) → TupsAt H' zs (cs.map colU) → Same H H' → Q (.ref p) H'
theorem ok_readC {f : Addr} {fd : FuncData} {aR aC aK aB : Addr} {tS tL tN : Tok} {cN cU cK cR : Addr} (F : Fun K "_read_columns" "_read_columns" s__read_columns f fd) (T : Bt mg) (G : Gn K mg aR aC aK aB tS tL tN) (O__want_free_name : OwnR P w K mg base 3 "_want_free_name" ["name", "taken"] (spFree K cN cU))
    (O_is_word_of : Own P w K mg base CX0 1 "is_word_of" ["thing", "words"] (spWord K)) (O_UnknownKind : OwnX P w K mg base "UnknownKind" ["kind"] (spI1 cK "kind") cK) (O_BadRule : OwnX P w K mg base "BadRule" ["rule"] (spI1 cR "rule") cR) :
    FnOk P w K mg base (L2.CX P w) 4 f fd ["columns", "kinds"] (spReadC K cN cU cK cR) := by
  refine F.okX sc__read_columns (fun vs H Q E h => ?_) (fun cdv A outer s H vs Q E hr h => ?_)
  · obtain ⟨a, b, xs, ys, cs, ks, kn, rfl, _⟩ := h
    rfl
  · obtain ⟨a, b, xs, ys, cs, ks, kn, rfl, ha, hx, hb, hy, ekn, ht, lc, lk, q⟩ := h
    have hu := hu_of hr
    refine ⟨_, (pss_cons (ps_setLc (i := 3) (own := [("kind", 2)]) (g := gName 2) (by rfl) sc__read_columns.nd rfl rfl (sw_true rfl rfl rfl (by decide +kernel)) (pi_tup (pv 1)) (blkOk_by (own := [("kind", 2)]) (N := N__read_columns) (sc := defScope s__read_columns) (by decide +kernel)) (fun _ _ _ _ _ => (pg_name (i := 2) sc__read_columns.nd rfl (Or.inl rfl) (Or.inr rfl))) (fun _ _ _ _ _ => pts_nil) (fun _ _ _ _ _ => (pe_ix (ixT K) (pv 2) pe_int (fun _ _ => rfl))))
      (pss_cons (ps_set (i := 4) sc__read_columns.nd rfl (Or.inl rfl) (pe_lst pa_nil))
      (pss_cons (ps_for own_def rfl (pi_seq (pv 0)) (pg_seq rfl (pgs_cons (pg_name (i := 5) sc__read_columns.nd rfl (Or.inl rfl)) (pgs_cons (pg_name (i := 6) sc__read_columns.nd rfl (Or.inl rfl)) (pgs_cons (pg_name (i := 7) sc__read_columns.nd rfl (Or.inl rfl)) (pgs_cons (pg_name (i := 8) sc__read_columns.nd rfl (Or.inl rfl)) pgs_nil))))) (pss_cons (ps_expr (own_callR O__want_free_name hr (by first | decide | omega) takes_def (pa_cons (pv 5) (pa_cons (pe_op op_cat (pv 3) (pe_lc (own := [("column", 9)]) (g := gName 9) (by rfl) sc__read_columns.nd (pi_list (pv 4)) (blkOk_by (own := [("column", 9)]) (N := N__read_columns) (sc := defScope s__read_columns) (by decide +kernel)) (fun _ _ _ _ _ => (pg_name (i := 9) sc__read_columns.nd rfl (Or.inl rfl) (Or.inr rfl))) (fun _ _ _ _ _ => pts_nil) (fun _ _ _ _ _ => (pe_ix (ixT K) (pv 9) pe_int (fun _ _ => rfl))))) pa_nil))))
      (pss_cons (ps_for own_def rfl (pi_tup (pe_tup (pa_cons (pv 6) (pa_cons (pv 7) pa_nil)))) (pg_name (i := 2) sc__read_columns.nd rfl (Or.inl rfl)) (pss_one (ps_if (pt_not (pt_val (own_call O_is_word_of hr (by first | decide | omega) (pa_cons (pv 2) (pa_cons (pv 3) pa_nil))))) (pss_one (ps_err rfl takes_def (pmk_err1 O_UnknownKind (hr.mono (by decide)) (pa_cons (pv 2) pa_nil)))) pss_nil)))
      (pss_cons (ps_if (pt_not (pt_val (own_call O_is_word_of hr (by first | decide | omega) (pa_cons (pv 8) (pa_cons (glob_ref G.RULES) pa_nil))))) (pss_one (ps_err rfl takes_def (pmk_err1 O_BadRule (hr.mono (by decide)) (pa_cons (pv 8) pa_nil)))) pss_nil)
      (pss_one (ps_expr (pe_bm PySem.F.plainAttrs_list PySem.F.slot_list_append PySem.F.type_list_append mt_append (pv 4) (pa_cons (pe_tup (pa_cons (pv 5) (pa_cons (pv 6) (pa_cons (pv 7) (pa_cons (pv 8) pa_nil))))) pa_nil))))))))
      (pss_one (ps_ret (pe_callTy (tuple_of K) (by rfl) T.m_tuple (by decide +kernel) (pa_cons (pv 4) pa_nil))))))), ?_⟩
    walk_at "ls"
    have lkn : kn.length = ks.length := by
      have z := congrArg List.length ekn
      rw [List.length_map, List.length_map] at z
      exact z.symm
    have ly : ys.length < sizeLine := Nat.lt_of_le_of_lt (by rw [hy.len, List.length_map]; exact lk) (show 1000 < sizeLine by decide)
    refine ⟨⟨_, .inl (.inl hb)⟩, fun D1 hD1 => ?_⟩
    have nbD : b ≠ D1 := ne_of_none hb hD1
    refine lc_pure (walk_tup (xs := ys)) ys (fstOf H) rfl (fun i H x H' hi hy => hy) ly (fun acc => .inl (.inl (by rw [upd_ne nbD]; exact hb))) (fun j y hj hyj => ?_) ?_
    · obtain ⟨zs, hzs, hto⟩ := TupsAt.get hy hyj
      obtain ⟨k2, hk2, rfl⟩ := map_get hzs
      obtain ⟨t2, rfl, ht2⟩ := id hto
      have n2 : t2 ≠ D1 := ne_of_none ht2 hD1
      refine ⟨rfl, ?_⟩
      walk_at "ls"
      exact lc_yes hyj hj ly (fst_tup hto)
    rw [fst_all (fun a : V × V => a.1) (fun a => [a.2]) (l := ks) hy, ekn]
    refine at_heap (φ := fun H1 => Same H H1 ∧ H1 D1 = some (.lst (kn.map V.str))) ⟨same_new hD1, upd_same⟩ ?_
    rintro H1 ⟨s1, h1D⟩
    refine ⟨Nat.zero_le _, fun p hp => ?_⟩
    have s1p : Same H1 (upd H1 p (.lst [])) := same_new hp
    walk_at "ls"
    have hpn : H p = none := s1.free hp
    refine ⟨a, xs, H, rfl, ha, s1.trans s1p, fun J G' wk g0 gs => ?_⟩
    have lx : xs.length = cs.length := by rw [hx.len, List.length_map]
    refine for_it wk (fun i σ H2 => ∃ (fx : List V) (v2 v5 v6 v7 v8 : Option V) (zs : List Str), σ = [some (.ref a), some (.ref b), v2, some (.ref D1), some (.ref p), v5, v6, v7, v8, none] ∧ H2 p = some (.lst fx) ∧ TupsAt H2 fx ((cs.take i).map colU) ∧ Same H1 H2 ∧
        (cs.take i).map (·.1) = zs.map V.str ∧ colsErr kn [] cs = colsErr kn zs (cs.drop i))
      ⟨[], none, none, none, none, none, [], rfl, upd_same, .nil, s1p, rfl, rfl⟩ (fun i σ H2 _ ⟨_, _, _, _, _, _, _, _, _, _, s2, _⟩ => gs _ (s1.trans s2)) ?_ ?_
    · rintro i x σ Hz H2 hi ⟨fx, v2, v5, v6, v7, v8, zs, rfl, h2, h2t, s2, ez, ek⟩ ⟨rfl, hxi⟩
      have sH2 : Same H H2 := s1.trans s2
      obtain ⟨rs, hrs, t, rfl, hto⟩ := RowsAt.get (hx.same sH2) hxi
      obtain ⟨c, hc, rfl⟩ := map_get hrs
      have hcm : c ∈ cs := List.mem_of_getElem? hc
      obtain ⟨tg1, tg2, tg3, tg4⟩ := ht c hcm
      refine ⟨t, _, rfl, hto, rfl, _, _, rfl, _, _, rfl, _, _, rfl, _, _, rfl, rfl, ?_⟩
      have h2D := s2 _ _ h1D
      walk_at "ls"
      have lf : fx.length ≤ 1000 := by
        rw [h2t.len, List.length_map, List.length_take]
        omega
      have lz : fx.length < sizeLine := Nat.lt_of_le_of_lt lf (show 1000 < sizeLine by decide)
      -- names + [column[0] for column in found]
      refine ⟨⟨_, .inl (.inl h2)⟩, fun D hD => ?_⟩
      have npD : p ≠ D := ne_of_none h2 hD
      refine lc_pure (walk_list (xs := fx)) fx (fstOf H2) rfl (fun i H x H' hi hy => hy) lz (fun acc => .inl (.inl (by rw [upd_ne npD]; exact h2))) (fun j y hj hyj => ?_) ?_
      · obtain ⟨zs, hzs, hto⟩ := TupsAt.get h2t hyj
        obtain ⟨k2, hk2, rfl⟩ := map_get hzs
        obtain ⟨t2, rfl, ht2⟩ := id hto
        have n2 : t2 ≠ D := ne_of_none ht2 hD
        refine ⟨rfl, ?_⟩
        walk_at "ls"
        exact lc_yes hyj hj lz (fst_tup hto)
      rw [fst_all (fun a : Col => a.1) (fun a => [a.2.1, a.2.2.1, a.2.2.2]) (l := cs.take i) h2t, ez]
      have n1D : D1 ≠ D := ne_of_none h2D hD
      refine ⟨_, _, _, _, rfl, rfl, (by rw [upd_ne n1D]; exact h2D), upd_same, ?_, fun E1 hE1 => ?_⟩
      · have lzs : zs.length ≤ 1000 := by
          have z := congrArg List.length ez
          rw [List.length_map, List.length_map, List.length_take] at z
          omega
        rw [List.length_map, List.length_map]
        exact Nat.le_trans (show _ ≤ 2000 by omega) (show 2000 ≤ sizeLine by decide)
      have e1 := colsErr_step (kn := kn) (taken := zs) hc
      rw [ek, e1] at q
      unfold colErr at q
      have sE : Same H2 (upd (upd H2 D (.lst (zs.map V.str))) E1 (.lst (kn.map V.str ++ zs.map V.str))) := (same_new hD).trans (same_new hE1)
      simp only [tNil, List.set]
      refine free_of (ts := kn ++ zs) (tg1.same (sH2.trans sE)) (by rw [upd_same, List.map_append]) ?_
      cases hn : nameErr (kn ++ zs) c.1 with
      | some b =>
        rw [hn] at q
        exact nameE.go q (sH2.trans sE)
      | none =>
        rw [hn] at q
        simp only at q
        intro H3 s3
        obtain ⟨n1, n2⟩ := nameErr_none hn
        have s23 : Same H2 H3 := sE.trans s3
        have h3D := s23 _ _ h2D
        have h3 := s23 _ _ h2
        have sH3 : Same H H3 := sH2.trans s23
        -- for kind in (home, goal)
        walk_at "ls"
        refine ⟨(by show 2 ≤ sizeLine; decide), fun g hg => ?_⟩
        refine ⟨g, rfl, ⟨_, .inl (.inl upd_same)⟩, ?_⟩
        have n3g : D1 ≠ g := ne_of_none h3D hg
        have npg : p ≠ g := ne_of_none h3 hg
        have s3g : Same H3 (upd H3 g (.tup [c.2.1, c.2.2.1])) := same_new hg
        refine for_it (walk_tup (xs := [c.2.1, c.2.2.1])) (fun j σ H4 => ∃ v2 : Option V, σ = [some (.ref a), some (.ref b), v2, some (.ref D1), some (.ref p), some c.1, some c.2.1, some c.2.2.1, some c.2.2.2, none] ∧ H4 = upd H3 g (.tup [c.2.1, c.2.2.1]) ∧ (1 ≤ j → isWordV kn c.2.1 = true) ∧ (2 ≤ j → isWordV kn c.2.2.1 = true))
          ⟨v2, rfl, rfl, fun z => absurd z (by decide), fun z => absurd z (by decide)⟩ (fun j σ H4 _ ⟨_, _, e, _⟩ => .inl (.inl (by rw [e]; exact upd_same))) ?_ ?_
        · rintro j y σ Hy H4 hj ⟨v2, rfl, e4, w1, w2⟩ ⟨rfl, hyj⟩
          have sH4 : Same H H4 := by rw [e4]; exact sH3.trans s3g
          have hyt : Thg K H y := by
            match j, hj, hyj with
            | 0, _, h => rw [← Option.some.inj h]; exact tg2
            | 1, _, h => rw [← Option.some.inj h]; exact tg3
          walk_at "ls"
          refine ⟨y, D1, kn, rfl, hyt.same sH4, .inl (.inl (.inl (by rw [e4, upd_ne n3g]; exact h3D))), ?_⟩
          refine ⟨_, rfl, ?_⟩
          cases hw : isWordV kn y with
          | true =>
            refine iteF ⟨_, rfl, e4, fun _ => ?_, fun z => ?_⟩
            · match j, hj, hyj with
              | 0, _, h => rw [← Option.some.inj h] at hw; exact hw
              | 1, _, h => exact w1 (Nat.le_refl _)
            · match j, hj, hyj with
              | 0, _, h => exact absurd z (by decide)
              | 1, _, h => rw [← Option.some.inj h] at hw; exact hw
          | false =>
            refine iteT ?_
            walk_at "ls"
            have hE : oneE cK "kind" H E y := by
              match j, hj, hyj with
              | 0, _, h =>
                have e := Option.some.inj h
                change c.2.1 = y at e
                rw [e, hw, if_neg (by decide)] at q
                exact q
              | 1, _, h =>
                have e := Option.some.inj h
                change c.2.2.1 = y at e
                rw [w1 (Nat.le_refl _), if_pos rfl, e, hw, if_neg (by decide)] at q
                exact q
            exact fun d hd => hE _ d sH4 hd
        · rintro σ H4 ⟨v2, rfl, e4, w1, w2⟩
          rw [w1 (by show 1 ≤ 2; decide), w2 (Nat.le_refl _), if_pos rfl, if_pos rfl] at q
          have sH4 : Same H H4 := by rw [e4]; exact sH3.trans s3g
          walk_at "ls"
          refine ⟨_, aR, ruleW, rfl, tg4.same sH4, .inr (G.kRULES.sq _), ?_⟩
          refine ⟨_, rfl, ?_⟩
          cases hw : isWordV ruleW c.2.2.2 with
          | false =>
            rw [hw, if_neg (by decide)] at q
            refine iteT ?_
            walk_at "ls"
            exact fun d hd => q _ d sH4 hd
          | true =>
            rw [hw, if_pos rfl] at q
            simp only at q
            refine iteF ?_
            walk_at "ls"
            refine ⟨.inl ⟨rfl, _, .inl (.inl (show H4 p = some (.lst fx) by rw [e4, upd_ne npg]; exact h3))⟩, ?_⟩
            walk_at "ls"
            refine ⟨(by show 4 ≤ sizeLine; decide), fun t2 ht2 => ?_⟩
            have h4 : H4 p = some (.lst fx) := by rw [e4, upd_ne npg]; exact h3
            have npt : p ≠ t2 := ne_of_none h4 ht2
            have s24 : Same H2 H4 := s23.trans (by rw [e4]; exact same_new hg)
            have h4' : (upd H4 t2 (.tup [c.1, c.2.1, c.2.2.1, c.2.2.2])) p = some (.lst fx) := by rw [upd_ne npt]; exact h4
            refine ⟨_, _, _, rfl, rfl, h4', lz, fx ++ [.ref t2], _, _, _, _, _, zs ++ [strOf c.1], rfl, upd_same, ?_, ?_, ?_, ?_⟩
            · rw [List.take_add_one, hc, Option.toList_some, List.map_append]
              exact (h2t.keep (((TK.same s24).trans (.new ht2)).trans (.lst h4'))).snoc ⟨t2, rfl, by rw [upd_ne npt.symm]; exact upd_same⟩
            · exact Same.set ((s2.trans s24).trans (same_new ht2)) hp
            · rw [List.take_add_one, hc, Option.toList_some, List.map_append, ez, List.map_append, List.map_cons, List.map_cons, ← name_str n1]
              rfl
            · rw [ek, e1]
              unfold colErr
              rw [hn]
              simp only [w1 (show 1 ≤ 2 by decide), w2 (Nat.le_refl 2), hw, if_true]
    · rintro σ H2 ⟨fx, v2, v5, v6, v7, v8, zs, rfl, h2, h2t, s2, ez, ek⟩
      rw [lx, List.take_length] at h2t
      rw [lx, List.drop_length] at ek
      rw [ek] at q
      walk_at "ls"
      refine ⟨p, fx, rfl, .inl ⟨.inl (.inl h2), fun l hl => ?_⟩⟩
      exact q _ l fx upd_same (h2t.keep (.new hl)) ((s1.trans s2).trans (same_new hl))
end
end Ls
namespace Ls
open PySem PySem.Spec PyProof.Rows L2
/-! ### short steps -/
local macro_rules | `(tactic| walk_at "ls_ne") => `(tactic| first | assumption | exact Ne.symm (by assumption) | exact ne_of_none (by assumption) (by assumption) | exact Ne.symm (ne_of_none (by assumption) (by assumption)))
local macro_rules | `(tactic| walk_at "ls_hp") => `(tactic| first
  | with_reducible assumption
  | exact upd_same
  | exact Eq.trans (upd_ne (by walk_at "ls_ne")) (by walk_at "ls_hp"))
local macro_rules | `(tactic| walk_at "ls_st") => `(tactic| first
  | with_reducible assumption
  | exact Stm.upd (by walk_at "ls_st") (by first | walk_at "ls_ne" | exact (Stm.noneS (by assumption) (by assumption)).1) (by first | walk_at "ls_ne" | exact (Stm.noneS (by assumption) (by assumption)).2))
local macro_rules | `(tactic| walk_at "ls1") => `(tactic| first
  | refine ⟨_, rfl, ?_⟩
  | refine ⟨_, _, rfl, rfl, ?_⟩
  | refine ⟨_, _, _, _, rfl, rfl, .inl (.inl (by walk_at "ls_hp")), rfl, ?_⟩
  | refine ⟨_, _, _, _, rfl, rfl, (by walk_at "ls_hp"), rfl, ?_⟩
  | refine ⟨rfl, _, rfl, ?_⟩
  | refine ⟨.inl ⟨rfl, _, .inl (.inl (by walk_at "ls_hp"))⟩, ?_⟩)
local macro_rules | `(tactic| walk_at "ls") => `(tactic| repeat (walk_at "ls1"))

/-- the menu by the names -/
def menuU (kn cn : List Str) : List Str := (cn.flatMap (withN colW) ++ kn.flatMap (withN kindW)) ++ bookW
theorem menuU_len (kn cn : List Str) : (menuU kn cn).length = 5 * cn.length + 3 * kn.length + 2 := by
  unfold menuU
  rw [List.length_append, List.length_append, flat_len _ 5 (fun c => by rw [withN, List.length_map]; rfl), flat_len _ 3 (fun c => by rw [withN, List.length_map]; rfl)]
  rfl
theorem names_at {α : Type} {l : List (V × α)} {zs : List Str} (e : l.map (·.1) = zs.map V.str) {i : Nat} {c : V × α} (h : l[i]? = some c) : ∃ z, zs[i]? = some z ∧ c.1 = .str z := by
  have h2 : (l.map (·.1))[i]? = some c.1 := by rw [List.getElem?_map, h]; rfl
  rw [e] at h2
  obtain ⟨z, hz, ez⟩ := map_get h2
  exact ⟨z, hz, ez⟩
theorem flat_snocU {f : Str → List Str} {l : List Str} {i : Nat} {z : Str} (h : l[i]? = some z) : (l.take (i + 1)).flatMap f = (l.take i).flatMap f ++ f z := by
  rw [List.take_add_one, h, List.flatMap_append]
  simp
def onlyIn (ts : List Str) (v : V) : Option V := if inV v (ts.map V.str) = true then some v else none
theorem onlyIn_all (ts : List Str) : ∀ ys : List Str, (ys.map V.str).filterMap (onlyIn ts) = (ys.filter fun z => decide (z ∈ ts)).map V.str
  | [] => rfl
  | y :: r => by
    rw [List.map_cons, List.filterMap_cons, List.filter_cons, onlyIn_all ts r]
    unfold onlyIn
    rw [in_strs]
    by_cases h : y ∈ ts
    · simp [h]
    · simp [h]
section
variable {P : Program} {w : World} {K : PySem.W.Frag} {mg : Str → Option Value} {base : Heap}
/-! ### _menu_of -/
abbrev s__menu_of : Stmt := topS 28
theorem sc__menu_of : FnScope ["kinds", "columns", "found", "column", "kind", "word"] ["kinds", "columns"] (defScope s__menu_of) := ⟨rfl, rfl, rfl, by decide +kernel, rfl, by decide +kernel, by decide +kernel⟩
abbrev N__menu_of : List Str := ["kinds", "columns", "found", "column", "kind", "word"]
def spMenu : Sp := fun vs H Q _ => ∃ (a b : Addr) (xs ys : List V) (ks : List (V × V)) (cs : List Col) (kn cn : List Str), vs = [.ref a, .ref b] ∧ H a = some (.tup xs) ∧ TupsAt H xs (ks.map fun k => [k.1, k.2]) ∧ H b = some (.tup ys) ∧ TupsAt H ys (cs.map colU) ∧
  ks.map (·.1) = kn.map V.str ∧ cs.map (·.1) = cn.map V.str ∧ kn.length ≤ 1000 ∧ cn.length ≤ 1000 ∧ (∀ z ∈ kn, z.length ≤ 8) ∧ (∀ z ∈ cn, z.length ≤ 8) ∧
  ∀ (H' : Hp) (p : Addr), H' p = some (.tup ((menuU kn cn).map V.str)) → Same H H' → Q (.ref p) H'
theorem ok_menu {f : Addr} {fd : FuncData} {aR aC aK aB : Addr} {tS tL tN : Tok} (F : Fun K "_menu_of" "_menu_of" s__menu_of f fd) (T : Bt mg) (G : Gn K mg aR aC aK aB tS tL tN) : FnOk P w K mg base CX0 1 f fd ["kinds", "columns"] spMenu := by
  refine F.ok sc__menu_of (fun vs H Q E h => ?_) (fun cdv A outer s H vs Q E hr h => ?_)
  · obtain ⟨a, b, xs, ys, ks, cs, kn, cn, rfl, _⟩ := h
    rfl
  · obtain ⟨ka, ca, kx, cx, ks, cs, kn, cn, rfl, hka, hkt, hca, hct, ekn, ecn, lkn, lcn, nk, nc, q⟩ := h
    have lks : ks.length = kn.length := by
      have z := congrArg List.length ekn
      rw [List.length_map, List.length_map] at z
      exact z
    have lcs : cs.length = cn.length := by
      have z := congrArg List.length ecn
      rw [List.length_map, List.length_map] at z
      exact z
    have hu := hu_of hr
    refine ⟨_, (pss_cons (ps_set (i := 2) sc__menu_of.nd rfl (Or.inl rfl) (pe_lst pa_nil))
      (pss_cons (ps_for PassesOwn.never rfl (pi_tup (pv 1)) (pg_name (i := 3) sc__menu_of.nd rfl (Or.inr rfl)) (pss_one (ps_expr (pe_bm PySem.F.plainAttrs_list PySem.F.slot_list_extend PySem.F.type_list_extend mt_extend (pv 2) (pa_cons (pe_lc (own := [("word", 5)]) (g := gName 5) (by rfl) sc__menu_of.nd (pi_tup (glob_ref G.COLUMN_CHECKS)) (blkOk_by (own := [("word", 5)]) (N := N__menu_of) (sc := defScope s__menu_of) (by decide +kernel)) (fun _ _ _ _ _ => (pg_name (i := 5) sc__menu_of.nd rfl (Or.inl rfl) (Or.inr rfl))) (fun _ _ _ _ _ => pts_nil) (fun _ _ _ _ _ => (pe_op op_add_str (pe_op op_add_str (pv 5) pe_str) (pe_ix (ixT K) (pv 3) pe_int (fun _ _ => rfl))))) pa_nil)))))
      (pss_cons (ps_for PassesOwn.never rfl (pi_tup (pv 0)) (pg_name (i := 4) sc__menu_of.nd rfl (Or.inr rfl)) (pss_one (ps_expr (pe_bm PySem.F.plainAttrs_list PySem.F.slot_list_extend PySem.F.type_list_extend mt_extend (pv 2) (pa_cons (pe_lc (own := [("word", 5)]) (g := gName 5) (by rfl) sc__menu_of.nd (pi_tup (glob_ref G.KIND_CHECKS)) (blkOk_by (own := [("word", 5)]) (N := N__menu_of) (sc := defScope s__menu_of) (by decide +kernel)) (fun _ _ _ _ _ => (pg_name (i := 5) sc__menu_of.nd rfl (Or.inl rfl) (Or.inr rfl))) (fun _ _ _ _ _ => pts_nil) (fun _ _ _ _ _ => (pe_op op_add_str (pe_op op_add_str (pv 5) pe_str) (pe_ix (ixT K) (pv 4) pe_int (fun _ _ => rfl))))) pa_nil)))))
      (pss_cons (ps_expr (pe_bm PySem.F.plainAttrs_list PySem.F.slot_list_extend PySem.F.type_list_extend (mt_extK K) (pv 2) (pa_cons (glob_ref G.BOOK_CHECKS) pa_nil)))
      (pss_one (ps_ret (pe_callTy (tuple_of K) (by rfl) T.m_tuple (by decide +kernel) (pa_cons (pv 2) pa_nil)))))))), ?_⟩
    refine ⟨Nat.zero_le _, fun p hp => ?_⟩
    have s0 : Same H (upd H p (.lst [])) := same_new hp
    walk_at "ls"
    refine ⟨⟨_, .inl (.inl (s0 _ _ hca))⟩, ?_⟩
    refine for_it (walk_tup (xs := cx)) (fun i σ H1 => ∃ v : Option V, σ = [some (.ref ka), some (.ref ca), some (.ref p), v, none, none] ∧ H1 p = some (.lst (((cn.take i).flatMap (withN colW)).map V.str)) ∧ Same H H1)
      ⟨none, rfl, upd_same, s0⟩ (fun i σ H1 _ ⟨_, _, _, s1⟩ => .inl (.inl (s1 _ _ hca))) ?_ ?_
    · rintro i x σ Hz H1 hi ⟨v, rfl, h1, s1⟩ ⟨rfl, hx⟩
      obtain ⟨ys, hys, t, rfl, ht⟩ := TupsAt.get (hct.keep (.same s1)) hx
      obtain ⟨c, hc, rfl⟩ := map_get hys
      obtain ⟨z, hz, ecz⟩ := names_at ecn hc
      have hnm : z.length ≤ 8 := nc _ (List.mem_of_getElem? hz)
      unfold colU at ht
      rw [ecz] at ht
      walk_at "ls"
      refine ⟨⟨_, G.kCOL.sq _⟩, fun D hD => ?_⟩
      have npD : p ≠ D := ne_of_none h1 hD
      have ntD : t ≠ D := ne_of_none ht hD
      refine lc_pure (walk_tup (xs := colW.map V.str)) (colW.map V.str) (addN z) rfl (fun i H x H' hi hy => hy) (by decide +kernel) (fun acc => G.kCOL.sq _) (fun k y hk hy => ?_) ?_
      · obtain ⟨a, ha, rfl⟩ := map_get hy
        have hal : a.length ≤ 5 := colW_len a (List.mem_of_getElem? ha)
        refine ⟨rfl, ?_⟩
        walk_at "ls"
        refine ⟨room_str (m := 1) hal (by decide +kernel) (by decide), ?_⟩
        walk_at "ls"
        refine ⟨room_str (n := 6) (m := 8) (word_len hal) hnm (by decide), ?_⟩
        exact lc_yes hy hk (by decide +kernel) rfl
      rw [addN_all]
      refine ⟨_, _, _, _, rfl, rfl, (by rw [upd_ne npD]; exact h1), upd_same, ?_, ?_⟩
      · rw [List.length_map, List.length_map, flat_len _ 5 (fun c => by rw [withN, List.length_map]; rfl), withN, List.length_map, List.length_take]
        show 5 * _ + 5 ≤ sizeLine
        exact Nat.le_trans (by omega) (show 10000 ≤ sizeLine by decide)
      · refine ⟨_, rfl, ?_, ?_⟩
        · rw [upd_same, flat_snocU hz, List.map_append]
        · exact Same.set (s1.trans (same_new hD)) hp
    · rintro σ H1 ⟨v, rfl, h1, s1⟩
      have e1 : cn.take cx.length = cn := by
        have := hct.len
        rw [List.length_map] at this
        rw [this, lcs, List.take_length]
      rw [e1] at h1
      walk_at "ls"
      refine ⟨⟨_, .inl (.inl (s1 _ _ hka))⟩, ?_⟩
      refine for_it (walk_tup (xs := kx)) (fun i σ H1 => ∃ v v3 : Option V, σ = [some (.ref ka), some (.ref ca), some (.ref p), v, v3, none] ∧ H1 p = some (.lst ((cn.flatMap (withN colW) ++ (kn.take i).flatMap (withN kindW)).map V.str)) ∧ Same H H1)
        ⟨v, none, rfl, (by rw [List.take_zero, List.flatMap_nil, List.append_nil]; exact h1), s1⟩ (fun i σ H1 _ ⟨_, _, _, _, s1⟩ => .inl (.inl (s1 _ _ hka))) ?_ ?_
      · clear h1 s1 v
        rintro i x σ Hz H1 hi ⟨v, v3, rfl, h1, s1⟩ ⟨rfl, hx⟩
        obtain ⟨ys, hys, t, rfl, ht⟩ := TupsAt.get (hkt.keep (.same s1)) hx
        obtain ⟨c, hc, rfl⟩ := map_get hys
        obtain ⟨z, hz, ecz⟩ := names_at ekn hc
        have hnm : z.length ≤ 8 := nk _ (List.mem_of_getElem? hz)
        rw [ecz] at ht
        walk_at "ls"
        refine ⟨⟨_, G.kKIND.sq _⟩, fun D hD => ?_⟩
        have npD : p ≠ D := ne_of_none h1 hD
        have ntD : t ≠ D := ne_of_none ht hD
        refine lc_pure (walk_tup (xs := kindW.map V.str)) (kindW.map V.str) (addN z) rfl (fun i H x H' hi hy => hy) (by decide +kernel) (fun acc => G.kKIND.sq _) (fun k y hk hy => ?_) ?_
        · obtain ⟨a, ha, rfl⟩ := map_get hy
          have hal : a.length ≤ 5 := kindW_len a (List.mem_of_getElem? ha)
          refine ⟨rfl, ?_⟩
          walk_at "ls"
          refine ⟨room_str (m := 1) hal (by decide +kernel) (by decide), ?_⟩
          walk_at "ls"
          refine ⟨room_str (n := 6) (m := 8) (word_len hal) hnm (by decide), ?_⟩
          exact lc_yes hy hk (by decide +kernel) rfl
        rw [addN_all]
        refine ⟨_, _, _, _, rfl, rfl, (by rw [upd_ne npD]; exact h1), upd_same, ?_, ?_⟩
        · rw [List.length_map, List.length_append, List.length_map, flat_len _ 5 (fun c => by rw [withN, List.length_map]; rfl), flat_len _ 3 (fun c => by rw [withN, List.length_map]; rfl), withN, List.length_map, List.length_take]
          show 5 * _ + 3 * _ + 3 ≤ sizeLine
          exact Nat.le_trans (by omega) (show 10000 ≤ sizeLine by decide)
        · refine ⟨_, _, rfl, ?_, ?_⟩
          · rw [upd_same, flat_snocU hz, List.map_append, List.map_append, List.map_append, List.append_assoc]
          · exact Same.set (s1.trans (same_new hD)) hp
      · clear h1 s1 v
        rintro σ H1 ⟨v, v3, rfl, h1, s1⟩
        have e2 : kn.take kx.length = kn := by
          have := hkt.len
          rw [List.length_map] at this
          rw [this, lks, List.take_length]
        rw [e2] at h1
        walk_at "ls"
        have em : (cn.flatMap (withN colW) ++ kn.flatMap (withN kindW)).map V.str ++ bookW.map V.str = (menuU kn cn).map V.str := by
          unfold menuU
          rw [List.map_append (l₂ := bookW)]
        have lm : ((menuU kn cn).map V.str).length ≤ 10000 := by
          rw [List.length_map, menuU_len]
          omega
        refine ⟨_, _, _, _, rfl, rfl, h1, G.kBOOK, ?_, ?_⟩
        · rw [← List.length_append, em]
          exact Nat.le_trans lm (show 10000 ≤ sizeLine by decide)
        rw [em]
        have s2 : Same H (upd H1 p (.lst ((menuU kn cn).map V.str))) := Same.set s1 hp
        walk_at "ls"
        refine ⟨p, _, rfl, .inl ⟨.inl (.inl upd_same), fun l hl => ?_⟩⟩
        exact q _ l upd_same (s2.trans (same_new hl))
/-! ### _read_checks -/
abbrev s__read_checks : Stmt := topS 29
theorem sc__read_checks : FnScope ["checks", "menu", "given", "check"] ["checks", "menu"] (defScope s__read_checks) := ⟨rfl, rfl, rfl, by decide +kernel, rfl, by decide +kernel, by decide +kernel⟩
abbrev N__read_checks : List Str := ["checks", "menu", "given", "check"]
/-- the first check that is none -/
def checksErr (mn : List Str) (ck : List V) : Option V := ck.find? fun v => !isWordV mn v
theorem checks_strs {mn : List Str} : ∀ {ck : List V}, (∀ v ∈ ck, isWordV mn v = true) → ck = (ck.map strOf).map V.str
  | [], _ => rfl
  | v :: r, h => by
    rw [List.map_cons, List.map_cons, ← word_str (h v (.head _)), ← checks_strs fun u hu => h u (.tail _ hu)]
def spReadX (K : PySem.W.Frag) (cX : Addr) : Sp := fun vs H Q E => ∃ (a b : Addr) (ck : List V) (mn : List Str), vs = [.ref a, .ref b] ∧ SqU K H a ck ∧ (∀ v ∈ ck, Thg K H v) ∧ H b = some (.tup (mn.map V.str)) ∧ ck.length ≤ 1000 ∧ mn.length ≤ 10000 ∧
  match checksErr mn ck with
  | some v => oneE cX "check" H E v
  | none => ∀ (H' : Hp) (p : Addr), H' p = some (.tup ((mn.filter fun z => decide (z ∈ ck.map strOf)).map V.str)) → Same H H' → Q (.ref p) H'
theorem ok_readX {f : Addr} {fd : FuncData} {cX : Addr} (F : Fun K "_read_checks" "_read_checks" s__read_checks f fd) (T : Bt mg) (O_is_word_of : Own P w K mg base CX0 1 "is_word_of" ["thing", "words"] (spWord K))
    (O_UnknownCheck : OwnX P w K mg base "UnknownCheck" ["check"] (spI1 cX "check") cX) : FnOk P w K mg base (L2.CX P w) 4 f fd ["checks", "menu"] (spReadX K cX) := by
  refine F.okX sc__read_checks (fun vs H Q E h => ?_) (fun cdv A outer s H vs Q E hr h => ?_)
  · obtain ⟨a, b, ck, mn, rfl, _⟩ := h
    rfl
  · obtain ⟨a, b, ck, mn, rfl, ha, ht, hb, lc, lm, q⟩ := h
    have hu := hu_of hr
    refine ⟨_, (pss_cons (ps_set (i := 2) sc__read_checks.nd rfl (Or.inr rfl) (pe_callTy (list_of K) (by rfl) T.m_list (by decide +kernel) (pa_cons (pv 0) pa_nil)))
      (pss_cons (ps_for own_def rfl (pi_list (pv 2)) (pg_name (i := 3) sc__read_checks.nd rfl (Or.inl rfl)) (pss_one (ps_if (pt_not (pt_val (own_call O_is_word_of hr (by first | decide | omega) (pa_cons (pv 3) (pa_cons (pv 1) pa_nil))))) (pss_one (ps_err rfl takes_def (pmk_err1 O_UnknownCheck (hr.mono (by decide)) (pa_cons (pv 3) pa_nil)))) pss_nil)))
      (pss_one (ps_ret (pe_callTy (tuple_of K) (by rfl) T.m_tuple (by decide +kernel) (pa_cons (pe_lc (own := [("check", 3)]) (g := gName 3) (by rfl) sc__read_checks.nd (pi_tup (pv 1)) (blkOk_by (own := [("check", 3)]) (N := N__read_checks) (sc := defScope s__read_checks) (by decide +kernel)) (fun _ _ _ _ _ => (pg_name (i := 3) sc__read_checks.nd rfl (Or.inl rfl) (Or.inr rfl))) (fun _ _ _ _ _ => (pts_one (pt_cmpR (in_seq K) (pv 3) (pv 2) (by rfl)))) (fun _ _ _ _ _ => (pv 3))) pa_nil)))))), ?_⟩
    walk_at "ls"
    refine ⟨a, ck, rfl, ha, fun g hg => ?_⟩
    have s0 : Same H (upd H g (.lst ck)) := same_new hg
    walk_at "ls"
    refine ⟨⟨_, .inl (.inl upd_same)⟩, ?_⟩
    refine for_it (walk_list (xs := ck)) (fun i σ H1 => ∃ v : Option V, σ = [some (.ref a), some (.ref b), some (.ref g), v] ∧ H1 = upd H g (.lst ck) ∧ ∀ u ∈ ck.take i, isWordV mn u = true)
      ⟨none, rfl, rfl, fun u hu => by rw [List.take_zero] at hu; cases hu⟩ (fun i σ H1 _ ⟨_, _, e, _⟩ => .inl (.inl (by rw [e]; exact upd_same))) ?_ ?_
    · rintro i x σ Hz H1 hi ⟨v, rfl, e1, hw⟩ ⟨rfl, hx⟩
      have sH : Same H H1 := by rw [e1]; exact s0
      walk_at "ls"
      refine ⟨x, b, mn, rfl, (ht x (List.mem_of_getElem? hx)).same sH, .inr (.inl (.inl (sH _ _ hb))), ?_⟩
      refine ⟨_, rfl, ?_⟩
      cases hx1 : isWordV mn x with
      | true =>
        refine iteF ⟨_, rfl, e1, fun u hu => ?_⟩
        rw [List.take_add_one, hx] at hu
        rcases List.mem_append.mp hu with hu | hu
        · exact hw u hu
        · have e := List.mem_singleton.mp hu
          rw [e]
          exact hx1
      | false =>
        refine iteT ?_
        walk_at "ls"
        have e : checksErr mn ck = some x := by
          unfold checksErr
          rw [← List.take_append_drop i ck, List.find?_append, List.find?_eq_none.mpr (fun u hu => by rw [hw u hu]; decide)]
          obtain ⟨hi2, e2⟩ := List.getElem?_eq_some_iff.mp hx
          rw [List.drop_eq_getElem_cons hi2, e2, List.find?_cons, hx1]
          rfl
        rw [e] at q
        exact fun d hd => q _ d sH hd
    · rintro σ H1 ⟨v, rfl, e1, hw⟩
      subst e1
      rw [List.take_length] at hw
      have e : checksErr mn ck = none := List.find?_eq_none.mpr fun u hu => by rw [hw u hu]; decide
      rw [e] at q
      have es := checks_strs hw
      generalize ck.map strOf = cz at es q
      subst es
      walk_at "ls"
      have hb1 := s0 _ _ hb
      refine ⟨⟨_, .inl (.inl hb1)⟩, fun D hD => ?_⟩
      have nbD : b ≠ D := ne_of_none hb1 hD
      have ngD : g ≠ D := ne_of_none upd_same hD
      have lz : (mn.map V.str).length < sizeLine := Nat.lt_of_le_of_lt (by rw [List.length_map]; exact lm) (show 10000 < sizeLine by decide)
      refine lc_pure (walk_tup (xs := mn.map V.str)) (mn.map V.str) (onlyIn cz) rfl (fun i H x H' hi hy => hy) lz (fun acc => .inl (.inl (by rw [upd_ne nbD]; exact hb1))) (fun k y hk hy => ?_) ?_
      · obtain ⟨z, hz, rfl⟩ := map_get hy
        refine ⟨rfl, ?_⟩
        walk_at "ls"
        refine ⟨g, _, rfl, .inl (.inl (.inl (by rw [upd_ne ngD]; exact upd_same))), rfl, all_flat cz, _, rfl, ?_⟩
        show if inV (V.str z) (cz.map V.str) = true then _ else _
        rw [in_strs]
        refine ite2 (fun e => ?_) (fun e => ?_)
        · walk_at "ls"
          exact lc_yes hy hk lz (by unfold onlyIn; rw [in_strs]; simpa using e)
        · exact lc_no hy (by unfold onlyIn; rw [in_strs]; simpa using e)
      rw [onlyIn_all]
      refine ⟨D, _, rfl, .inl ⟨.inl (.inl upd_same), fun l hl => ?_⟩⟩
      exact q _ l upd_same ((s0.trans (same_new hD)).trans (same_new hl))
end
end Ls
namespace Ls
open PySem PySem.Spec PyProof.Rows L2
/-! ### short steps -/
local macro_rules | `(tactic| walk_at "ls_ne") => `(tactic| first | assumption | exact Ne.symm (by assumption) | exact ne_of_none (by assumption) (by assumption) | exact Ne.symm (ne_of_none (by assumption) (by assumption)))
local macro_rules | `(tactic| walk_at "ls_hp") => `(tactic| first
  | with_reducible assumption
  | exact upd_same
  | exact Eq.trans (upd_ne (by walk_at "ls_ne")) (by walk_at "ls_hp"))
local macro_rules | `(tactic| walk_at "ls_st") => `(tactic| first
  | with_reducible assumption
  | exact Stm.upd (by walk_at "ls_st") (by first | walk_at "ls_ne" | exact (Stm.noneS (by assumption) (by assumption)).1) (by first | walk_at "ls_ne" | exact (Stm.noneS (by assumption) (by assumption)).2))
local macro_rules | `(tactic| walk_at "ls1") => `(tactic| first
  | refine ⟨_, rfl, ?_⟩
  | refine ⟨_, _, rfl, rfl, ?_⟩
  | refine ⟨_, _, _, _, rfl, rfl, .inl (.inl (by walk_at "ls_hp")), rfl, ?_⟩
  | refine ⟨_, _, _, _, rfl, rfl, (by walk_at "ls_hp"), rfl, ?_⟩
  | refine ⟨rfl, _, rfl, ?_⟩
  | refine ⟨.inl ⟨rfl, _, .inl (.inl (by walk_at "ls_hp"))⟩, ?_⟩)
local macro_rules | `(tactic| walk_at "ls") => `(tactic| repeat (walk_at "ls1"))

/-- as FunE.ok, for a def that may raise -/
theorem FunE.okX {P : Program} {w : World} {K : PySem.W.Frag} {mg : Str → Option Value} {base : Heap} {x qual : Str} {st : Stmt} {f : Addr} {fd : FuncData} {N ps : List Str} {k : Nat} {sp : Sp} (F : FunE K x qual st f fd) (S : FnScope N ps (defScope st))
    (len : ∀ vs H Q E, sp vs H Q E → vs.length = ps.length)
    (body : ∀ (cdv : Value) (A : Around) (outer : List Env) (s : Shared) (H : Hp) (vs : List V) (Q : VK) (E : XK), Room k (A.deeper (envOfC qual (defScope st) s.heap.objs.size f cdv)) → sp vs H Q E →
      ∃ t, PSs (cxOf (L2.CX P w) P w K mg base N qual (defScope st) f cdv A outer s H E) (defBody st) t ∧ t { nx := fun _ H' => Q .non H', rt := Q } (start N vs) H) : FnOk P w K mg base (L2.CX P w) (k + 1) f fd ps sp := by
  obtain ⟨oc, od, dV, kV, doc, pm, an, cdv, ct, osl, rfl, lk, hcd⟩ := F.ex
  exact fn_of lk hcd S len fun A outer s H vs Q E hr hsp => body cdv A outer s H vs Q E hr hsp
/-! ### a book -/
def bookF (k c m x : Addr) : List (Str × V) := putF "_checks" (.ref x) (putF "_menu" (.ref m) (putF "_columns" (.ref c) (putF "_kinds" (.ref k) [])))
theorem b12 : ¬ (("_kinds" : Str) = "_columns") := by decide +kernel
theorem b13 : ¬ (("_kinds" : Str) = "_menu") := by decide +kernel
theorem b14 : ¬ (("_kinds" : Str) = "_checks") := by decide +kernel
theorem b23 : ¬ (("_columns" : Str) = "_menu") := by decide +kernel
theorem b24 : ¬ (("_columns" : Str) = "_checks") := by decide +kernel
theorem b34 : ¬ (("_menu" : Str) = "_checks") := by decide +kernel
theorem bookF_k {k c m x : Addr} : (bookF k c m x).lookup ("_kinds" : Str) = some (.ref k) := by
  unfold bookF
  rw [lookup_putF, if_neg b14, lookup_putF, if_neg b13, lookup_putF, if_neg b12, lookup_putF, if_pos rfl]
theorem bookF_c {k c m x : Addr} : (bookF k c m x).lookup ("_columns" : Str) = some (.ref c) := by
  unfold bookF
  rw [lookup_putF, if_neg b24, lookup_putF, if_neg b23, lookup_putF, if_pos rfl]
theorem bookF_m {k c m x : Addr} : (bookF k c m x).lookup ("_menu" : Str) = some (.ref m) := by
  unfold bookF
  rw [lookup_putF, if_neg b34, lookup_putF, if_pos rfl]
theorem bookF_x {k c m x : Addr} : (bookF k c m x).lookup ("_checks" : Str) = some (.ref x) := by
  unfold bookF
  rw [lookup_putF, if_pos rfl]
theorem bookF_no {k c m x : Addr} {f : Str} (h1 : ¬ f = "_checks") (h2 : ¬ f = "_menu") (h3 : ¬ f = "_columns") (h4 : ¬ f = "_kinds") : (bookF k c m x).lookup f = none := by
  unfold bookF
  rw [lookup_putF, if_neg h1, lookup_putF, if_neg h2, lookup_putF, if_neg h3, lookup_putF, if_neg h4]
  rfl
def knOf (ks : List (V × V)) : List Str := ks.map fun k => strOf k.1
def cnOf (cs : List Col) : List Str := cs.map fun c => strOf c.1
/-- at o: a book with the kinds ks, the columns cs, the checks ck -/
structure BookU (C : Addr) (H : Hp) (o : Addr) (ks : List (V × V)) (cs : List Col) (ck : List Str) : Prop where
  ex : ∃ (dx k c m x : Addr) (kx cx : List V), H o = some (.ins C dx (bookF k c m x)) ∧ H k = some (.tup kx) ∧ TupsAt H kx (ks.map fun k => [k.1, k.2]) ∧ H c = some (.tup cx) ∧ TupsAt H cx (cs.map colU) ∧
    H m = some (.tup ((menuU (knOf ks) (cnOf cs)).map V.str)) ∧ H x = some (.tup (ck.map V.str))
theorem BookU.same {C : Addr} {H H' : Hp} {o : Addr} {ks : List (V × V)} {cs : List Col} {ck : List Str} (h : BookU C H o ks cs ck) (s : Same H H') : BookU C H' o ks cs ck := by
  obtain ⟨dx, k, c, m, x, kx, cx, h1, h2, h3, h4, h5, h6, h7⟩ := h
  exact ⟨dx, k, c, m, x, kx, cx, s _ _ h1, s _ _ h2, h3.keep (.same s), s _ _ h4, h5.keep (.same s), s _ _ h6, s _ _ h7⟩
/-- what is asked of the class -/
structure BkT (K : PySem.W.Frag) (C : Addr) : Prop where
  cl : Cls K C
  nk : NoAttr K C "_kinds"
  nc : NoAttr K C "_columns"
  nm : NoAttr K C "_menu"
  nx : NoAttr K C "_checks"
/-! ### what is wrong of a book's parts -/
inductive BkE
  | col (e : ColE)
  | check (v : V)
structure ErrA where
  name : Addr
  used : Addr
  kind : Addr
  rule : Addr
  check : Addr
/-- its class, its field, its value -/
def BkE.what (A : ErrA) : BkE → Addr × Str × V
  | .col (.name b v) => (if b = true then A.used else A.name, "name", v)
  | .col (.kind v) => (A.kind, "kind", v)
  | .col (.rule v) => (A.rule, "rule", v)
  | .check v => (A.check, "check", v)
def bookErr (ks : List (V × V)) (cs : List Col) (ck : List V) : Option BkE := match kindsErr [] ks with
  | some e => some (.col (.name e.1 e.2))
  | none => match colsErr (knOf ks) [] cs with
    | some e => some (.col e)
    | none => match checksErr (menuU (knOf ks) (cnOf cs)) ck with
      | some v => some (.check v)
      | none => none
theorem kinds_good : ∀ {ks : List (V × V)} {taken : List Str}, kindsErr taken ks = none → ks.map (·.1) = (knOf ks).map V.str ∧ ∀ z ∈ knOf ks, isNameB z = true
  | [], _, _ => ⟨rfl, fun z hz => by cases hz⟩
  | k :: r, taken, h => by
    unfold kindsErr at h
    cases hn : nameErr taken k.1 with
    | some b => rw [hn] at h; cases h
    | none =>
      rw [hn] at h
      obtain ⟨e, g⟩ := kinds_good h
      obtain ⟨n1, _⟩ := nameErr_none hn
      have ek := name_str n1
      refine ⟨?_, fun z hz => ?_⟩
      · show k.1 :: r.map (·.1) = V.str (strOf k.1) :: (knOf r).map V.str
        rw [← ek, e]
      · rcases List.mem_cons.mp hz with rfl | hz
        · rw [ek] at n1
          exact n1
        · exact g z hz
theorem cols_good {kn : List Str} : ∀ {cs : List Col} {taken : List Str}, colsErr kn taken cs = none → cs.map (·.1) = (cnOf cs).map V.str ∧ ∀ z ∈ cnOf cs, isNameB z = true
  | [], _, _ => ⟨rfl, fun z hz => by cases hz⟩
  | c :: r, taken, h => by
    unfold colsErr at h
    cases hc : colErr kn taken c with
    | some b => rw [hc] at h; cases h
    | none =>
      rw [hc] at h
      obtain ⟨e, g⟩ := cols_good h
      unfold colErr at hc
      cases hn : nameErr (kn ++ taken) c.1 with
      | some b => rw [hn] at hc; cases hc
      | none =>
        obtain ⟨n1, _⟩ := nameErr_none hn
        have ek := name_str n1
        refine ⟨?_, fun z hz => ?_⟩
        · show c.1 :: r.map (·.1) = V.str (strOf c.1) :: (cnOf r).map V.str
          rw [← ek, e]
        · rcases List.mem_cons.mp hz with rfl | hz
          · rw [ek] at n1
            exact n1
          · exact g z hz
theorem name_len {z : Str} (h : isNameB z = true) : z.length ≤ 8 := by
  unfold isNameB at h
  simp only [Bool.and_eq_true, decide_eq_true_eq] at h
  exact h.1.2.2
/-! ### all but o stays -/
def But (o : Addr) (H H' : Hp) : Prop := ∀ b u, b ≠ o → H b = some u → H' b = some u
theorem But.same {o : Addr} {H H' : Hp} (s : Same H H') : But o H H' := fun b u _ e => s b u e
theorem But.trans {o : Addr} {H H1 H2 : Hp} (a : But o H H1) (b : But o H1 H2) : But o H H2 := fun c u h e => b c u h (a c u h e)
theorem But.set {o : Addr} {H : Hp} {u : HO} : But o H (upd H o u) := fun b u h e => by rw [upd_ne h]; exact e
theorem But.tk {o C dx : Addr} {H H' : Hp} {fs : List (Str × V)} (b : But o H H') (h : H o = some (.ins C dx fs)) : TK H H' := fun t ys e => b t _ (ne_of e h fun z => nomatch z) e
/-- .. and o stays an instance -/
structure ButI (o C dx : Addr) (H H' : Hp) : Prop where
  but : But o H H'
  was : ∃ fs, H o = some (.ins C dx fs)
  is : ∃ fs, H' o = some (.ins C dx fs)
section
variable {K : PySem.W.Frag} {o C dx a : Addr} {H H' : Hp} {xs : List V} {v : V} {t : Value}
theorem ButI.rd (b : ButI o C dx H H') {u : HO} (hu : ∀ C dx fs, u ≠ .ins C dx fs) (h : Rd H a u) : Rd H' a u := by
  obtain ⟨fs, hw⟩ := b.was
  rcases h with h | ⟨ob, h⟩
  · exact .inl (b.but _ _ (ne_of h hw (hu _ _ _)) h)
  · exact .inr ⟨ob, b.but _ _ (ne_of h hw fun z => nomatch z) h⟩
theorem ButI.sqU (b : ButI o C dx H H') (h : SqU K H a xs) : SqU K H' a xs :=
  h.elim (fun z => .inl (z.elim (fun y => .inl (b.rd (fun _ _ _ z => nomatch z) y)) .inr)) fun z => .inr (z.elim (fun y => .inl (b.rd (fun _ _ _ z => nomatch z) y)) .inr)
theorem ButI.rows (b : ButI o C dx H H') : ∀ {xs : List V} {yss : List (List V)}, RowsAt K H xs yss → RowsAt K H' xs yss
  | _, _, .nil => .nil
  | _, _, .cons ⟨t, e, q⟩ r => .cons ⟨t, e, b.sqU q⟩ (ButI.rows b r)
theorem ButI.ty (b : ButI o C dx H H') (h : TyX K H v t) : TyX K H' v t := by
  obtain ⟨fs, hw⟩ := id b.was
  have k : ∀ {a : Addr} {u : HO}, (∀ C dx fs, u ≠ .ins C dx fs) → H a = some u → H' a = some u := fun {a u} n e => b.but _ _ (ne_of e hw (n _ _ _)) e
  cases h with
  | base h =>
    refine .base ?_
    cases h with
    | non => exact .non
    | bl x => exact .bl x
    | int i => exact .int i
    | str x => exact .str x
    | flt x => exact .flt x
    | lst e => exact .lst (k (fun _ _ _ z => nomatch z) e)
    | frz e => exact .frz (k (fun _ _ _ z => nomatch z) e)
    | tup e => exact .tup (k (fun _ _ _ z => nomatch z) e)
    | dK e => exact .dK (k (fun _ _ _ z => nomatch z) e)
    | dT e => exact .dT (k (fun _ _ _ z => nomatch z) e)
    | @ins a2 C2 dx2 fs2 e cl ha hn htk hm =>
      by_cases hb : a2 = o
      · subst hb
        rw [hw] at e
        cases e
        obtain ⟨fs3, hi⟩ := b.is
        exact .ins hi cl ha hn htk hm
      · exact .ins (b.but _ _ hb e) cl ha hn htk hm
  | byt x => exact .byt x
  | set e => exact .set (k (fun _ _ _ z => nomatch z) e)
  | kList e c => exact .kList e c
  | kTuple e c => exact .kTuple e c
  | kDict e c => exact .kDict e c
  | fTuple e => exact .fTuple (k (fun _ _ _ z => nomatch z) e)
  | fDict e => exact .fDict (k (fun _ _ _ z => nomatch z) e)
theorem ButI.thg (b : ButI o C dx H H') (h : Thg K H v) : Thg K H' v := h.elim .inl fun ⟨⟨t, x, y⟩, z⟩ => .inr ⟨⟨t, b.ty x, y⟩, z⟩
end
section
variable {P : Program} {w : World} {K : PySem.W.Frag} {mg : Str → Option Value} {base : Heap}
/-! ### Book.__init__ -/
abbrev s_Book_init : Stmt := inClass (topS 23) 0
theorem sc_Book_init : FnScope ["self", "kinds", "columns", "checks"] ["self", "kinds", "columns", "checks"] (defScope s_Book_init) := ⟨rfl, rfl, rfl, by decide +kernel, rfl, by decide +kernel, by decide +kernel⟩
abbrev N_Book_init : List Str := ["self", "kinds", "columns", "checks"]
def spInit (K : PySem.W.Frag) (C : Addr) (A : ErrA) : Sp := fun vs H Q E => ∃ (o dx ka ca xa : Addr) (kx cx ck : List V) (ks : List (V × V)) (cs : List Col), vs = [.ref o, .ref ka, .ref ca, .ref xa] ∧ H o = some (.ins C dx []) ∧
  SqU K H ka kx ∧ RowsAt K H kx (ks.map fun k => [k.1, k.2]) ∧ SqU K H ca cx ∧ RowsAt K H cx (cs.map colU) ∧ SqU K H xa ck ∧ (∀ k ∈ ks, Thg K H k.1) ∧ (∀ c ∈ cs, Thg K H c.1 ∧ Thg K H c.2.1 ∧ Thg K H c.2.2.1 ∧ Thg K H c.2.2.2) ∧ (∀ v ∈ ck, Thg K H v) ∧
  ks.length ≤ 1000 ∧ cs.length ≤ 1000 ∧ ck.length ≤ 1000 ∧
  match bookErr ks cs ck with
  | some e => ∀ H' d, But o H H' → H' d = none → E (.ref (e.what A).1) (some d) (upd H' d (.xd [((e.what A).2.1, (e.what A).2.2)]))
  | none => ∀ H' : Hp, BookU C H' o ks cs ((menuU (knOf ks) (cnOf cs)).filter fun z => decide (z ∈ ck.map strOf)) → But o H H' → Q .non H'
theorem ok_init {C : Addr} {A : ErrA} {f : Addr} {fd : FuncData} (F : FunE K "__init__" "Book.__init__" s_Book_init f fd) (T : BkT K C) (O__read_kinds : OwnR P w K mg base 4 "_read_kinds" ["kinds"] (spReadK K A.name A.used)) (O__read_columns : OwnR P w K mg base 4 "_read_columns" ["columns", "kinds"] (spReadC K A.name A.used A.kind A.rule))
    (O__menu_of : Own P w K mg base CX0 1 "_menu_of" ["kinds", "columns"] spMenu) (O__read_checks : OwnR P w K mg base 4 "_read_checks" ["checks", "menu"] (spReadX K A.check)) : FnOk P w K mg base (L2.CX P w) 5 f fd ["self", "kinds", "columns", "checks"] (spInit K C A) := by
  refine F.okX sc_Book_init (fun vs H Q E h => ?_) (fun cdv A' outer s H vs Q E hr h => ?_)
  · obtain ⟨o, dx, ka, ca, xa, kx, cx, ck, ks, cs, rfl, _⟩ := h
    rfl
  · obtain ⟨o, dx, ka, ca, xa, kx, cx, ck, ks, cs, rfl, ho, hka, hkt, hca, hct, hxa, tk, tc, tx, lk, lc, lx, q⟩ := h
    have hu := hu_of hr
    refine ⟨_, (pss_cons (ps_fld (pv 0) (own_callR O__read_kinds hr (by first | decide | omega) takes_def (pa_cons (pv 1) pa_nil)) rfl)
      (pss_cons (ps_fld (pv 0) (own_callR O__read_columns hr (by first | decide | omega) takes_def (pa_cons (pv 2) (pa_cons (pe_fld (pv 0) rfl) pa_nil))) rfl)
      (pss_cons (ps_fld (pv 0) (own_call O__menu_of hr (by first | decide | omega) (pa_cons (pe_fld (pv 0) rfl) (pa_cons (pe_fld (pv 0) rfl) pa_nil))) rfl)
      (pss_one (ps_fld (pv 0) (own_callR O__read_checks hr (by first | decide | omega) takes_def (pa_cons (pv 3) (pa_cons (pe_fld (pv 0) rfl) pa_nil))) rfl))))), ?_⟩
    unfold bookErr at q
    walk_at "ls"
    refine ⟨ka, kx, ks, rfl, hka, hkt, tk, lk, ?_⟩
    cases hk : kindsErr [] ks with
    | some e =>
      rw [hk] at q
      exact fun H' d s' n => q H' d (.same s') n
    | none =>
    rw [hk] at q
    simp only at q
    obtain ⟨ekn, gkn⟩ := kinds_good hk
    intro H1 k ys h1k h1t s1
    have h1o := s1 _ _ ho
    refine ⟨_, rfl, o, C, dx, [], rfl, h1o, T.cl, T.nk, (by show 0 < 1000; decide), ?_⟩
    refine at_heap (φ := fun H2 => H2 o = some (.ins C dx (putF "_kinds" (.ref k) [])) ∧ But o H H2 ∧ H2 k = some (.tup ys) ∧ TupsAt H2 ys (ks.map fun k => [k.1, k.2]))
      ⟨upd_same, (But.same s1).trans .set, But.set (o := o) _ _ (ne_of h1k h1o fun z => nomatch z) h1k, h1t.keep ((But.set (o := o)).tk h1o)⟩ ?_
    rintro H2 ⟨h2o, bt2, h2k, h2t⟩
    have bi2 : ButI o C dx H H2 := ⟨bt2, ⟨_, ho⟩, ⟨_, h2o⟩⟩
    walk_at "ls"
    have l1 : (putF "_kinds" (.ref k) []).lookup ("_kinds" : Str) = some (V.ref k) := by rw [lookup_putF, if_pos rfl]
    refine ⟨o, C, dx, _, _, rfl, h2o, T.cl, T.nk, l1, ?_⟩
    refine ⟨ca, k, cx, ys, cs, ks, knOf ks, rfl, bi2.sqU hca, bi2.rows hct, h2k, h2t, ekn, fun c hc => ?_, lc, lk, ?_⟩
    · obtain ⟨a, b, c', d⟩ := tc c hc
      exact ⟨bi2.thg a, bi2.thg b, bi2.thg c', bi2.thg d⟩
    cases hc : colsErr (knOf ks) [] cs with
    | some e =>
      rw [hc] at q
      cases e with
      | name b v => exact fun H' d s' n => q H' d (bt2.trans (.same s')) n
      | kind v => exact fun H' d s' n => q H' d (bt2.trans (.same s')) n
      | rule v => exact fun H' d s' n => q H' d (bt2.trans (.same s')) n
    | none =>
    rw [hc] at q
    simp only at q
    obtain ⟨ecn, gcn⟩ := cols_good hc
    intro H3 c zs h3c h3t s3
    have h3o := s3 _ _ h2o
    refine ⟨_, rfl, o, C, dx, _, rfl, h3o, T.cl, T.nc, (by show 1 < 1000; decide), ?_⟩
    have set3 : But o H3 (upd H3 o (.ins C dx (putF "_columns" (.ref c) (putF "_kinds" (.ref k) [])))) := .set
    refine at_heap (φ := fun H4 => H4 o = some (.ins C dx (putF "_columns" (.ref c) (putF "_kinds" (.ref k) []))) ∧ But o H H4 ∧ H4 k = some (.tup ys) ∧ TupsAt H4 ys (ks.map fun k => [k.1, k.2]) ∧ H4 c = some (.tup zs) ∧ TupsAt H4 zs (cs.map colU))
      ⟨upd_same, (bt2.trans (.same s3)).trans set3, set3 _ _ (ne_of (s3 _ _ h2k) h3o fun z => nomatch z) (s3 _ _ h2k), (h2t.keep (.same s3)).keep (set3.tk h3o), set3 _ _ (ne_of h3c h3o fun z => nomatch z) h3c, h3t.keep (set3.tk h3o)⟩ ?_
    clear h1k h1t s1 h1o h2k h2t h3c h3t s3 h3o set3 h2o bt2 bi2 l1
    rintro H4 ⟨h4o, bt4, h4k, h4kt, h4c, h4ct⟩
    have l1 : (putF "_columns" (.ref c) (putF "_kinds" (.ref k) [])).lookup ("_kinds" : Str) = some (V.ref k) := by rw [lookup_putF, if_neg b12, lookup_putF, if_pos rfl]
    have l2 : (putF "_columns" (.ref c) (putF "_kinds" (.ref k) [])).lookup ("_columns" : Str) = some (V.ref c) := by rw [lookup_putF, if_pos rfl]
    walk_at "ls"
    refine ⟨o, C, dx, _, _, rfl, h4o, T.cl, T.nk, l1, ?_⟩
    walk_at "ls"
    refine ⟨o, C, dx, _, _, rfl, h4o, T.cl, T.nc, l2, ?_⟩
    refine ⟨k, c, ys, zs, ks, cs, knOf ks, cnOf cs, rfl, h4k, h4kt, h4c, h4ct, ekn, ecn, (by unfold knOf; rw [List.length_map]; exact lk), (by unfold cnOf; rw [List.length_map]; exact lc), fun z hz => name_len (gkn z hz), fun z hz => name_len (gcn z hz), fun H5 m h5m s5 => ?_⟩
    have h5o := s5 _ _ h4o
    refine ⟨_, rfl, o, C, dx, _, rfl, h5o, T.cl, T.nm, (by show 2 < 1000; decide), ?_⟩
    have set5 : But o H5 (upd H5 o (.ins C dx (putF "_menu" (.ref m) (putF "_columns" (.ref c) (putF "_kinds" (.ref k) []))))) := .set
    refine at_heap (φ := fun H6 => H6 o = some (.ins C dx (putF "_menu" (.ref m) (putF "_columns" (.ref c) (putF "_kinds" (.ref k) [])))) ∧ But o H H6 ∧ H6 k = some (.tup ys) ∧ TupsAt H6 ys (ks.map fun k => [k.1, k.2]) ∧ H6 c = some (.tup zs) ∧ TupsAt H6 zs (cs.map colU) ∧ H6 m = some (.tup ((menuU (knOf ks) (cnOf cs)).map V.str)))
      ⟨upd_same, (bt4.trans (.same s5)).trans set5, set5 _ _ (ne_of (s5 _ _ h4k) h5o fun z => nomatch z) (s5 _ _ h4k), (h4kt.keep (.same s5)).keep (set5.tk h5o), set5 _ _ (ne_of (s5 _ _ h4c) h5o fun z => nomatch z) (s5 _ _ h4c), (h4ct.keep (.same s5)).keep (set5.tk h5o), set5 _ _ (ne_of h5m h5o fun z => nomatch z) h5m⟩ ?_
    clear h4o bt4 h4k h4kt h4c h4ct l1 l2 h5m s5 h5o set5
    rintro H6 ⟨h6o, bt6, h6k, h6kt, h6c, h6ct, h6m⟩
    have bi6 : ButI o C dx H H6 := ⟨bt6, ⟨_, ho⟩, ⟨_, h6o⟩⟩
    have l3 : (putF "_menu" (.ref m) (putF "_columns" (.ref c) (putF "_kinds" (.ref k) []))).lookup ("_menu" : Str) = some (V.ref m) := by rw [lookup_putF, if_pos rfl]
    walk_at "ls"
    refine ⟨o, C, dx, _, _, rfl, h6o, T.cl, T.nm, l3, ?_⟩
    have lm : (menuU (knOf ks) (cnOf cs)).length ≤ 10000 := by
      rw [menuU_len]
      unfold knOf cnOf
      rw [List.length_map, List.length_map]
      omega
    refine ⟨xa, m, ck, menuU (knOf ks) (cnOf cs), rfl, bi6.sqU hxa, fun v hv => bi6.thg (tx v hv), h6m, lx, lm, ?_⟩
    cases hx : checksErr (menuU (knOf ks) (cnOf cs)) ck with
    | some v =>
      rw [hx] at q
      exact fun H' d s' n => q H' d (bt6.trans (.same s')) n
    | none =>
    rw [hx] at q
    simp only at q
    intro H7 x h7x s7
    have h7o := s7 _ _ h6o
    refine ⟨_, rfl, o, C, dx, _, rfl, h7o, T.cl, T.nx, (by show 3 < 1000; decide), ?_⟩
    have set7 : But o H7 (upd H7 o (.ins C dx (bookF k c m x))) := .set
    exact q _ ⟨dx, k, c, m, x, ys, zs, upd_same, set7 _ _ (ne_of (s7 _ _ h6k) h7o fun z => nomatch z) (s7 _ _ h6k), (h6kt.keep (.same s7)).keep (set7.tk h7o), set7 _ _ (ne_of (s7 _ _ h6c) h7o fun z => nomatch z) (s7 _ _ h6c), (h6ct.keep (.same s7)).keep (set7.tk h7o),
      set7 _ _ (ne_of (s7 _ _ h6m) h7o fun z => nomatch z) (s7 _ _ h6m), set7 _ _ (ne_of h7x h7o fun z => nomatch z) h7x⟩ ((bt6.trans (.same s7)).trans set7)
end
end Ls
namespace Ls
open PySem PySem.Spec PyProof.Rows L2
/-! ### short steps -/
local macro_rules | `(tactic| walk_at "ls_ne") => `(tactic| first | assumption | exact Ne.symm (by assumption) | exact ne_of_none (by assumption) (by assumption) | exact Ne.symm (ne_of_none (by assumption) (by assumption)))
local macro_rules | `(tactic| walk_at "ls_hp") => `(tactic| first
  | with_reducible assumption
  | exact upd_same
  | exact Eq.trans (upd_ne (by walk_at "ls_ne")) (by walk_at "ls_hp"))
local macro_rules | `(tactic| walk_at "ls_st") => `(tactic| first
  | with_reducible assumption
  | exact Stm.upd (by walk_at "ls_st") (by first | walk_at "ls_ne" | exact (Stm.noneS (by assumption) (by assumption)).1) (by first | walk_at "ls_ne" | exact (Stm.noneS (by assumption) (by assumption)).2))
local macro_rules | `(tactic| walk_at "ls1") => `(tactic| first
  | refine ⟨_, rfl, ?_⟩
  | refine ⟨_, _, rfl, rfl, ?_⟩
  | refine ⟨_, _, _, _, rfl, rfl, .inl (.inl (by walk_at "ls_hp")), rfl, ?_⟩
  | refine ⟨_, _, _, _, rfl, rfl, (by walk_at "ls_hp"), rfl, ?_⟩
  | refine ⟨rfl, _, rfl, ?_⟩
  | refine ⟨.inl ⟨rfl, _, .inl (.inl (by walk_at "ls_hp"))⟩, ?_⟩)
local macro_rules | `(tactic| walk_at "ls") => `(tactic| repeat (walk_at "ls1"))

section
variable {P : Program} {w : World} {K : PySem.W.Frag} {mg : Str → Option Value} {base : Heap}
/-! ### the lists of a book -/
abbrev s_Book_kinds : Stmt := inClass (topS 23) 1
theorem sc_Book_kinds : FnScope ["self"] ["self"] (defScope s_Book_kinds) := ⟨rfl, rfl, rfl, by decide +kernel, rfl, by decide +kernel, by decide +kernel⟩
abbrev N_Book_kinds : List Str := ["self"]
def spKinds (C : Addr) : Sp := fun vs H Q _ => ∃ (o : Addr) (ks : List (V × V)) (cs : List Col) (ck : List Str), vs = [.ref o] ∧ BookU C H o ks cs ck ∧ ∀ l kx, H l = none → TupsAt H kx (ks.map fun k => [k.1, k.2]) → Q (.ref l) (upd H l (.lst kx))
theorem ok_kinds {C : Addr} {f : Addr} {fd : FuncData} (F : Fun K "kinds" "Book.kinds" s_Book_kinds f fd) (T : Bt mg) (TB : BkT K C) : FnOk P w K mg base CX0 1 f fd ["self"] (spKinds C) := by
  refine F.ok sc_Book_kinds (fun vs H Q E h => ?_) (fun cdv A outer s H vs Q E hr h => ?_)
  · obtain ⟨o, ks, cs, ck, rfl, _⟩ := h
    rfl
  · obtain ⟨o, ks, cs, ck, rfl, ⟨dx, k, c, m, x, kx, cx, h1, h2, h3, h4, h5, h6, h7⟩, q⟩ := h
    have hu := hu_of hr
    refine ⟨_, (pss_one (ps_ret (pe_callTy (list_of K) (by rfl) T.m_list (by decide +kernel) (pa_cons (pe_fld (pv 0) rfl) pa_nil)))), ?_⟩
    walk_at "ls"
    refine ⟨o, C, dx, _, _, rfl, h1, TB.cl, TB.nk, bookF_k, ?_⟩
    exact ⟨k, kx, rfl, .inr (.inl (.inl h2)), fun l hl => q l kx hl h3⟩
abbrev s_Book_columns : Stmt := inClass (topS 23) 2
theorem sc_Book_columns : FnScope ["self"] ["self"] (defScope s_Book_columns) := ⟨rfl, rfl, rfl, by decide +kernel, rfl, by decide +kernel, by decide +kernel⟩
abbrev N_Book_columns : List Str := ["self"]
def spColumns (C : Addr) : Sp := fun vs H Q _ => ∃ (o : Addr) (ks : List (V × V)) (cs : List Col) (ck : List Str), vs = [.ref o] ∧ BookU C H o ks cs ck ∧ ∀ l cx, H l = none → TupsAt H cx (cs.map colU) → Q (.ref l) (upd H l (.lst cx))
theorem ok_columns {C : Addr} {f : Addr} {fd : FuncData} (F : Fun K "columns" "Book.columns" s_Book_columns f fd) (T : Bt mg) (TB : BkT K C) : FnOk P w K mg base CX0 1 f fd ["self"] (spColumns C) := by
  refine F.ok sc_Book_columns (fun vs H Q E h => ?_) (fun cdv A outer s H vs Q E hr h => ?_)
  · obtain ⟨o, ks, cs, ck, rfl, _⟩ := h
    rfl
  · obtain ⟨o, ks, cs, ck, rfl, ⟨dx, k, c, m, x, kx, cx, h1, h2, h3, h4, h5, h6, h7⟩, q⟩ := h
    have hu := hu_of hr
    refine ⟨_, (pss_one (ps_ret (pe_callTy (list_of K) (by rfl) T.m_list (by decide +kernel) (pa_cons (pe_fld (pv 0) rfl) pa_nil)))), ?_⟩
    walk_at "ls"
    refine ⟨o, C, dx, _, _, rfl, h1, TB.cl, TB.nc, bookF_c, ?_⟩
    exact ⟨c, cx, rfl, .inr (.inl (.inl h4)), fun l hl => q l cx hl h5⟩
end
end Ls
namespace Ls
open PySem PySem.Spec PyProof.Rows L2
/-! ### short steps -/
local macro_rules | `(tactic| walk_at "ls_ne") => `(tactic| first | assumption | exact Ne.symm (by assumption) | exact ne_of_none (by assumption) (by assumption) | exact Ne.symm (ne_of_none (by assumption) (by assumption)))
local macro_rules | `(tactic| walk_at "ls_hp") => `(tactic| first
  | with_reducible assumption
  | exact upd_same
  | exact Eq.trans (upd_ne (by walk_at "ls_ne")) (by walk_at "ls_hp"))
local macro_rules | `(tactic| walk_at "ls_st") => `(tactic| first
  | with_reducible assumption
  | exact Stm.upd (by walk_at "ls_st") (by first | walk_at "ls_ne" | exact (Stm.noneS (by assumption) (by assumption)).1) (by first | walk_at "ls_ne" | exact (Stm.noneS (by assumption) (by assumption)).2))
local macro_rules | `(tactic| walk_at "ls1") => `(tactic| first
  | refine ⟨_, rfl, ?_⟩
  | refine ⟨_, _, rfl, rfl, ?_⟩
  | refine ⟨_, _, _, _, rfl, rfl, .inl (.inl (by walk_at "ls_hp")), rfl, ?_⟩
  | refine ⟨_, _, _, _, rfl, rfl, (by walk_at "ls_hp"), rfl, ?_⟩
  | refine ⟨rfl, _, rfl, ?_⟩
  | refine ⟨.inl ⟨rfl, _, .inl (.inl (by walk_at "ls_hp"))⟩, ?_⟩)
local macro_rules | `(tactic| walk_at "ls") => `(tactic| repeat (walk_at "ls1"))

section
variable {P : Program} {w : World} {K : PySem.W.Frag} {mg : Str → Option Value} {base : Heap}
/-! ### _law_same -/
abbrev s__law_same : Stmt := topS 59
theorem sc__law_same : FnScope ["_law_found", "_law_due"] ["_law_found", "_law_due"] (defScope s__law_same) := ⟨rfl, rfl, rfl, by decide +kernel, rfl, by decide +kernel, by decide +kernel⟩
abbrev N__law_same : List Str := ["_law_found", "_law_due"]
def spSame (K : PySem.W.Frag) : Sp := fun vs H Q _ => ∃ (a b : Addr) (d : PyData), vs = [.ref a, .ref b] ∧ DpX K H (.ref a) d ∧ DpX K H (.ref b) d ∧ (d.showable = true ∧ d.depth ≤ 60 ∧ d.shown.length ≤ sizeLine) ∧ Q (.bl true) H
theorem ok_same {f : Addr} {fd : FuncData} (F : Fun K "_law_same" "_law_same" s__law_same f fd) (T : Bt mg) : FnG P w K mg base CX0 1 f fd ["_law_found", "_law_due"] (spSame K) := by
  refine fun_okG F sc__law_same (fun vs H Q E h => ?_) (fun cdv A outer s H vs Q E hgd hr h => ?_)
  · obtain ⟨a, b, d, rfl, _⟩ := h
    rfl
  · obtain ⟨a, b, d, rfl, ha, hb, ⟨h1, h3, h4⟩, q⟩ := h
    have hu := hu_of hr
    refine ⟨_, (pss_one (ps_ret (pe_cmpR op_eq (pe_callB (call_repr_dataX hgd hr) (by rfl) T.m_repr (by decide +kernel) (pa_cons (pv 0) pa_nil)) (pe_callB (call_repr_dataX hgd hr) (by rfl) T.m_repr (by decide +kernel) (pa_cons (pv 1) pa_nil)) (nomark _)))), ?_⟩
    walk_at "ls"
    refine ⟨a, d, rfl, ha, h1, h3, h4, ?_⟩
    walk_at "ls"
    refine ⟨b, d, rfl, hb, h1, h3, h4, ?_⟩
    refine ⟨rfl, ?_⟩
    rw [decide_eq_true rfl]
    exact q
end
end Ls
namespace Ls
open PySem PySem.Spec PyProof.Rows L2
/-! ### len, in, == and operators by methods of the module's own -/
section
variable {X : Cx} {k j : Nat} {C : Addr} {ps : List Str} {sp : Sp} {m : Str}
/-- a method runs at X.A or one call deeper -/
theorem run_ownM (O : OwnM X.prog X.w X.K X.mg X.base CX0 k C m ps sp) {A : Around} (hr : Room k A) {pins : List (Addr × Obj)} {σ : L2.St} {H : Hp} {s : Shared} {Q : VK} {us : List Value} {vs : List V} (I : Inv X pins σ H s)
    (e0 : Env0 X.prog X.w X.K X.mg X.base A X.stack s H) (r : Vals vs us) (q : sp vs H Q E0) {R : Value → Shared → Prop} {E : Value → Shared → Prop} (hR : ∀ v s', EP X pins σ Q v s' → R v s') (f : Addr) (hf : Meth X.K C m f) :
    wpAny (model X.prog X.w) A (call (.ref f) us) R E s := by
  obtain ⟨f2, fd, F, me, b⟩ := O.ex
  have ef : f2 = f := by
    have h1 := me.at_
    have h2 := hf.at_
    rw [h1] at h2
    cases h2
    rfl
  subst ef
  have hb := b s us I.kIn (by rw [List.append_nil, ← r.length]; exact F.len _ _ _ _ q)
  rw [List.append_nil] at hb
  refine wpAny_call (codeAny_mono (F.run A X.stack s H ⟨us, []⟩ us vs Q E0 hr e0 hb r q) fun r s' hq => ?_)
  cases r with
  | error e => exact False.elim hq
  | ok fl =>
    cases fl with
    | ret w => exact hR _ _ (I.after hq)
    | next => exact False.elim hq
    | brk => exact False.elim hq
    | cont => exact False.elim hq
def rLenO (C : Addr) (sp : Sp) : List V → Hp → VK → Prop := fun xs H Q => ∃ a dx fs, xs = [.ref a] ∧ H a = some (.ins C dx fs) ∧ sp [.ref a] H (fun v H' => ∃ n : Int, v = .int n ∧ 0 ≤ n ∧ n < 2 ^ 63 ∧ Q v H') E0
theorem call_lenO (O : OwnM X.prog X.w X.K X.mg X.base CX0 k C "__len__" ps sp) (hr : Room j X.A) (hkj : k + 1 ≤ j) : CallR X (.builtin "len") (rLenO C sp) := by
  intro pins s σ H xs us Q I r h
  obtain ⟨a, dx, fs, rfl, ha, q⟩ := h
  obtain ⟨u, rfl, ru⟩ := r.one
  cases ru
  obtain ⟨f, fd, F, me, b⟩ := O.ex
  obtain ⟨mA, J, _⟩ := ins_get I.hok ha
  obtain ⟨od, J, _⟩ := J.look
  obtain ⟨m, hF⟩ := I.fr
  refine PySem.W.len_K hF I.ok.mod.kin J me.at_ me.fn ?_
  refine run_ownM O (hr.mono hkj).in1 I I.env0.in1 (us := [Value.ref a]) (vs := [V.ref a]) (.cons rfl .nil) q (fun v s' z => ?_) f me
  obtain ⟨z', H', I', rz, n, ez, h0, h1, qz⟩ := z
  subst ez
  obtain ⟨t, rfl⟩ := rz
  exact ⟨⟨h0, h1⟩, ⟨.int n, H', I'.tok _, ⟨_, rfl⟩, qz⟩⟩
def rInO (C : Addr) (sp : Sp) : R2 := fun x y H Q => ∃ a dx fs, y = .ref a ∧ H a = some (.ins C dx fs) ∧ sp [.ref a, x] H (fun v H' => ∃ b : Bool, v = .bl b ∧ Q v H') E0
theorem op_inO (O : OwnM X.prog X.w X.K X.mg X.base CX0 k C "__contains__" ps sp) (hr : Room j X.A) (hkj : k ≤ j) : OpR X (compareOp .In) (rInO C sp) := by
  intro pins s σ H x y v u Q I rx ry h
  obtain ⟨a, dx, fs, rfl, ha, q⟩ := h
  cases ry
  obtain ⟨f, fd, F, me, b⟩ := O.ex
  obtain ⟨mA, J, _⟩ := ins_get I.hok ha
  obtain ⟨od, J, _⟩ := J.look
  obtain ⟨m, hF⟩ := I.fr
  refine PySem.W.in_K hF I.ok.mod.kin J me.at_ me.fn ?_
  refine run_ownM O (hr.mono hkj) I I.env0 (us := [Value.ref a, v]) (vs := [V.ref a, x]) (.cons rfl (.cons rx .nil)) q (fun v s' z => ?_) f me
  obtain ⟨z', H', I', rz, n, ez, qz⟩ := z
  subst ez
  cases rz
  exact wpAny_pure ⟨.bl n, H', I', rfl, qz⟩
def rNotInO (C : Addr) (sp : Sp) : R2 := fun x y H Q => ∃ a dx fs, y = .ref a ∧ H a = some (.ins C dx fs) ∧ sp [.ref a, x] H (fun v H' => ∃ b : Bool, v = .bl b ∧ Q (.bl (!b)) H') E0
theorem op_notInO (O : OwnM X.prog X.w X.K X.mg X.base CX0 k C "__contains__" ps sp) (hr : Room j X.A) (hkj : k ≤ j) : OpR X (compareOp .NotIn) (rNotInO C sp) := by
  intro pins s σ H x y v u Q I rx ry h
  obtain ⟨a, dx, fs, rfl, ha, q⟩ := h
  cases ry
  obtain ⟨f, fd, F, me, b⟩ := O.ex
  obtain ⟨mA, J, _⟩ := ins_get I.hok ha
  obtain ⟨od, J, _⟩ := J.look
  obtain ⟨m, hF⟩ := I.fr
  refine PySem.W.notIn_K hF I.ok.mod.kin J me.at_ me.fn ?_
  refine run_ownM O (hr.mono hkj) I I.env0 (us := [Value.ref a, v]) (vs := [V.ref a, x]) (.cons rfl (.cons rx .nil)) q (fun v s' z => ?_) f me
  obtain ⟨z', H', I', rz, n, ez, qz⟩ := z
  subst ez
  cases rz
  exact wpAny_pure ⟨.bl (!n), H', I', rfl, qz⟩
/-- x op y by x's own method: y an instance of the same class -/
def rCmpO (C : Addr) (sp : Sp) : R2 := fun x y H Q => ∃ a dx fs b dy gs, x = .ref a ∧ y = .ref b ∧ H a = some (.ins C dx fs) ∧ H b = some (.ins C dy gs) ∧ sp [.ref a, .ref b] H (fun v H' => ∃ b : Bool, v = .bl b ∧ Q v H') E0
theorem op_cmpO {op : CmpOp} (O : OwnM X.prog X.w X.K X.mg X.base CX0 k C (cmpInfo op).2.1 ps sp) (hop : ∀ a b, compareOp op a b = richCompare op a b) (hr : Room j X.A) (hkj : k ≤ j) : OpR X (compareOp op) (rCmpO C sp) := by
  intro pins s σ H x y v u Q I rx ry h
  obtain ⟨a, dx, fs, b, dy, gs, rfl, rfl, ha, hb, q⟩ := h
  cases rx
  cases ry
  obtain ⟨f, fd, F, me, bb⟩ := O.ex
  obtain ⟨mA, J, _⟩ := ins_get I.hok ha
  obtain ⟨mB, J', _⟩ := ins_get I.hok hb
  obtain ⟨od, J, _⟩ := J.look
  obtain ⟨od', J', _⟩ := J'.look
  obtain ⟨m, hF⟩ := I.fr
  rw [hop]
  refine PySem.W.cmp_K (op := op) (tb := .ref C) (hr.mono hkj).units0 hF I.ok.mod.kin J J'.type (by simp [PySem.W.notFirst]) me.at_ me.fn ?_
  refine run_ownM O (hr.mono hkj) I I.env0 (us := [Value.ref a, Value.ref b]) (vs := [V.ref a, V.ref b]) (.cons rfl (.cons rfl .nil)) q (fun v s' z => ?_) f me
  obtain ⟨z', H', I', rz, n, ez, qz⟩ := z
  subst ez
  cases rz
  exact ⟨.bl n, H', I', rfl, qz⟩
end
end Ls
namespace Ls
open PySem PySem.Spec PyProof.Rows L2
/-! ### short steps -/
local macro_rules | `(tactic| walk_at "ls_ne") => `(tactic| first | assumption | exact Ne.symm (by assumption) | exact ne_of_none (by assumption) (by assumption) | exact Ne.symm (ne_of_none (by assumption) (by assumption)))
local macro_rules | `(tactic| walk_at "ls_hp") => `(tactic| first
  | with_reducible assumption
  | exact upd_same
  | exact Eq.trans (upd_ne (by walk_at "ls_ne")) (by walk_at "ls_hp"))
local macro_rules | `(tactic| walk_at "ls_st") => `(tactic| first
  | with_reducible assumption
  | exact Stm.upd (by walk_at "ls_st") (by first | walk_at "ls_ne" | exact (Stm.noneS (by assumption) (by assumption)).1) (by first | walk_at "ls_ne" | exact (Stm.noneS (by assumption) (by assumption)).2))
local macro_rules | `(tactic| walk_at "ls1") => `(tactic| first
  | refine ⟨_, rfl, ?_⟩
  | refine ⟨_, _, rfl, rfl, ?_⟩
  | refine ⟨_, _, _, _, rfl, rfl, .inl (.inl (by walk_at "ls_hp")), rfl, ?_⟩
  | refine ⟨_, _, _, _, rfl, rfl, (by walk_at "ls_hp"), rfl, ?_⟩
  | refine ⟨rfl, _, rfl, ?_⟩
  | refine ⟨.inl ⟨rfl, _, .inl (.inl (by walk_at "ls_hp"))⟩, ?_⟩)
local macro_rules | `(tactic| walk_at "ls") => `(tactic| repeat (walk_at "ls1"))

/-! ### the parts of a shape as values -/
def ksU (B : Shp) : List (V × V) := B.ks.map fun k => (.str k.1, .bl k.2)
def csU (B : Shp) : List Col := B.cs.map fun c => (.str c.1, .str c.2.1, .str c.2.2.1, .str (ruleS c.2.2.2))
def knS (B : Shp) : List Str := B.ks.map (·.1)
theorem knOf_ksU (B : Shp) : knOf (ksU B) = knS B := by unfold knOf ksU knS; rw [List.map_map]; rfl
theorem cnOf_csU (B : Shp) : cnOf (csU B) = B.cs.map (·.1) := by unfold cnOf csU; rw [List.map_map]; rfl
theorem menuU_is (B : Shp) : menuU (knOf (ksU B)) (cnOf (csU B)) = menu B := by
  rw [knOf_ksU, cnOf_csU]
  unfold menuU menu knS
  rw [List.flatMap_map, List.flatMap_map]
theorem ksU_rows (B : Shp) : (ksU B).map (fun k => [k.1, k.2]) = B.ks.map kindV := by unfold ksU; rw [List.map_map]; rfl
theorem csU_rows (B : Shp) : (csU B).map colU = B.cs.map colV := by unfold csU; rw [List.map_map]; rfl
theorem nm_isName {z : Str} (h : Nm z) : isNameB z = true := by
  obtain ⟨⟨h1, h2, h3⟩, h4⟩ := h
  unfold isNameB
  rw [decide_eq_false h4, decide_eq_true h1, decide_eq_true h2]
  refine List.all_eq_true.mpr fun c hc => decide_eq_true ?_
  have h5 := h3 c hc
  show c ∈ ("abcdefghijklmnopqrstuvwxyz" : Str).cps.toList
  rw [abc_cps, List.mem_range']
  exact ⟨c - 97, by omega, by omega⟩
theorem kinds_fine : ∀ {l : List (Str × Bool)} {taken : List Str}, (taken ++ l.map (·.1)).Nodup → (∀ z ∈ l.map (·.1), Nm z) → kindsErr taken (l.map fun k => (V.str k.1, V.bl k.2)) = none
  | [], _, _, _ => rfl
  | k :: r, taken, nd, hn => by
    have e : taken ++ (k :: r).map (·.1) = (taken ++ [k.1]) ++ r.map (·.1) := by simp
    rw [e] at nd
    have hk : k.1 ∉ taken := by
      have := (List.nodup_append.mp (List.nodup_append.mp nd).1).2.2
      exact fun h => this k.1 h k.1 (by simp) rfl
    rw [List.map_cons]
    unfold kindsErr
    have en : nameErr taken (V.str k.1) = none := by
      unfold nameErr
      have h1 : isNameV (V.str k.1) = true := nm_isName (hn k.1 (.head _))
      have h2 : isWordV taken (V.str k.1) = false := decide_eq_false hk
      rw [h1, h2, if_pos rfl, if_neg (by decide)]
    show (match nameErr taken (V.str k.1) with | some b => _ | none => _) = none
    rw [en]
    exact kinds_fine nd fun z hz => hn z (.tail _ hz)
theorem cols_fine {kn : List Str} : ∀ {l : List (Str × Str × Str × Bool)} {taken : List Str}, ((kn ++ taken) ++ l.map (·.1)).Nodup → (∀ z ∈ l.map (·.1), Nm z) → (∀ c ∈ l, c.2.1 ∈ kn ∧ c.2.2.1 ∈ kn) →
    colsErr kn taken (l.map fun c => (V.str c.1, V.str c.2.1, V.str c.2.2.1, V.str (ruleS c.2.2.2))) = none
  | [], _, _, _, _ => rfl
  | k :: r, taken, nd, hn, hm => by
    have e : (kn ++ taken) ++ (k :: r).map (·.1) = (kn ++ (taken ++ [k.1])) ++ r.map (·.1) := by simp
    rw [e] at nd
    have hk : k.1 ∉ kn ++ taken := by
      have h1 := (List.nodup_append.mp nd).1
      rw [← List.append_assoc] at h1
      have := (List.nodup_append.mp h1).2.2
      exact fun h => this k.1 h k.1 (by simp) rfl
    rw [List.map_cons]
    unfold colsErr
    have en : nameErr (kn ++ taken) (V.str k.1) = none := by
      unfold nameErr
      have h1 : isNameV (V.str k.1) = true := nm_isName (hn k.1 (.head _))
      have h2 : isWordV (kn ++ taken) (V.str k.1) = false := decide_eq_false hk
      rw [h1, h2, if_pos rfl, if_neg (by decide)]
    have ec : colErr kn taken (V.str k.1, V.str k.2.1, V.str k.2.2.1, V.str (ruleS k.2.2.2)) = none := by
      unfold colErr
      obtain ⟨h1, h2⟩ := hm k (.head _)
      have w1 : isWordV kn (V.str k.2.1) = true := decide_eq_true h1
      have w2 : isWordV kn (V.str k.2.2.1) = true := decide_eq_true h2
      have w3 : isWordV ruleW (V.str (ruleS k.2.2.2)) = true := by cases k.2.2.2 <;> decide +kernel
      rw [en]
      simp only [w1, w2, w3, if_true]
    rw [ec]
    exact cols_fine nd (fun z hz => hn z (.tail _ hz)) fun c hc => hm c (.tail _ hc)
/-- what is asked of a shape without the sizes -/
structure Shp.Fine (B : Shp) : Prop where
  nd : (B.ks.map (·.1) ++ B.cs.map (·.1)).Nodup
  nm : ∀ z ∈ B.ks.map (·.1) ++ B.cs.map (·.1), Nm z
  home : ∀ c ∈ B.cs, c.2.1 ∈ B.ks.map (·.1)
  goal : ∀ c ∈ B.cs, c.2.2.1 ∈ B.ks.map (·.1)
theorem Shp.Ok.fine {B : Shp} (h : B.Ok) : B.Fine := ⟨h.nd, h.nm, h.home, h.goal⟩
theorem book_fine {B : Shp} (hB : B.Fine) {ck : List Str} (hc : ∀ z ∈ ck, z ∈ menu B) : bookErr (ksU B) (csU B) (ck.map V.str) = none := by
  have nd := hB.nd
  have h1 : kindsErr [] (ksU B) = none := kinds_fine (by rw [List.nil_append]; exact (List.nodup_append.mp nd).1) fun z hz => hB.nm z (List.mem_append_left _ hz)
  have h2 : colsErr (knOf (ksU B)) [] (csU B) = none := by
    rw [knOf_ksU]
    exact cols_fine (by rw [List.append_nil]; exact nd) (fun z hz => hB.nm z (List.mem_append_right _ hz)) fun c hc => ⟨hB.home c hc, hB.goal c hc⟩
  unfold bookErr
  rw [h1]
  simp only
  rw [h2, menuU_is]
  simp only
  have h3 : checksErr (menu B) (ck.map V.str) = none := by
    unfold checksErr
    refine List.find?_eq_none.mpr fun v hv => ?_
    obtain ⟨z, hz, rfl⟩ := List.mem_map.mp hv
    have : isWordV (menu B) (V.str z) = true := decide_eq_true (hc z hz)
    rw [this]
    decide
  rw [h3]
/-- a book of a shape -/
def BookS (C : Addr) (H : Hp) (o : Addr) (B : Shp) (ck : List Str) : Prop := BookU C H o (ksU B) (csU B) ck
theorem BookS.same {C : Addr} {H H' : Hp} {o : Addr} {B : Shp} {ck : List Str} (h : BookS C H o B ck) (s : Same H H') : BookS C H' o B ck := BookU.same h s
theorem BookS.ins {C : Addr} {H : Hp} {o : Addr} {B : Shp} {ck : List Str} (h : BookS C H o B ck) : ∃ dx k c m x, H o = some (.ins C dx (bookF k c m x)) := by
  obtain ⟨dx, k, c, m, x, kx, cx, h1, _⟩ := h
  exact ⟨dx, k, c, m, x, h1⟩
end Ls
namespace Ls
open PySem PySem.Spec PyProof.Rows L2
/-! ### short steps -/
local macro_rules | `(tactic| walk_at "ls_ne") => `(tactic| first | assumption | exact Ne.symm (by assumption) | exact ne_of_none (by assumption) (by assumption) | exact Ne.symm (ne_of_none (by assumption) (by assumption)))
local macro_rules | `(tactic| walk_at "ls_hp") => `(tactic| first
  | with_reducible assumption
  | exact upd_same
  | exact Eq.trans (upd_ne (by walk_at "ls_ne")) (by walk_at "ls_hp"))
local macro_rules | `(tactic| walk_at "ls_st") => `(tactic| first
  | with_reducible assumption
  | exact Stm.upd (by walk_at "ls_st") (by first | walk_at "ls_ne" | exact (Stm.noneS (by assumption) (by assumption)).1) (by first | walk_at "ls_ne" | exact (Stm.noneS (by assumption) (by assumption)).2))
local macro_rules | `(tactic| walk_at "ls1") => `(tactic| first
  | refine ⟨_, rfl, ?_⟩
  | refine ⟨_, _, rfl, rfl, ?_⟩
  | refine ⟨_, _, _, _, rfl, rfl, .inl (.inl (by walk_at "ls_hp")), rfl, ?_⟩
  | refine ⟨_, _, _, _, rfl, rfl, (by walk_at "ls_hp"), rfl, ?_⟩
  | refine ⟨rfl, _, rfl, ?_⟩
  | refine ⟨.inl ⟨rfl, _, .inl (.inl (by walk_at "ls_hp"))⟩, ?_⟩)
local macro_rules | `(tactic| walk_at "ls") => `(tactic| repeat (walk_at "ls1"))

section
variable {P : Program} {w : World} {K : PySem.W.Frag} {mg : Str → Option Value} {base : Heap}
/-! ### menu, checks, len, in -/
abbrev s_Book_menu : Stmt := inClass (topS 23) 3
theorem sc_Book_menu : FnScope ["self"] ["self"] (defScope s_Book_menu) := ⟨rfl, rfl, rfl, by decide +kernel, rfl, by decide +kernel, by decide +kernel⟩
abbrev N_Book_menu : List Str := ["self"]
def spMenuB (C : Addr) : Sp := fun vs H Q _ => ∃ (o : Addr) (B : Shp) (ck : List Str), vs = [.ref o] ∧ BookS C H o B ck ∧ ∀ l, H l = none → Q (.ref l) (upd H l (.lst ((menu B).map V.str)))
theorem ok_menuB {C : Addr} {f : Addr} {fd : FuncData} (F : Fun K "menu" "Book.menu" s_Book_menu f fd) (T : Bt mg) (TB : BkT K C) : FnOk P w K mg base CX0 1 f fd ["self"] (spMenuB C) := by
  refine F.ok sc_Book_menu (fun vs H Q E h => ?_) (fun cdv A outer s H vs Q E hr h => ?_)
  · obtain ⟨o, B, ck, rfl, _⟩ := h
    rfl
  · obtain ⟨o, B, ck, rfl, ⟨dx, k, c, m, x, kx, cx, h1, h2, h3, h4, h5, h6, h7⟩, q⟩ := h
    have hu := hu_of hr
    refine ⟨_, (pss_one (ps_ret (pe_callTy (list_of K) (by rfl) T.m_list (by decide +kernel) (pa_cons (pe_fld (pv 0) rfl) pa_nil)))), ?_⟩
    walk_at "ls"
    refine ⟨o, C, dx, _, _, rfl, h1, TB.cl, TB.nm, bookF_m, ?_⟩
    rw [menuU_is] at h6
    exact ⟨m, _, rfl, .inr (.inl (.inl h6)), fun l hl => q l hl⟩
abbrev s_Book_checks : Stmt := inClass (topS 23) 4
theorem sc_Book_checks : FnScope ["self"] ["self"] (defScope s_Book_checks) := ⟨rfl, rfl, rfl, by decide +kernel, rfl, by decide +kernel, by decide +kernel⟩
abbrev N_Book_checks : List Str := ["self"]
def spChecksB (C : Addr) : Sp := fun vs H Q _ => ∃ (o : Addr) (B : Shp) (ck : List Str), vs = [.ref o] ∧ BookS C H o B ck ∧ ∀ l, H l = none → Q (.ref l) (upd H l (.lst (ck.map V.str)))
theorem ok_checksB {C : Addr} {f : Addr} {fd : FuncData} (F : Fun K "checks" "Book.checks" s_Book_checks f fd) (T : Bt mg) (TB : BkT K C) : FnOk P w K mg base CX0 1 f fd ["self"] (spChecksB C) := by
  refine F.ok sc_Book_checks (fun vs H Q E h => ?_) (fun cdv A outer s H vs Q E hr h => ?_)
  · obtain ⟨o, B, ck, rfl, _⟩ := h
    rfl
  · obtain ⟨o, B, ck, rfl, ⟨dx, k, c, m, x, kx, cx, h1, h2, h3, h4, h5, h6, h7⟩, q⟩ := h
    have hu := hu_of hr
    refine ⟨_, (pss_one (ps_ret (pe_callTy (list_of K) (by rfl) T.m_list (by decide +kernel) (pa_cons (pe_fld (pv 0) rfl) pa_nil)))), ?_⟩
    walk_at "ls"
    refine ⟨o, C, dx, _, _, rfl, h1, TB.cl, TB.nx, bookF_x, ?_⟩
    exact ⟨x, _, rfl, .inr (.inl (.inl h7)), fun l hl => q l hl⟩
abbrev s_Book_len : Stmt := inClass (topS 23) 8
theorem sc_Book_len : FnScope ["self"] ["self"] (defScope s_Book_len) := ⟨rfl, rfl, rfl, by decide +kernel, rfl, by decide +kernel, by decide +kernel⟩
abbrev N_Book_len : List Str := ["self"]
def spLenB (C : Addr) : Sp := fun vs H Q _ => ∃ (o : Addr) (B : Shp) (ck : List Str), vs = [.ref o] ∧ BookS C H o B ck ∧ Q (.int ck.length) H
theorem ok_lenB {C : Addr} {f : Addr} {fd : FuncData} (F : Fun K "__len__" "Book.__len__" s_Book_len f fd) (T : Bt mg) (TB : BkT K C) : FnOk P w K mg base CX0 1 f fd ["self"] (spLenB C) := by
  refine F.ok sc_Book_len (fun vs H Q E h => ?_) (fun cdv A outer s H vs Q E hr h => ?_)
  · obtain ⟨o, B, ck, rfl, _⟩ := h
    rfl
  · obtain ⟨o, B, ck, rfl, ⟨dx, k, c, m, x, kx, cx, h1, h2, h3, h4, h5, h6, h7⟩, q⟩ := h
    have hu := hu_of hr
    refine ⟨_, (pss_one (ps_ret (pe_callB (len_seq K) (by rfl) T.m_len (by decide +kernel) (pa_cons (pe_fld (pv 0) rfl) pa_nil)))), ?_⟩
    walk_at "ls"
    refine ⟨o, C, dx, _, _, rfl, h1, TB.cl, TB.nx, bookF_x, ?_⟩
    refine ⟨x, _, rfl, .inr (.inl (.inl h7)), ?_⟩
    rw [List.length_map]
    exact q
abbrev s_Book_contains : Stmt := inClass (topS 23) 9
theorem sc_Book_contains : FnScope ["self", "check"] ["self", "check"] (defScope s_Book_contains) := ⟨rfl, rfl, rfl, by decide +kernel, rfl, by decide +kernel, by decide +kernel⟩
abbrev N_Book_contains : List Str := ["self", "check"]
def spHasB (K : PySem.W.Frag) (C : Addr) : Sp := fun vs H Q _ => ∃ (o : Addr) (v : V) (B : Shp) (ck : List Str), vs = [.ref o, v] ∧ BookS C H o B ck ∧ Thg K H v ∧ Q (.bl (isWordV ck v)) H
theorem ok_hasB {C : Addr} {f : Addr} {fd : FuncData} (F : Fun K "__contains__" "Book.__contains__" s_Book_contains f fd) (T : Bt mg) (TB : BkT K C) (O_is_word_of : Own P w K mg base CX0 1 "is_word_of" ["thing", "words"] (spWord K)) : FnOk P w K mg base CX0 2 f fd ["self", "check"] (spHasB K C) := by
  refine F.ok sc_Book_contains (fun vs H Q E h => ?_) (fun cdv A outer s H vs Q E hr h => ?_)
  · obtain ⟨o, v, B, ck, rfl, _⟩ := h
    rfl
  · obtain ⟨o, v, B, ck, rfl, ⟨dx, k, c, m, x, kx, cx, h1, h2, h3, h4, h5, h6, h7⟩, hv, q⟩ := h
    have hu := hu_of hr
    refine ⟨_, (pss_one (ps_ret (own_call O_is_word_of hr (by first | decide | omega) (pa_cons (pv 1) (pa_cons (pe_fld (pv 0) rfl) pa_nil))))), ?_⟩
    walk_at "ls"
    refine ⟨o, C, dx, _, _, rfl, h1, TB.cl, TB.nx, bookF_x, ?_⟩
    exact ⟨v, x, ck, rfl, hv, .inr (.inl (.inl h7)), q⟩
end
end Ls
namespace Ls
open PySem PySem.Spec PyProof.Rows L2
/-! ### short steps -/
local macro_rules | `(tactic| walk_at "ls_ne") => `(tactic| first | assumption | exact Ne.symm (by assumption) | exact ne_of_none (by assumption) (by assumption) | exact Ne.symm (ne_of_none (by assumption) (by assumption)))
local macro_rules | `(tactic| walk_at "ls_hp") => `(tactic| first
  | with_reducible assumption
  | exact upd_same
  | exact Eq.trans (upd_ne (by walk_at "ls_ne")) (by walk_at "ls_hp"))
local macro_rules | `(tactic| walk_at "ls_st") => `(tactic| first
  | with_reducible assumption
  | exact Stm.upd (by walk_at "ls_st") (by first | walk_at "ls_ne" | exact (Stm.noneS (by assumption) (by assumption)).1) (by first | walk_at "ls_ne" | exact (Stm.noneS (by assumption) (by assumption)).2))
local macro_rules | `(tactic| walk_at "ls1") => `(tactic| first
  | refine ⟨_, rfl, ?_⟩
  | refine ⟨_, _, rfl, rfl, ?_⟩
  | refine ⟨_, _, _, _, rfl, rfl, .inl (.inl (by walk_at "ls_hp")), rfl, ?_⟩
  | refine ⟨_, _, _, _, rfl, rfl, (by walk_at "ls_hp"), rfl, ?_⟩
  | refine ⟨rfl, _, rfl, ?_⟩
  | refine ⟨.inl ⟨rfl, _, .inl (.inl (by walk_at "ls_hp"))⟩, ?_⟩)
local macro_rules | `(tactic| walk_at "ls") => `(tactic| repeat (walk_at "ls1"))

/-! ### what can be marked: the mathematics -/
def openB (B : Shp) (z : Str) : Bool := B.ks.any fun k => decide (k.1 = z) && k.2
def stepF (F : Str → Bool) (c : Str × Str × Str × Bool) : Str → Bool := fun z => F z || (c.2.2.2 && F c.2.2.1 && decide (z = c.2.1))
def roundF (B : Shp) (F : Str → Bool) : Str → Bool := B.cs.foldl stepF F
def markF (B : Shp) : Nat → Str → Bool
  | 0 => openB B
  | n + 1 => roundF B (markF B n)
def comesB (B : Shp) : Nat → Str → Bool
  | 0, z => openB B z
  | n + 1, z => openB B z || B.cs.any fun c => (decide (c.2.1 = z) && c.2.2.2) && comesB B n c.2.2.1
theorem comes_mono (B : Shp) : ∀ (n : Nat) (z : Str), comesB B n z = true → comesB B (n + 1) z = true
  | 0, z, h => by
    show (openB B z || _) = true
    rw [show openB B z = true from h]
    rfl
  | n + 1, z, h => by
    have h' : (openB B z || B.cs.any fun c => (decide (c.2.1 = z) && c.2.2.2) && comesB B n c.2.2.1) = true := h
    show (openB B z || B.cs.any fun c => (decide (c.2.1 = z) && c.2.2.2) && comesB B (n + 1) c.2.2.1) = true
    rw [Bool.or_eq_true] at h' ⊢
    refine h'.imp id fun h2 => ?_
    rw [List.any_eq_true] at h2 ⊢
    obtain ⟨c, hc, h3⟩ := h2
    rw [Bool.and_eq_true] at h3
    exact ⟨c, hc, by rw [Bool.and_eq_true]; exact ⟨h3.1, comes_mono B n _ h3.2⟩⟩
theorem comes_le (B : Shp) {n m : Nat} (h : n ≤ m) {z : Str} (e : comesB B n z = true) : comesB B m z = true := by
  induction h with
  | refl => exact e
  | step _ ih => exact comes_mono B _ _ ih
theorem comes_open (B : Shp) {z : Str} (h : openB B z = true) (n : Nat) : comesB B n z = true := comes_le B (Nat.zero_le n) h
/-- equal at the kinds at one step: equal ever after -/
theorem comes_next {B : Shp} (hB : B.Ok) {n m : Nat} (h : ∀ z ∈ B.ks.map (·.1), comesB B n z = comesB B m z) (z : Str) : comesB B (n + 1) z = comesB B (m + 1) z := by
  show (openB B z || B.cs.any fun c => (decide (c.2.1 = z) && c.2.2.2) && comesB B n c.2.2.1) = (openB B z || B.cs.any fun c => (decide (c.2.1 = z) && c.2.2.2) && comesB B m c.2.2.1)
  congr 1
  rw [Bool.eq_iff_iff, List.any_eq_true, List.any_eq_true]
  constructor
  · rintro ⟨c, hc, e⟩
    exact ⟨c, hc, by rw [← h _ (hB.goal c hc)]; exact e⟩
  · rintro ⟨c, hc, e⟩
    exact ⟨c, hc, by rw [h _ (hB.goal c hc)]; exact e⟩
def cnt (B : Shp) (n : Nat) : Nat := (B.ks.filter fun k => comesB B n k.1).length
theorem cnt_le (B : Shp) (n : Nat) : cnt B n ≤ B.ks.length := List.length_filter_le _ _
theorem filt_eq {α : Type} {p q : α → Bool} (h : ∀ x, p x = true → q x = true) : ∀ l : List α, (l.filter p).length = (l.filter q).length → ∀ x ∈ l, p x = q x
  | [], _, x, hx => nomatch hx
  | a :: l, e, x, hx => by
    have mono : ∀ l : List α, (l.filter p).length ≤ (l.filter q).length := fun l => by
      induction l with
      | nil => exact Nat.le_refl _
      | cons b r ih =>
        rw [List.filter_cons, List.filter_cons]
        cases hp : p b with
        | true => rw [h b hp]; simpa using ih
        | false =>
          cases hq : q b with
          | true => simp; omega
          | false => simpa using ih
    rw [List.filter_cons, List.filter_cons] at e
    cases hp : p a with
    | true =>
      have hq := h a hp
      rw [hp, hq] at e
      have e' : (l.filter p).length = (l.filter q).length := by simpa using e
      rcases List.mem_cons.mp hx with rfl | hx
      · rw [hp, hq]
      · exact filt_eq h l e' x hx
    | false =>
      cases hq : q a with
      | true =>
        rw [hp, hq] at e
        have e' : (l.filter p).length = (l.filter q).length + 1 := by simpa using e
        have := mono l
        omega
      | false =>
        rw [hp, hq] at e
        have e' : (l.filter p).length = (l.filter q).length := by simpa using e
        rcases List.mem_cons.mp hx with rfl | hx
        · rw [hp, hq]
        · exact filt_eq h l e' x hx
theorem cnt_eq {B : Shp} {n : Nat} (h : cnt B n = cnt B (n + 1)) : ∀ z ∈ B.ks.map (·.1), comesB B n z = comesB B (n + 1) z := by
  intro z hz
  obtain ⟨k, hk, rfl⟩ := List.mem_map.mp hz
  exact filt_eq (p := fun k : Str × Bool => comesB B n k.1) (q := fun k : Str × Bool => comesB B (n + 1) k.1) (fun x hx => comes_mono B n _ hx) B.ks h k hk
theorem cnt_mono (B : Shp) (n : Nat) : cnt B n ≤ cnt B (n + 1) := by
  unfold cnt
  generalize B.ks = l
  induction l with
  | nil => exact Nat.le_refl _
  | cons b r ih =>
    rw [List.filter_cons, List.filter_cons]
    cases hp : comesB B n b.1 with
    | true => rw [comes_mono B n _ hp]; simpa using ih
    | false =>
      cases hq : comesB B (n + 1) b.1 with
      | true => simp; omega
      | false => simpa using ih
theorem stop_at (B : Shp) : ∃ m, m ≤ B.ks.length ∧ cnt B m = cnt B (m + 1) := by
  refine Classical.byContradiction fun hn => ?_
  have h : ∀ m, m ≤ B.ks.length + 1 → m ≤ cnt B m := by
    intro m
    induction m with
    | zero => intro _; exact Nat.zero_le _
    | succ m ih =>
      intro hm
      have h1 := ih (by omega)
      have h2 := cnt_mono B m
      have h3 : cnt B m ≠ cnt B (m + 1) := fun e => hn ⟨m, by omega, e⟩
      omega
  have h1 := h (B.ks.length + 1) (Nat.le_refl _)
  have h2 := cnt_le B (B.ks.length + 1)
  omega
theorem comes_stay {B : Shp} (hB : B.Ok) {m : Nat} (h : ∀ z ∈ B.ks.map (·.1), comesB B m z = comesB B (m + 1) z) : ∀ (d : Nat), ∀ z ∈ B.ks.map (·.1), comesB B (m + d) z = comesB B m z
  | 0, _, _ => rfl
  | d + 1, z, hz => by
    have ih := comes_stay hB h d
    have e := comes_next hB ih z
    rw [show m + (d + 1) = m + d + 1 by omega, e]
    exact (h z hz).symm
/-- behind as many steps as there are kinds nothing more comes -/
theorem comes_all {B : Shp} (hB : B.Ok) {n m : Nat} (hn : B.ks.length ≤ n) (hm : B.ks.length ≤ m) {z : Str} (hz : z ∈ B.ks.map (·.1)) : comesB B n z = comesB B m z := by
  obtain ⟨k, hk, e⟩ := stop_at B
  have h := comes_stay hB (cnt_eq e)
  have h1 := h (n - k) z hz
  have h2 := h (m - k) z hz
  rw [show k + (n - k) = n by omega] at h1
  rw [show k + (m - k) = m by omega] at h2
  rw [h1, h2]
theorem fold_keep (F : Str → Bool) {z : Str} : ∀ (l : List (Str × Str × Str × Bool)) (G : Str → Bool), G z = true → l.foldl stepF G z = true
  | [], _, h => h
  | c :: l, G, h => fold_keep F l (stepF G c) (by unfold stepF; rw [h]; rfl)
theorem fold_gets {F : Str → Bool} {c : Str × Str × Str × Bool} (hf : c.2.2.2 = true) (hg : F c.2.2.1 = true) : ∀ (l : List (Str × Str × Str × Bool)) (G : Str → Bool), (∀ z, F z = true → G z = true) → c ∈ l → l.foldl stepF G c.2.1 = true
  | [], _, _, h => nomatch h
  | d :: l, G, hG, h => by
    rcases List.mem_cons.mp h with rfl | h
    · refine fold_keep F l _ ?_
      unfold stepF
      rw [hf, hG _ hg]
      simp
    · exact fold_gets hf hg l (stepF G d) (fun z hz => by unfold stepF; rw [hG z hz]; rfl) h
/-- what comes within n steps is marked behind n rounds -/
theorem mark_ge (B : Shp) : ∀ (n : Nat) (z : Str), comesB B n z = true → markF B n z = true
  | 0, z, h => h
  | n + 1, z, h => by
    have h' : (openB B z || B.cs.any fun c => (decide (c.2.1 = z) && c.2.2.2) && comesB B n c.2.2.1) = true := h
    rw [Bool.or_eq_true] at h'
    show B.cs.foldl stepF (markF B n) z = true
    rcases h' with h1 | h1
    · exact fold_keep (markF B n) _ _ (mark_ge B n z (comes_open B h1 n))
    · obtain ⟨c, hc, e⟩ := List.any_eq_true.mp h1
      rw [Bool.and_eq_true, Bool.and_eq_true, decide_eq_true_eq] at e
      rw [← e.1.1]
      exact fold_gets (F := markF B n) e.1.2 (mark_ge B n _ e.2) _ _ (fun _ h => h) hc
/-- what is marked comes within some steps -/
theorem fold_le {B : Shp} : ∀ (l : List (Str × Str × Str × Bool)) (G : Str → Bool), (∀ c ∈ l, c ∈ B.cs) → (∀ z, G z = true → ∃ m, comesB B m z = true) → ∀ z, l.foldl stepF G z = true → ∃ m, comesB B m z = true
  | [], _, _, hG, z, h => hG z h
  | c :: l, G, hl, hG, z, h => fold_le l (stepF G c) (fun d hd => hl d (List.mem_cons_of_mem _ hd)) (fun y hy => by
      unfold stepF at hy
      rw [Bool.or_eq_true, Bool.and_eq_true, Bool.and_eq_true, decide_eq_true_eq] at hy
      rcases hy with hy | ⟨⟨h1, h2⟩, rfl⟩
      · exact hG y hy
      · obtain ⟨m, hm⟩ := hG _ h2
        refine ⟨m + 1, ?_⟩
        show (openB B c.2.1 || B.cs.any fun d => (decide (d.2.1 = c.2.1) && d.2.2.2) && comesB B m d.2.2.1) = true
        rw [Bool.or_eq_true]
        refine .inr (List.any_eq_true.mpr ⟨c, hl c (List.mem_cons_self ..), ?_⟩)
        rw [h1, hm]
        simp) z h
theorem mark_le (B : Shp) : ∀ (n : Nat) (z : Str), markF B n z = true → ∃ m, comesB B m z = true
  | 0, z, h => ⟨0, h⟩
  | n + 1, z, h => fold_le B.cs (markF B n) (fun _ h => h) (mark_le B n) z h
theorem mark_is {B : Shp} (hB : B.Ok) {z : Str} (hz : z ∈ B.ks.map (·.1)) : markF B B.ks.length z = comesB B 3 z := by
  rw [Bool.eq_iff_iff]
  constructor
  · intro h
    obtain ⟨m, hm⟩ := mark_le B _ z h
    have h1 := comes_le B (Nat.le_max_left m 3) hm
    rw [← comes_all hB (Nat.le_trans hB.nk3 (Nat.le_max_right m 3)) hB.nk3 hz]
    exact h1
  · intro h
    rw [comes_all hB hB.nk3 (Nat.le_refl _) hz] at h
    exact mark_ge B _ z h
/-! ### Book.markable -/
def hasK (kvs : List (Key × V)) (z : Str) : Bool := (valV kvs (Sum.inr z)).isSome
theorem hasK_put (kvs : List (Key × V)) (y : Str) (v : V) (z : Str) : hasK (putK kvs (Sum.inr y) v) z = (decide (z = y) || hasK kvs z) := by
  unfold hasK
  rw [valV_put]
  by_cases h : z = y
  · subst h
    rw [if_pos rfl]
    simp
  · rw [if_neg (fun e => h (Sum.inr.inj e))]
    simp [h]
def keepK (kvs : List (Key × V)) (H : Hp) (v : V) : Option V := match fstOf H v with
  | some (.str z) => if hasK kvs z = true then some (.str z) else none
  | _ => none
theorem keepK_all {H : Hp} (kvs : List (Key × V)) : ∀ {xs : List V} {l : List (Str × Bool)}, TupsAt H xs (l.map kindV) → xs.filterMap (keepK kvs H) = ((l.filter fun k => hasK kvs k.1).map (·.1)).map V.str
  | [], [], _ => rfl
  | x :: xs, a :: l, h => by
    cases h with
    | cons h1 h2 =>
      rw [List.filterMap_cons, List.filter_cons, keepK_all kvs h2]
      unfold keepK
      rw [fst_tup h1]
      by_cases e : hasK kvs a.1 = true
      · simp [e]
      · simp [e]
  | [], a :: l, h => by cases h
  | x :: xs, [], h => by cases h
def openTo (B : Shp) (i : Nat) (z : Str) : Bool := (B.ks.take i).any fun k => decide (k.1 = z) && k.2
theorem openTo_snoc {B : Shp} {i : Nat} {k : Str × Bool} (h : B.ks[i]? = some k) (z : Str) : openTo B (i + 1) z = (openTo B i z || (decide (k.1 = z) && k.2)) := by
  unfold openTo
  rw [List.take_add_one, h, List.any_append]
  simp
def roundTo (B : Shp) (F : Str → Bool) (i : Nat) : Str → Bool := (B.cs.take i).foldl stepF F
theorem roundTo_snoc {B : Shp} {F : Str → Bool} {i : Nat} {c : Str × Str × Str × Bool} (h : B.cs[i]? = some c) : roundTo B F (i + 1) = stepF (roundTo B F i) c := by
  unfold roundTo
  rw [List.take_add_one, h, List.foldl_append]
  rfl
theorem fall_eq (b : Bool) : decide (V.str (ruleS b) = V.str "fall") = b := by cases b <;> decide +kernel
section
variable {P : Program} {w : World} {K : PySem.W.Frag} {mg : Str → Option Value} {base : Heap}
abbrev s_Book_markable : Stmt := inClass (topS 23) 6
theorem sc_Book_markable : FnScope ["self", "name", "found", "_", "home", "goal", "rule", "is_open"] ["self"] (defScope s_Book_markable) := ⟨rfl, rfl, rfl, by decide +kernel, rfl, by decide +kernel, by decide +kernel⟩
abbrev N_Book_markable : List Str := ["self", "name", "found", "_", "home", "goal", "rule", "is_open"]
def markList (B : Shp) : List Str := (B.ks.filter fun k => markF B B.ks.length k.1).map (·.1)
def spMark (C : Addr) : Sp := fun vs H Q _ => ∃ (o : Addr) (B : Shp) (ck : List Str), vs = [.ref o] ∧ BookS C H o B ck ∧ B.Ok ∧
  ∀ (H' : Hp) (p : Addr), H p = none → H' p = some (.lst ((markList B).map V.str)) → Same H H' → Q (.ref p) H'
theorem ok_mark {C : Addr} {f : Addr} {fd : FuncData} (F : Fun K "markable" "Book.markable" s_Book_markable f fd) (T : BkT K C) : FnOk P w K mg base CX0 1 f fd ["self"] (spMark C) := by
  refine F.ok sc_Book_markable (fun vs H Q E h => ?_) (fun cdv A outer s H vs Q E hr h => ?_)
  · obtain ⟨o, B, ck, rfl, _⟩ := h
    rfl
  · obtain ⟨o, B, ck, rfl, hbk, hB, q⟩ := h
    obtain ⟨dx, k, c, m, x, kx, cx, ho, hk, hkt, hc, hct, hm, hx⟩ := id hbk
    rw [ksU_rows] at hkt
    rw [csU_rows] at hct
    have hu := hu_of hr
    refine ⟨_, (pss_cons (ps_set (i := 2) sc_Book_markable.nd rfl (Or.inr rfl) (pe_dc (own := [("name", 1), ("is_open", 7)]) (g := gTup K 2 (gCons (gName 1) (gCons (gName 7) gNil))) (by rfl) sc_Book_markable.nd (pi_tup (pe_fld (pv 0) rfl)) (blkOk_by (own := [("name", 1), ("is_open", 7)]) (N := N_Book_markable) (sc := defScope s_Book_markable) (by decide +kernel)) (fun _ _ _ _ _ => (pg_tup rfl (pgs_cons (pg_name (i := 1) sc_Book_markable.nd rfl (Or.inl rfl) (Or.inr rfl)) (pgs_cons (pg_name (i := 7) sc_Book_markable.nd rfl (Or.inl rfl) (Or.inr rfl)) pgs_nil)))) (fun _ _ _ _ _ => (pts_one (pt_val (pv 7)))) (fun _ _ _ _ _ => (pv 1)) (fun _ _ _ _ _ => pe_bl)))
      (pss_cons (ps_for PassesOwn.never rfl (pi_tup (pe_fld (pv 0) rfl)) (pg_name (i := 3) sc_Book_markable.nd rfl (Or.inl rfl)) (pss_one (ps_for PassesOwn.never rfl (pi_tup (pe_fld (pv 0) rfl)) (pg_tup rfl (pgs_cons (pg_name (i := 1) sc_Book_markable.nd rfl (Or.inl rfl)) (pgs_cons (pg_name (i := 4) sc_Book_markable.nd rfl (Or.inl rfl)) (pgs_cons (pg_name (i := 5) sc_Book_markable.nd rfl (Or.inl rfl)) (pgs_cons (pg_name (i := 6) sc_Book_markable.nd rfl (Or.inl rfl)) pgs_nil))))) (pss_one (ps_if (PW.pt (pw_and (pt_cmpR op_eq (pv 6) pe_str (nomark _)) (pw_and1 (pt_cmp (pc_din hu (pv 5) (pv 2)))))) (pss_one (ps_dput hu (pv 2) (pv 4) pe_bl rfl)) pss_nil)))))
      (pss_one (ps_ret (pe_lc (own := [("name", 1), ("is_open", 7)]) (g := gTup K 2 (gCons (gName 1) (gCons (gName 7) gNil))) (by rfl) sc_Book_markable.nd (pi_tup (pe_fld (pv 0) rfl)) (blkOk_by (own := [("name", 1), ("is_open", 7)]) (N := N_Book_markable) (sc := defScope s_Book_markable) (by decide +kernel)) (fun _ _ _ _ _ => (pg_tup rfl (pgs_cons (pg_name (i := 1) sc_Book_markable.nd rfl (Or.inl rfl) (Or.inr rfl)) (pgs_cons (pg_name (i := 7) sc_Book_markable.nd rfl (Or.inl rfl) (Or.inr rfl)) pgs_nil)))) (fun _ _ _ _ _ => (pts_one (pt_cmp (pc_din hu (pv 1) (pv 2))))) (fun _ _ _ _ _ => (pv 1))))))), ?_⟩
    walk_at "ls"
    refine ⟨o, C, dx, _, _, rfl, ho, T.cl, T.nk, bookF_k, ?_⟩
    refine ⟨k, rfl, ⟨_, .inl (.inl hk)⟩, fun D hD => ?_⟩
    have lk : kx.length = B.ks.length := by rw [hkt.len, List.length_map]
    have lc : cx.length = B.cs.length := by rw [hct.len, List.length_map]
    have nk3 := hB.nk3
    have nc8 := hB.nc
    refine dc_tup (xs := kx) (fun i H1 => ∃ kvs : List (Key × V), H1 = upd H D (.dK kvs) ∧ kvs.length ≤ i ∧ ∀ z, hasK kvs z = openTo B i z) ⟨[], rfl, Nat.le_refl _, fun _ => rfl⟩ (fun i H1 _ ⟨kvs, e, _⟩ => .inl (.inl (by rw [e]; exact same_new hD _ _ hk))) ?_ ?_
    · rintro i y H1 hy ⟨kvs, rfl, hl, hF⟩
      obtain ⟨ys, hys, t, rfl, ht⟩ := TupsAt.get (hkt.keep (.new (o := .dK kvs) hD)) hy
      obtain ⟨kd, hkd, rfl⟩ := map_get hys
      have hi : i < B.ks.length := (List.getElem?_eq_some_iff.mp hkd).1
      refine ⟨t, _, rfl, .inl (.inl ht), rfl, _, _, rfl, _, _, rfl, rfl, rfl, ?_⟩
      walk_at "ls"
      refine ite2 (fun e => ?_) (fun e => ?_)
      · walk_at "ls"
        refine ⟨kvs, .inr kd.1, rfl, upd_same, Nat.lt_of_le_of_lt (show kvs.length ≤ 1000 by omega) (show 1000 < sizeLine by decide), putK kvs (.inr kd.1) (.bl true), by rw [upd_upd], ?_, fun z => ?_⟩
        · have := length_putK kvs (.inr kd.1) (.bl true)
          omega
        · rw [hasK_put, hF, openTo_snoc hkd, e]
          by_cases hz : z = kd.1
          · subst hz; simp
          · have : ¬ kd.1 = z := fun h => hz h.symm
            simp [hz, this]
      · refine ⟨kvs, rfl, by omega, fun z => ?_⟩
        rw [hF, openTo_snoc hkd]
        have : kd.2 = false := by simpa using e
        rw [this]
        simp
    · rintro H1 ⟨kvs, rfl, hl, hF⟩
      rw [lk] at hl hF
      have s0 : ∀ kvs, Same H (upd H D (.dK kvs)) := fun kvs => same_new hD
      walk_at "ls"
      refine ⟨o, C, dx, _, _, rfl, s0 _ _ _ ho, T.cl, T.nk, bookF_k, k, rfl, ⟨_, .inl (.inl (s0 _ _ _ hk))⟩, ?_⟩
      refine for_it (walk_tup (xs := kx)) (fun i σ H1 => ∃ (kvs : List (Key × V)) (v1 v3 v4 v5 v6 : Option V), σ = [some (.ref o), v1, some (.ref D), v3, v4, v5, v6, none] ∧ H1 = upd H D (.dK kvs) ∧ kvs.length ≤ 3 + 8 * i ∧ ∀ z, hasK kvs z = markF B i z)
        ⟨kvs, none, none, none, none, none, rfl, rfl, by omega, fun z => by rw [hF]; unfold openTo; rw [List.take_length]; rfl⟩ (fun i σ H1 _ ⟨_, _, _, _, _, _, _, e, _⟩ => .inl (.inl (by rw [e]; exact s0 _ _ _ hk))) ?_ ?_
      · clear hl hF kvs
        rintro i y σ Hz H1 hi ⟨kvs, v1, v3, v4, v5, v6, rfl, e1, hl, hF⟩ ⟨rfl, hy⟩
        subst e1
        walk_at "ls"
        refine ⟨o, C, dx, _, _, rfl, s0 _ _ _ ho, T.cl, T.nc, bookF_c, c, rfl, ⟨_, .inl (.inl (s0 _ _ _ hc))⟩, ?_⟩
        refine for_it (walk_tup (xs := cx)) (fun j σ H1 => ∃ (kvs : List (Key × V)) (v1 v4 v5 v6 : Option V), σ = [some (.ref o), v1, some (.ref D), some y, v4, v5, v6, none] ∧ H1 = upd H D (.dK kvs) ∧ kvs.length ≤ 3 + 8 * i + j ∧ ∀ z, hasK kvs z = roundTo B (markF B i) j z)
          ⟨kvs, v1, v4, v5, v6, rfl, rfl, by omega, fun z => by rw [hF]; rfl⟩ (fun j σ H1 _ ⟨_, _, _, _, _, _, e, _⟩ => .inl (.inl (by rw [e]; exact s0 _ _ _ hc))) ?_ ?_
        · clear hl hF kvs
          rintro j yj σ Hz2 H1 hj ⟨kvs, v1, v4, v5, v6, rfl, e1, hl, hF⟩ ⟨rfl, hyj⟩
          subst e1
          obtain ⟨ys, hys, t, rfl, ht⟩ := TupsAt.get (hct.keep (.new (o := .dK kvs) hD)) hyj
          obtain ⟨cl, hcl, rfl⟩ := map_get hys
          have hjc : j < B.cs.length := (List.getElem?_eq_some_iff.mp hcl).1
          refine ⟨t, _, rfl, .inl (.inl ht), rfl, _, _, rfl, _, _, rfl, _, _, rfl, _, _, rfl, rfl, ?_⟩
          refine and2 cl.2.2.2 (hasK kvs cl.2.2.1) (fun Q' q' => ?_) (fun _ Q' q' => ?_) ?_
          · walk_at "ls"
            rw [← fall_eq cl.2.2.2] at q'
            exact q'
          · walk_at "ls"
            refine ⟨D, _, rfl, DGet.k (k := .inr cl.2.2.1) upd_same, _, rfl, q'⟩
          rw [hF]
          refine ite2 (fun e => ?_) (fun e => ?_)
          · walk_at "ls"
            refine ⟨D, _, rfl, DPut.k (k := .inr cl.2.1) upd_same (Nat.lt_of_le_of_lt (show kvs.length ≤ 1000 by omega) (show 1000 < sizeLine by decide)), ?_⟩
            refine ⟨putK kvs (.inr cl.2.1) (.bl true), _, _, _, _, rfl, by rw [upd_upd], ?_, fun z => ?_⟩
            · have := length_putK kvs (.inr cl.2.1) (.bl true)
              omega
            · rw [hasK_put, hF, roundTo_snoc hcl]
              unfold stepF
              rw [e]
              simp [Bool.or_comm]
          · refine ⟨kvs, _, _, _, _, rfl, rfl, by omega, fun z => ?_⟩
            rw [hF, roundTo_snoc hcl]
            unfold stepF
            have : (cl.2.2.2 && roundTo B (markF B i) j cl.2.2.1) = false := by simpa using e
            rw [this]
            simp
        · rintro σ H1 ⟨kvs, v1, v4, v5, v6, rfl, e1, hl, hF⟩
          rw [lc] at hl hF
          refine ⟨kvs, _, _, _, _, _, rfl, e1, by omega, fun z => ?_⟩
          rw [hF]
          unfold roundTo
          rw [List.take_length]
          rfl
      · clear hl hF kvs
        rintro σ H1 ⟨kvs, v1, v3, v4, v5, v6, rfl, e1, hl, hF⟩
        subst e1
        rw [lk] at hl hF
        walk_at "ls"
        refine ⟨o, C, dx, _, _, rfl, s0 _ _ _ ho, T.cl, T.nk, bookF_k, k, rfl, ⟨_, .inl (.inl (s0 _ _ _ hk))⟩, fun E1 hE1 => ?_⟩
        have s1 := s0 kvs
        have hk1 := s1 _ _ hk
        have nkE : k ≠ E1 := ne_of_none hk1 hE1
        have nDE : D ≠ E1 := ne_of_none upd_same hE1
        have lz : kx.length < sizeLine := Nat.lt_of_le_of_lt (show kx.length ≤ 1000 by omega) (show 1000 < sizeLine by decide)
        refine lc_pure (walk_tup (xs := kx)) kx (keepK kvs H) rfl (fun i H x H' hi hy => hy) lz (fun acc => .inl (.inl (by rw [upd_ne nkE]; exact hk1))) (fun j y hj hyj => ?_) ?_
        · obtain ⟨ys, hys, hto⟩ := TupsAt.get hkt hyj
          obtain ⟨kd, hkd, rfl⟩ := map_get hys
          obtain ⟨t, rfl, ht⟩ := id hto
          have ht1 := s1 _ _ ht
          have ntE : t ≠ E1 := ne_of_none ht1 hE1
          refine ⟨t, _, rfl, .inl (.inl (by rw [upd_ne ntE]; exact ht1)), rfl, _, _, rfl, _, _, rfl, rfl, rfl, ?_⟩
          walk_at "ls"
          refine ⟨D, _, rfl, DGet.k (k := .inr kd.1) (by rw [upd_ne nDE]; exact upd_same), _, rfl, ?_⟩
          have ef : keepK kvs H (.ref t) = if hasK kvs kd.1 = true then some (.str kd.1) else none := by
            unfold keepK
            rw [fst_tup hto]
          show if hasK kvs kd.1 = true then _ else _
          refine ite2 (fun e => ?_) (fun e => ?_)
          · walk_at "ls"
            exact lc_yes hyj hj lz (by rw [ef, if_pos e])
          · exact lc_no hyj (by rw [ef, if_neg e])
        · rw [keepK_all kvs hkt]
          have el : (B.ks.filter fun k => hasK kvs k.1).map (·.1) = markList B := by
            unfold markList
            congr 1
            exact List.filter_congr fun x _ => hF x.1
          rw [el]
          exact q _ E1 (s1.free hE1) upd_same (s1.trans (same_new hE1))
end
end Ls
namespace Ls
open PySem PySem.Spec PyProof.Rows L2
/-! ### comprehensions over rows of things -/
section
variable {J : It} {n : Nat} {G : Hp → Prop} {Y : Nat → Hp → V → Hp → Prop} {α : Type}
def madeR (l : List α) (f : α → Option V) (i : Nat) : List V := (l.take i).filterMap f
theorem madeR_yes {l : List α} {f : α → Option V} {i : Nat} {a : α} {y : V} (ha : l[i]? = some a) (hf : f a = some y) : madeR l f (i + 1) = madeR l f i ++ [y] := by
  unfold madeR
  rw [List.take_add_one, ha, List.filterMap_append]
  simp [hf]
theorem madeR_no {l : List α} {f : α → Option V} {i : Nat} {a : α} (ha : l[i]? = some a) (hf : f a = none) : madeR l f (i + 1) = madeR l f i := by
  unfold madeR
  rw [List.take_add_one, ha, List.filterMap_append]
  simp [hf]
theorem madeR_len (l : List α) (f : α → Option V) (i : Nat) : (madeR l f i).length ≤ i := by
  unfold madeR
  exact Nat.le_trans (List.length_filterMap_le _ _) (by rw [List.length_take]; exact Nat.min_le_left _ _)
/-- a comprehension whose turns leave the heap as it is; each item stands for a thing of l, f tells what it gives -/
theorem lc_rows (w : Walk J n G Y) (xs : List V) (l : List α) (f : α → Option V) (hn : l.length = n) (hY : ∀ i H x H', i < n → Y i H x H' → H' = H ∧ xs[i]? = some x) {g : TG} {tt : TT} {te : TE} {vs : List Nat} {σ : L2.St} {H1 : Hp} {D : Addr} {Qd : Hp → Prop}
    (hz : n < sizeLine) (hG : ∀ acc, G (upd H1 D (.lst acc)))
    (hs : ∀ i x a, i < n → xs[i]? = some x → l[i]? = some a → g x (wipe σ vs) (upd H1 D (.lst (madeR l f i))) fun σ2 H2 => wipe σ2 vs = wipe σ vs ∧ tt σ2 H2 fun b H3 =>
      if b = true then te σ2 H3 fun y H4 => ∃ acc, H4 D = some (.lst acc) ∧ acc.length < sizeLine ∧ upd H4 D (.lst (acc ++ [y])) = upd H1 D (.lst (madeR l f (i + 1))) else H3 = upd H1 D (.lst (madeR l f (i + 1))))
    (hd : Qd (upd H1 D (.lst (l.filterMap f)))) :
    ∃ W : Nat → Nat → Hp → Prop, (∃ m, W 0 m (upd H1 D (.lst []))) ∧ ∀ i m H, W i m H →
      (J.stop i H ∧ Qd H) ∨ (J.go i H ∧ ∃ Nx : Hp → Prop, (∀ H', Nx H' → ∃ m', m' < m ∧ W (i + 1) m' H') ∧ ∀ x H', J.yld i H x H' → g x (wipe σ vs) H' fun σ2 H2 => wipe σ2 vs = wipe σ vs ∧ tt σ2 H2 fun b H3 =>
        if b = true then te σ2 H3 fun y H4 => ∃ acc, H4 D = some (.lst acc) ∧ acc.length < sizeLine ∧ Nx (upd H4 D (.lst (acc ++ [y]))) else Nx H3) := by
  refine lc_it w (fun i H => H = upd H1 D (.lst (madeR l f i))) rfl (fun i H _ e => by rw [e]; exact hG _) (fun i x H H' hi e y => ?_) (fun H e => ?_)
  · obtain ⟨e2, hx⟩ := hY i H x H' hi y
    have hi2 : i < l.length := by omega
    rw [e2, e]
    exact hs i x l[i] hi hx (List.getElem?_eq_getElem hi2)
  · have : madeR l f n = l.filterMap f := by unfold madeR; rw [← hn, List.take_length]
    rw [e, this]
    exact hd
theorem lr_yes {l : List α} {f : α → Option V} {i : Nat} {a : α} {y : V} {H1 : Hp} {D : Addr} {n : Nat} (ha : l[i]? = some a) (hi : i < n) (hz : n < sizeLine) (hf : f a = some y) :
    ∃ acc, (upd H1 D (.lst (madeR l f i))) D = some (.lst acc) ∧ acc.length < sizeLine ∧ upd (upd H1 D (.lst (madeR l f i))) D (.lst (acc ++ [y])) = upd H1 D (.lst (madeR l f (i + 1))) :=
  ⟨_, upd_same, Nat.lt_of_le_of_lt (madeR_len _ _ _) (Nat.lt_trans hi hz), by rw [upd_upd, madeR_yes ha hf]⟩
theorem lr_no {l : List α} {f : α → Option V} {i : Nat} {a : α} {H1 : Hp} {D : Addr} (ha : l[i]? = some a) (hf : f a = none) : upd H1 D (.lst (madeR l f i)) = upd H1 D (.lst (madeR l f (i + 1))) := by rw [madeR_no ha hf]
end
/-- a choice whose value is known -/
theorem tIf_to {t : TT} {ta tb : TE} {σ : L2.St} {H : Hp} {Q : VK} (v : V) (h : ∀ Q' : VK, Q' v H → tIf t ta tb σ H Q') (hq : Q v H) : tIf t ta tb σ H Q := h Q hq
theorem set_go {i : Nat} {x : V} {σ : L2.St} {H : Hp} {Q : L2.St → Hp → Prop} (h : Q (σ.set i (some x)) H) : gName i x σ H Q := h
theorem seq_go {a b : TS} {D : Ends} {σ : L2.St} {H : Hp} (h : a { D with nx := b D } σ H) : tSeq a b D σ H := h
end Ls
namespace Ls
open PySem PySem.Spec PyProof.Rows L2
/-! ### short steps -/
local macro_rules | `(tactic| walk_at "ls_ne") => `(tactic| first | assumption | exact Ne.symm (by assumption) | exact ne_of_none (by assumption) (by assumption) | exact Ne.symm (ne_of_none (by assumption) (by assumption)))
local macro_rules | `(tactic| walk_at "ls_hp") => `(tactic| first
  | with_reducible assumption
  | exact upd_same
  | exact Eq.trans (upd_ne (by walk_at "ls_ne")) (by walk_at "ls_hp"))
local macro_rules | `(tactic| walk_at "ls_st") => `(tactic| first
  | with_reducible assumption
  | exact Stm.upd (by walk_at "ls_st") (by first | walk_at "ls_ne" | exact (Stm.noneS (by assumption) (by assumption)).1) (by first | walk_at "ls_ne" | exact (Stm.noneS (by assumption) (by assumption)).2))
local macro_rules | `(tactic| walk_at "ls1") => `(tactic| first
  | refine ⟨_, rfl, ?_⟩
  | refine ⟨_, _, rfl, rfl, ?_⟩
  | refine ⟨_, _, _, _, rfl, rfl, .inl (.inl (by walk_at "ls_hp")), rfl, ?_⟩
  | refine ⟨_, _, _, _, rfl, rfl, (by walk_at "ls_hp"), rfl, ?_⟩
  | refine ⟨rfl, _, rfl, ?_⟩
  | refine ⟨.inl ⟨rfl, _, .inl (.inl (by walk_at "ls_hp"))⟩, ?_⟩)
local macro_rules | `(tactic| walk_at "ls") => `(tactic| repeat (walk_at "ls1"))

/-! ### tight kinds and columns -/
def bareOf (z : Str) : Str := "bare " ++ z
def tightL (B : Shp) (ck : List Str) : List Str := (markList B).filter fun z => decide (bareOf z ∈ ck)
abbrev Cl := Str × Str × Str × Bool
def tightC (B : Shp) (ck : List Str) : List Cl := B.cs.filter fun c => c.2.2.2 && (decide (c.2.1 ∈ tightL B ck) && decide (c.2.2.1 ∈ tightL B ck))
theorem filterMap_if {α β : Type} (p : α → Bool) (g : α → β) : ∀ l : List α, l.filterMap (fun a => if p a = true then some (g a) else none) = (l.filter p).map g
  | [] => rfl
  | a :: l => by
    rw [List.filterMap_cons, List.filter_cons, filterMap_if p g l]
    cases p a <;> rfl
theorem mark_len {B : Shp} (hB : B.Ok) : (markList B).length ≤ 3 := by
  unfold markList
  rw [List.length_map]
  exact Nat.le_trans (List.length_filter_le _ _) hB.nk3
theorem tight_len {B : Shp} (hB : B.Ok) (ck : List Str) : (tightL B ck).length ≤ 3 := Nat.le_trans (List.length_filter_le _ _) (mark_len hB)
theorem mark_nm {B : Shp} (hB : B.Ok) : ∀ z ∈ markList B, Nm z := fun z hz => by
  unfold markList at hz
  obtain ⟨k, hk, rfl⟩ := List.mem_map.mp hz
  exact hB.nm _ (List.mem_append_left _ (List.mem_map_of_mem (List.mem_filter.mp hk).1))
theorem bare_ok {z : Str} (h : Nm z) : okB 100 (bareOf z) = true := okB_mono (okB_append (show okB 5 "bare " = true by decide +kernel) (nm_ok h)) (by decide)
section
variable {P : Program} {w : World} {K : PySem.W.Frag} {mg : Str → Option Value} {base : Heap}
abbrev s_tight_kinds : Stmt := topS 51
theorem sc_tight_kinds : FnScope ["book", "kind"] ["book"] (defScope s_tight_kinds) := ⟨rfl, rfl, rfl, by decide +kernel, rfl, by decide +kernel, by decide +kernel⟩
abbrev N_tight_kinds : List Str := ["book", "kind"]
def spTightK (C : Addr) : Sp := fun vs H Q _ => ∃ (o : Addr) (B : Shp) (ck : List Str), vs = [.ref o] ∧ BookS C H o B ck ∧ B.Ok ∧
  ∀ (H' : Hp) (p : Addr), H p = none → H' p = some (.lst ((tightL B ck).map V.str)) → Same H H' → Q (.ref p) H'
theorem ok_tightK {C : Addr} {f : Addr} {fd : FuncData} (F : Fun K "tight_kinds" "tight_kinds" s_tight_kinds f fd) (T : Bt mg) (O_Book_markable : OwnM P w K mg base CX0 1 C "markable" ["self"] (spMark C)) (O_Book_contains : OwnM P w K mg base CX0 2 C "__contains__" ["self", "check"] (spHasB K C)) :
    FnOk P w K mg base CX0 3 f fd ["book"] (spTightK C) := by
  refine F.ok sc_tight_kinds (fun vs H Q E h => ?_) (fun cdv A outer s H vs Q E hr h => ?_)
  · obtain ⟨o, B, ck, rfl, _⟩ := h
    rfl
  · obtain ⟨o, B, ck, rfl, hb, hB, q⟩ := h
    have hu := hu_of hr
    refine ⟨_, (pss_one (ps_ret (pe_lc (own := [("kind", 1)]) (g := gName 1) (by rfl) sc_tight_kinds.nd (pi_list (own_meth0 O_Book_markable hr (by first | decide | omega) (pv 0))) (blkOk_by (own := [("kind", 1)]) (N := N_tight_kinds) (sc := defScope s_tight_kinds) (by decide +kernel)) (fun _ _ _ _ _ => (pg_name (i := 1) sc_tight_kinds.nd rfl (Or.inl rfl) (Or.inr rfl))) (fun _ _ _ _ _ => (pts_one (pt_cmpR (op_inO O_Book_contains hr (by first | decide | omega)) (pe_op op_add_str pe_str (pv 1)) (pv 0) (by rfl)))) (fun _ _ _ _ _ => (pv 1))))), ?_⟩
    obtain ⟨dx, k, c, m, x, ho⟩ := hb.ins
    have no : ∀ {fl : Str}, ¬ fl = "_checks" → ¬ fl = "_menu" → ¬ fl = "_columns" → ¬ fl = "_kinds" → (bookF k c m x).lookup fl = none := fun h1 h2 h3 h4 => bookF_no h1 h2 h3 h4
    walk_at "ls"
    refine ⟨o, _, _, rfl, ho, no (by decide +kernel) (by decide +kernel) (by decide +kernel) (by decide +kernel), ?_⟩
    refine ⟨o, B, ck, rfl, hb, hB, fun H1 p hp h1 s1 => ?_⟩
    refine ⟨p, rfl, ⟨_, .inl (.inl h1)⟩, fun D hD => ?_⟩
    have npD : p ≠ D := ne_of_none h1 hD
    have lm := mark_len hB
    have lz : (markList B).length < sizeLine := Nat.lt_of_le_of_lt lm (by decide)
    refine lc_rows (walk_list (xs := (markList B).map V.str)) ((markList B).map V.str) (markList B) (fun z => if decide (bareOf z ∈ ck) = true then some (V.str z) else none) (by rw [List.length_map]) (fun i H x H' hi hy => hy) (by rw [List.length_map]; exact lz) (fun acc => .inl (.inl (by rw [upd_ne npD]; exact h1))) (fun j y z hj hyj hz => ?_) ?_
    · rw [List.getElem?_map, hz] at hyj
      cases hyj
      rw [List.length_map] at hj
      have nz := mark_nm hB z (List.mem_of_getElem? hz)
      have sD := s1.trans (same_new (o := .lst (madeR (markList B) (fun z => if decide (bareOf z ∈ ck) = true then some (V.str z) else none) j)) hD)
      refine ⟨rfl, ?_⟩
      walk_at "ls"
      refine ⟨room_str (n := 5) (m := 8) (by decide +kernel) nz.1.2.1 (by decide), ?_⟩
      walk_at "ls"
      refine ⟨o, dx, _, rfl, sD _ _ ho, ?_⟩
      refine ⟨o, _, B, ck, rfl, hb.same sD, .inl ⟨_, rfl, Nat.le_trans (okB_len (bare_ok nz)) (by decide)⟩, _, rfl, _, rfl, ?_⟩
      show if decide (bareOf z ∈ ck) = true then _ else _
      refine ite2 (fun e => ?_) (fun e => ?_)
      · walk_at "ls"
        exact lr_yes hz hj lz (if_pos e)
      · exact lr_no hz (if_neg e)
    rw [filterMap_if (fun z => decide (bareOf z ∈ ck)) V.str]
    exact q _ D (s1.free hD) upd_same (s1.trans (same_new hD))
abbrev s_tight_columns : Stmt := topS 52
theorem sc_tight_columns : FnScope ["book", "kinds", "column"] ["book"] (defScope s_tight_columns) := ⟨rfl, rfl, rfl, by decide +kernel, rfl, by decide +kernel, by decide +kernel⟩
abbrev N_tight_columns : List Str := ["book", "kinds", "column"]
def spTightC (C : Addr) : Sp := fun vs H Q _ => ∃ (o : Addr) (B : Shp) (ck : List Str), vs = [.ref o] ∧ BookS C H o B ck ∧ B.Ok ∧
  ∀ (H' : Hp) (p : Addr) (xs : List V), H p = none → H' p = some (.lst xs) → TupsAt H' xs ((tightC B ck).map colV) → Same H H' → Q (.ref p) H'
theorem ok_tightC {C : Addr} {f : Addr} {fd : FuncData} (F : Fun K "tight_columns" "tight_columns" s_tight_columns f fd) (T : Bt mg) (O_tight_kinds : Own P w K mg base CX0 3 "tight_kinds" ["book"] (spTightK C)) (O_Book_columns : OwnM P w K mg base CX0 1 C "columns" ["self"] (spColumns C)) :
    FnOk P w K mg base CX0 4 f fd ["book"] (spTightC C) := by
  refine F.ok sc_tight_columns (fun vs H Q E h => ?_) (fun cdv A outer s H vs Q E hr h => ?_)
  · obtain ⟨o, B, ck, rfl, _⟩ := h
    rfl
  · obtain ⟨o, B, ck, rfl, hb, hB, q⟩ := h
    have hu := hu_of hr
    refine ⟨_, (pss_cons (ps_set (i := 1) sc_tight_columns.nd rfl (Or.inr rfl) (own_call O_tight_kinds hr (by first | decide | omega) (pa_cons (pv 0) pa_nil)))
      (pss_one (ps_ret (pe_lc (own := [("column", 2)]) (g := gName 2) (by rfl) sc_tight_columns.nd (pi_list (own_meth0 O_Book_columns hr (by first | decide | omega) (pv 0))) (blkOk_by (own := [("column", 2)]) (N := N_tight_columns) (sc := defScope s_tight_columns) (by decide +kernel)) (fun _ _ _ _ _ => (pg_name (i := 2) sc_tight_columns.nd rfl (Or.inl rfl) (Or.inr rfl))) (fun _ _ _ _ _ => (pts_one (PW.pt (pw_and (pt_cmpR op_eq (pe_ix (ixT K) (pv 2) pe_int (fun _ _ => rfl)) pe_str (nomark _)) (pw_and (pt_cmpR (in_seq K) (pe_ix (ixT K) (pv 2) pe_int (fun _ _ => rfl)) (pv 1) (by rfl)) (pw_and1 (pt_cmpR (in_seq K) (pe_ix (ixT K) (pv 2) pe_int (fun _ _ => rfl)) (pv 1) (by rfl)))))))) (fun _ _ _ _ _ => (pv 2)))))), ?_⟩
    obtain ⟨dx, k, c, m, x, ho⟩ := hb.ins
    have no : ∀ {fl : Str}, ¬ fl = "_checks" → ¬ fl = "_menu" → ¬ fl = "_columns" → ¬ fl = "_kinds" → (bookF k c m x).lookup fl = none := fun h1 h2 h3 h4 => bookF_no h1 h2 h3 h4
    walk_at "ls"
    refine ⟨o, B, ck, rfl, hb, hB, fun H1 p hp h1 s1 => ?_⟩
    walk_at "ls"
    refine ⟨o, _, _, rfl, s1 _ _ ho, no (by decide +kernel) (by decide +kernel) (by decide +kernel) (by decide +kernel), ?_⟩
    refine ⟨o, _, _, _, rfl, hb.same s1, fun l cx hl hct => ?_⟩
    rw [csU_rows] at hct
    have s2 : Same H1 (upd H1 l (.lst cx)) := same_new hl
    have h2 := upd_same (H := H1) (a := l) (o := .lst cx)
    have h1p := s2 _ _ h1
    have hct2 := hct.keep (.same s2)
    generalize upd H1 l (.lst cx) = H2 at *
    have lc : cx.length = B.cs.length := by rw [hct.len, List.length_map]
    have bc8 := hB.nc
    refine ⟨l, rfl, ⟨_, .inl (.inl h2)⟩, fun D hD => ?_⟩
    have nlD : l ≠ D := ne_of_none h2 hD
    have npD : p ≠ D := ne_of_none h1p hD
    refine lc_it (walk_list (xs := cx)) (fun j H3 => ∃ ys : List V, H3 D = some (.lst ys) ∧ TupsAt H3 ys (((B.cs.take j).filter fun c => c.2.2.2 && (decide (c.2.1 ∈ tightL B ck) && decide (c.2.2.1 ∈ tightL B ck))).map colV) ∧ Same H2 H3)
      ⟨[], upd_same, .nil, same_new hD⟩ (fun j H3 _ ⟨_, _, _, s3⟩ => .inl (.inl (s3 _ _ h2))) ?_ ?_
    · rintro j y Hy H3 hj ⟨ys, h3, h3t, s3⟩ ⟨rfl, hy⟩
      obtain ⟨zs, hzs, t, rfl, ht⟩ := TupsAt.get (hct2.keep (.same s3)) hy
      obtain ⟨cl, hcl, rfl⟩ := map_get hzs
      have h3p := s3 _ _ h1p
      have ly : ys.length ≤ 8 := by
        rw [h3t.len, List.length_map]
        refine Nat.le_trans (List.length_filter_le _ _) ?_
        rw [List.length_take]
        omega
      refine ⟨rfl, ?_⟩
      refine and2 cl.2.2.2 (decide (cl.2.1 ∈ tightL B ck) && decide (cl.2.2.1 ∈ tightL B ck)) (fun Q' q' => ?_) (fun _ Q' q' => ?_) ?_
      · walk_at "ls"
        rw [fall_eq]
        exact q'
      · refine and2 (decide (cl.2.1 ∈ tightL B ck)) (decide (cl.2.2.1 ∈ tightL B ck)) (fun Q' q' => ?_) (fun _ Q' q' => ?_) q'
        · walk_at "ls"
          refine ⟨p, _, rfl, .inl (.inl (.inl h3p)), rfl, all_flat _, _, rfl, ?_⟩
          rw [in_strs]
          exact q'
        · walk_at "ls"
          refine ⟨p, _, rfl, .inl (.inl (.inl h3p)), rfl, all_flat _, _, rfl, ?_⟩
          rw [in_strs]
          exact q'
      · refine ite2 (fun e => ?_) (fun e => ?_)
        · walk_at "ls"
          refine ⟨ys, h3, small1000 (by omega), ys ++ [.ref t], upd_same, ?_, Same.set s3 hD⟩
          rw [List.take_add_one, hcl, Option.toList_some, List.filter_append, List.map_append, List.filter_cons, if_pos e]
          exact (h3t.keep (.lst h3)).snoc ⟨t, rfl, by rw [upd_ne (ne_of ht h3 fun z => nomatch z)]; exact ht⟩
        · refine ⟨ys, h3, ?_, s3⟩
          rw [List.take_add_one, hcl, Option.toList_some, List.filter_append, List.map_append, List.filter_cons, if_neg e, List.filter_nil, List.map_nil, List.append_nil]
          exact h3t
    · rintro H3 ⟨ys, h3, h3t, s3⟩
      rw [lc, List.take_length] at h3t
      exact q H3 D ys ((s1.trans s2).free hD) h3 h3t ((s1.trans s2).trans s3)
end
end Ls
namespace Ls
open PySem PySem.Spec PyProof.Rows L2
/-! ### ranks: two ways to reckon them -/
abbrev Ed := Str × Str
/-- the first way: rounds over the edges -/
def relax (f : Str → Nat) (e : Ed) : Str → Nat := if f e.1 ≤ f e.2 then (fun z => if z = e.1 then f e.2 + 1 else f z) else f
def roundR (es : List Ed) (f : Str → Nat) : Str → Nat := es.foldl relax f
def roundsR (es : List Ed) : Nat → Str → Nat
  | 0 => fun _ => 0
  | n + 1 => roundR es (roundsR es n)
def ranksP (T : List Str) (es : List Ed) (n : Nat) : Option (List (Str × Nat)) := if es.any (fun e => decide (roundsR es n e.1 ≤ roundsR es n e.2)) = true then none else some (T.map fun k => (k, roundsR es n k))
/-- the second way: level by level -/
def isFree (es : List Ed) (left : List Str) (k : Str) : Bool := (es.filter fun e => decide (e.1 = k) && decide (e.2 ∈ left)).isEmpty
def freeOf (es : List Ed) (left : List Str) : List Str := left.filter (isFree es left)
def valStep (r : Str → Nat) (k : Str) (a : Nat) (e : Ed) : Nat := if e.1 = k ∧ a ≤ r e.2 then r e.2 + 1 else a
def valOf (es : List Ed) (r : Str → Nat) (k : Str) : Nat := es.foldl (valStep r k) 0
def nextR (es : List Ed) (left : List Str) (r : Str → Nat) : Str → Nat := fun z => if z ∈ freeOf es left then valOf es r z else r z
def restOf (es : List Ed) (left : List Str) : List Str := left.filter fun k => !decide (k ∈ freeOf es left)
def lawRun (es : List Ed) : Nat → List Str → (Str → Nat) → Option (Str → Nat)
  | _, [], r => some r
  | 0, _ :: _, _ => none
  | n + 1, k :: l, r => if freeOf es (k :: l) = [] then none else lawRun es n (restOf es (k :: l)) (nextR es (k :: l) r)
def ranksL (T : List Str) (es : List Ed) : Option (List (Str × Nat)) := (lawRun es T.length T fun _ => 0).map fun r => T.map fun k => (k, r k)
/-! each grows -/
theorem relax_ge (f : Str → Nat) (e : Ed) (z : Str) : f z ≤ relax f e z := by
  unfold relax
  split
  · show f z ≤ if z = e.1 then f e.2 + 1 else f z
    split
    · rename_i h1 h2
      rw [h2]
      omega
    · exact Nat.le_refl _
  · exact Nat.le_refl _
theorem fold_ge : ∀ (es : List Ed) (f : Str → Nat) (z : Str), f z ≤ es.foldl relax f z
  | [], f, z => Nat.le_refl _
  | e :: es, f, z => Nat.le_trans (relax_ge f e z) (fold_ge es (relax f e) z)
theorem fold_gets' {es : List Ed} {e : Ed} (h : e ∈ es) : ∀ (f : Str → Nat), f e.2 + 1 ≤ es.foldl relax f e.1 := by
  induction es with
  | nil => cases h
  | cons d es ih =>
    intro f
    rcases List.mem_cons.mp h with rfl | h
    · refine Nat.le_trans ?_ (fold_ge es (relax f e) e.1)
      unfold relax
      split
      · simp
      · omega
    · exact Nat.le_trans (Nat.add_le_add_right (relax_ge f d e.2) 1) (ih h (relax f d))
/-- r tells the ranks -/
structure IsRank (T : List Str) (es : List Ed) (r : Str → Nat) : Prop where
  lt : ∀ e ∈ es, r e.2 < r e.1
  why : ∀ k ∈ T, r k = 0 ∨ ∃ e ∈ es, e.1 = k ∧ r k = r e.2 + 1
theorem fold_le_r {T : List Str} {es0 : List Ed} {r : Str → Nat} (h : IsRank T es0 r) : ∀ (es : List Ed) (f : Str → Nat), (∀ e ∈ es, e ∈ es0) → (∀ z, f z ≤ r z) → ∀ z, es.foldl relax f z ≤ r z
  | [], f, _, hf, z => hf z
  | e :: es, f, hs, hf, z => fold_le_r h es (relax f e) (fun d hd => hs d (.tail _ hd)) (fun y => by
      unfold relax
      split
      · show (if y = e.1 then f e.2 + 1 else f y) ≤ r y
        split
        · rename_i h2
          rw [h2]
          have h3 := h.lt e (hs e (.head _))
          have h4 := hf e.2
          omega
        · exact hf y
      · exact hf y) z
theorem rounds_le {T : List Str} {es : List Ed} {r : Str → Nat} (h : IsRank T es r) : ∀ (i : Nat) (z : Str), roundsR es i z ≤ r z
  | 0, z => Nat.zero_le _
  | i + 1, z => fold_le_r h es (roundsR es i) (fun _ h => h) (rounds_le h i) z
theorem rounds_ge {T : List Str} {es : List Ed} {r : Str → Nat} (h : IsRank T es r) (hT : ∀ e ∈ es, e.1 ∈ T ∧ e.2 ∈ T) : ∀ (i : Nat) (z : Str), z ∈ T → r z ≤ i → r z ≤ roundsR es i z
  | 0, z, _, hz => by omega
  | i + 1, z, hm, hz => by
    by_cases h1 : r z ≤ i
    · exact Nat.le_trans (rounds_ge h hT i z hm h1) (fold_ge es (roundsR es i) z)
    · rcases h.why z hm with h0 | ⟨e, he, e1, e2⟩
      · omega
      · have h3 := rounds_ge h hT i e.2 (hT e he).2 (by omega)
        have h4 := fold_gets' he (roundsR es i)
        rw [e1] at h4
        show r z ≤ es.foldl relax (roundsR es i) z
        omega
theorem ranksP_of {T : List Str} {es : List Ed} {r : Str → Nat} {n : Nat} (h : IsRank T es r) (hT : ∀ e ∈ es, e.1 ∈ T ∧ e.2 ∈ T) (hn : ∀ k ∈ T, r k ≤ n) : ranksP T es n = some (T.map fun k => (k, r k)) := by
  have e : ∀ k ∈ T, roundsR es n k = r k := fun k hk => Nat.le_antisymm (rounds_le h n k) (rounds_ge h hT n k hk (hn k hk))
  unfold ranksP
  have ha : es.any (fun e => decide (roundsR es n e.1 ≤ roundsR es n e.2)) = false := by
    rw [List.any_eq_false]
    intro d hd
    rw [e _ (hT d hd).1, e _ (hT d hd).2]
    have := h.lt d hd
    simp
    omega
  rw [ha, if_neg (by decide)]
  congr 1
  exact List.map_congr_left fun k hk => by rw [e k hk]
theorem least_of (f : Str → Nat) : ∀ (l : List Str), l ≠ [] → ∃ k ∈ l, ∀ g ∈ l, f k ≤ f g
  | [], h => absurd rfl h
  | [a], _ => ⟨a, .head _, fun g hg => by rw [List.mem_singleton.mp hg]; exact Nat.le_refl _⟩
  | a :: b :: l, _ => by
    obtain ⟨k, hk, hm⟩ := least_of f (b :: l) (by simp)
    by_cases h : f a ≤ f k
    · exact ⟨a, .head _, fun g hg => by
        rcases List.mem_cons.mp hg with rfl | hg
        · exact Nat.le_refl _
        · exact Nat.le_trans h (hm g hg)⟩
    · exact ⟨k, .tail _ hk, fun g hg => by
        rcases List.mem_cons.mp hg with rfl | hg
        · omega
        · exact hm g hg⟩
theorem ranksP_none {T : List Str} {es : List Ed} {n : Nat} {l : List Str} (hl : l ≠ []) (h : ∀ k ∈ l, ∃ e ∈ es, e.1 = k ∧ e.2 ∈ l) : ranksP T es n = none := by
  obtain ⟨k, hk, hm⟩ := least_of (roundsR es n) l hl
  obtain ⟨e, he, e1, e2⟩ := h k hk
  unfold ranksP
  rw [if_pos]
  exact List.any_eq_true.mpr ⟨e, he, decide_eq_true (by rw [e1]; exact hm _ e2)⟩
/-! the law's way -/
theorem notFree {es : List Ed} {left : List Str} {k : Str} (h : isFree es left k = false) : ∃ e ∈ es, e.1 = k ∧ e.2 ∈ left := by
  unfold isFree at h
  have h2 : (es.filter fun e => decide (e.1 = k) && decide (e.2 ∈ left)) ≠ [] := fun e => by rw [e] at h; cases h
  obtain ⟨e, he⟩ := List.exists_mem_of_ne_nil _ h2
  obtain ⟨h3, h4⟩ := List.mem_filter.mp he
  rw [Bool.and_eq_true, decide_eq_true_eq, decide_eq_true_eq] at h4
  exact ⟨e, h3, h4⟩
theorem free_no {es : List Ed} {left : List Str} {k : Str} (h : isFree es left k = true) : ∀ e ∈ es, e.1 = k → e.2 ∉ left := fun e he e1 e2 => by
  unfold isFree at h
  have : e ∈ (es.filter fun e => decide (e.1 = k) && decide (e.2 ∈ left)) := List.mem_filter.mpr ⟨he, by simp [e1, e2]⟩
  rw [List.isEmpty_iff.mp h] at this
  cases this
theorem rest_lt {es : List Ed} {left : List Str} (h : freeOf es left ≠ []) : (restOf es left).length < left.length := by
  obtain ⟨k, hk⟩ := List.exists_mem_of_ne_nil _ h
  have hm := (List.mem_filter.mp hk).1
  unfold restOf
  rcases Nat.lt_or_ge ((left.filter fun k => !decide (k ∈ freeOf es left)).length) left.length with h1 | h1
  · exact h1
  · have e := List.filter_eq_self.mp (List.Sublist.eq_of_length_le (List.filter_sublist) h1 : left.filter (fun k => !decide (k ∈ freeOf es left)) = left) k hm
    simp [hk] at e
theorem lawRun_none {es : List Ed} : ∀ (n : Nat) (left : List Str) (r : Str → Nat), left.length ≤ n → lawRun es n left r = none → ∃ l, l ≠ [] ∧ ∀ k ∈ l, ∃ e ∈ es, e.1 = k ∧ e.2 ∈ l
  | n, [], r, _, h => by
    unfold lawRun at h
    cases h
  | 0, k :: l, r, hn, _ => by simp at hn
  | n + 1, k :: l, r, hn, h => by
    unfold lawRun at h
    by_cases hf : freeOf es (k :: l) = []
    · refine ⟨k :: l, by simp, fun z hz => notFree ?_⟩
      have := List.filter_eq_nil_iff.mp hf z hz
      simpa using this
    · rw [if_neg hf] at h
      exact lawRun_none n _ _ (by have := rest_lt hf; omega) h
/-- what holds of the kinds that are taken away -/
structure Lev (T : List Str) (es : List Ed) (left : List Str) (r : Str → Nat) : Prop where
  sub : ∀ k ∈ left, k ∈ T
  out : ∀ k ∈ T, k ∉ left → ∀ e ∈ es, e.1 = k → e.2 ∉ left ∧ r e.2 < r k
  why : ∀ k ∈ T, k ∉ left → r k = 0 ∨ ∃ e ∈ es, e.1 = k ∧ r k = r e.2 + 1
  top : ∀ k ∈ T, k ∉ left → r k + left.length < T.length
theorem val_fold (r : Str → Nat) (k : Str) : ∀ (es : List Ed) (a : Nat), a ≤ es.foldl (valStep r k) a ∧ (∀ e ∈ es, e.1 = k → r e.2 < es.foldl (valStep r k) a) ∧ (es.foldl (valStep r k) a = a ∨ ∃ e ∈ es, e.1 = k ∧ es.foldl (valStep r k) a = r e.2 + 1)
  | [], a => ⟨Nat.le_refl _, (fun e he => nomatch he), .inl rfl⟩
  | d :: es, a => by
    obtain ⟨h1, h2, h3⟩ := val_fold r k es (valStep r k a d)
    have h0 : a ≤ valStep r k a d ∧ (d.1 = k → r d.2 < valStep r k a d) ∧ (valStep r k a d = a ∨ (d.1 = k ∧ valStep r k a d = r d.2 + 1)) := by
      unfold valStep
      by_cases c : d.1 = k ∧ a ≤ r d.2
      · rw [if_pos c]
        exact ⟨by omega, fun _ => by omega, .inr ⟨c.1, rfl⟩⟩
      · rw [if_neg c]
        refine ⟨Nat.le_refl _, fun e => ?_, .inl rfl⟩
        rcases Nat.lt_or_ge (r d.2) a with h | h
        · exact h
        · exact absurd ⟨e, h⟩ c
    refine ⟨Nat.le_trans h0.1 h1, fun e he e1 => ?_, ?_⟩
    · rcases List.mem_cons.mp he with rfl | he
      · exact Nat.lt_of_lt_of_le (h0.2.1 e1) h1
      · exact h2 e he e1
    · rcases h3 with h3 | ⟨e, he, e1, e2⟩
      · rcases h0.2.2 with h4 | ⟨e1, h4⟩
        · exact .inl (by rw [List.foldl_cons, h3, h4])
        · exact .inr ⟨d, .head _, e1, by rw [List.foldl_cons, h3, h4]⟩
      · exact .inr ⟨e, .tail _ he, e1, e2⟩
theorem free_mem {es : List Ed} {left : List Str} {k : Str} (h : k ∈ freeOf es left) : k ∈ left ∧ isFree es left k = true := List.mem_filter.mp h
theorem rest_mem {es : List Ed} {left : List Str} {k : Str} : k ∈ restOf es left ↔ k ∈ left ∧ k ∉ freeOf es left := by
  unfold restOf
  rw [List.mem_filter]
  simp
theorem Lev.next {T : List Str} {es : List Ed} {left : List Str} {r : Str → Nat} (L : Lev T es left r) (hT : ∀ e ∈ es, e.1 ∈ T ∧ e.2 ∈ T) (hf : freeOf es left ≠ []) (h0 : left = T ∨ True) (hlen : left.length ≤ T.length) : Lev T es (restOf es left) (nextR es left r) := by
  have hlt := rest_lt hf
  have old : ∀ k, k ∉ left → nextR es left r k = r k := fun k hk => if_neg fun h => hk (free_mem h).1
  refine ⟨fun k hk => L.sub k (rest_mem.mp hk).1, fun k hk hn e he e1 => ?_, fun k hk hn => ?_, fun k hk hn => ?_⟩
  · by_cases hfr : k ∈ freeOf es left
    · have h2 := free_no (free_mem hfr).2 e he e1
      refine ⟨fun h => h2 (rest_mem.mp h).1, ?_⟩
      rw [old _ h2]
      show r e.2 < if k ∈ freeOf es left then valOf es r k else r k
      rw [if_pos hfr]
      exact (val_fold r k es 0).2.1 e he e1
    · have hk2 : k ∉ left := fun h => hn (rest_mem.mpr ⟨h, hfr⟩)
      obtain ⟨h2, h3⟩ := L.out k hk hk2 e he e1
      refine ⟨fun h => h2 (rest_mem.mp h).1, ?_⟩
      rw [old _ h2, old _ hk2]
      exact h3
  · by_cases hfr : k ∈ freeOf es left
    · have ev : nextR es left r k = valOf es r k := if_pos hfr
      rw [ev]
      rcases (val_fold r k es 0).2.2 with h | ⟨e, he, e1, e2⟩
      · exact .inl h
      · refine .inr ⟨e, he, e1, ?_⟩
        rw [old _ (free_no (free_mem hfr).2 e he e1)]
        exact e2
    · have hk2 : k ∉ left := fun h => hn (rest_mem.mpr ⟨h, hfr⟩)
      rcases L.why k hk hk2 with h | ⟨e, he, e1, e2⟩
      · exact .inl (by rw [old _ hk2]; exact h)
      · exact .inr ⟨e, he, e1, by rw [old _ hk2, old _ (L.out k hk hk2 e he e1).1]; exact e2⟩
  · by_cases hfr : k ∈ freeOf es left
    · have ev : nextR es left r k = valOf es r k := if_pos hfr
      rw [ev]
      rcases (val_fold r k es 0).2.2 with h | ⟨e, he, e1, e2⟩
      · have h' : valOf es r k = 0 := h
        rw [h']
        omega
      · have h2 := free_no (free_mem hfr).2 e he e1
        have h3 := L.top e.2 (hT e he).2 h2
        have h' : valOf es r k = r e.2 + 1 := e2
        rw [h']
        omega
    · have hk2 : k ∉ left := fun h => hn (rest_mem.mpr ⟨h, hfr⟩)
      have h3 := L.top k hk hk2
      rw [old _ hk2]
      omega
theorem lawRun_some {T : List Str} {es : List Ed} (hT : ∀ e ∈ es, e.1 ∈ T ∧ e.2 ∈ T) : ∀ (n : Nat) (left : List Str) (r r' : Str → Nat), Lev T es left r → left.length ≤ T.length → lawRun es n left r = some r' → Lev T es [] r'
  | n, [], r, r', L, _, h => by
    unfold lawRun at h
    cases h
    exact L
  | 0, k :: l, r, r', _, _, h => by
    unfold lawRun at h
    cases h
  | n + 1, k :: l, r, r', L, hl, h => by
    unfold lawRun at h
    by_cases hf : freeOf es (k :: l) = []
    · rw [if_pos hf] at h
      cases h
    · rw [if_neg hf] at h
      exact lawRun_some hT n _ _ _ (L.next hT hf (.inr trivial) hl) (by have := rest_lt hf; omega) h
/-- THE TWO WAYS tell the same -/
theorem ranks_same {T : List Str} {es : List Ed} {n : Nat} (hT : ∀ e ∈ es, e.1 ∈ T ∧ e.2 ∈ T) (hn : T.length ≤ n) : ranksL T es = ranksP T es n := by
  unfold ranksL
  cases h : lawRun es T.length T fun _ => 0 with
  | none =>
    obtain ⟨l, hl, hc⟩ := lawRun_none _ _ _ (Nat.le_refl _) h
    rw [ranksP_none hl hc]
    rfl
  | some r =>
    have L := lawRun_some hT _ _ _ _ (show Lev T es T fun _ => 0 from ⟨fun _ h => h, fun k hk hn => absurd hk hn, fun k hk hn => absurd hk hn, fun k hk hn => absurd hk hn⟩) (Nat.le_refl _) h
    have R : IsRank T es r := ⟨fun e he => (L.out e.1 (hT e he).1 (by simp) e he rfl).2, fun k hk => L.why k hk (by simp)⟩
    rw [ranksP_of R hT fun k hk => by have := L.top k hk (by simp); omega]
    rfl
end Ls
namespace Ls
open PySem PySem.Spec PyProof.Rows L2
/-! ### a dict of texts and numbers, as a list of keys and a way to reckon the number -/
def tabV (T : List Str) (f : Str → Nat) : List (Key × V) := T.map fun k => (Sum.inr k, V.int ((f k : Nat) : Int))
theorem tabV_len (T : List Str) (f : Str → Nat) : (tabV T f).length = T.length := by unfold tabV; rw [List.length_map]
theorem tabV_val : ∀ {T : List Str} {f : Str → Nat} {z : Str}, z ∈ T → valV (tabV T f) (Sum.inr z) = some (V.int ((f z : Nat) : Int))
  | k :: T, f, z, h => by
    unfold tabV
    rw [List.map_cons]
    by_cases e : k = z
    · rw [valV_pos (show (Sum.inr k : Key) = Sum.inr z by rw [e]), e]
    · rw [valV_neg (fun h => e (Sum.inr.inj h))]
      exact tabV_val (List.mem_of_ne_of_mem (fun h => e h.symm) h)
theorem tabV_no : ∀ {T : List Str} {f : Str → Nat} {z : Str}, z ∉ T → valV (tabV T f) (Sum.inr z) = none
  | [], _, _, _ => rfl
  | k :: T, f, z, h => by
    unfold tabV
    rw [List.map_cons, valV_neg (fun e => h (by rw [Sum.inr.inj e]; exact .head _))]
    exact tabV_no (fun h2 => h (.tail _ h2))
theorem tabV_put {T : List Str} {f : Str → Nat} {z : Str} (h : z ∈ T) (m : Nat) : putK (tabV T f) (Sum.inr z) (V.int ((m : Nat) : Int)) = tabV T (fun y => if y = z then m else f y) := by
  unfold putK
  rw [valV_any, tabV_val h]
  simp only [Option.isSome_some, if_true]
  unfold tabV
  rw [List.map_map]
  refine List.map_congr_left fun y _ => ?_
  show (if (Sum.inr y : Key) = Sum.inr z then _ else _) = _
  by_cases e : y = z
  · subst e
    rw [if_pos rfl]
    show _ = (Sum.inr y, V.int (((if y = y then m else f y : Nat)) : Int))
    rw [if_pos rfl]
  · rw [if_neg (fun h => e (Sum.inr.inj h))]
    show _ = (Sum.inr y, V.int (((if y = z then m else f y : Nat)) : Int))
    rw [if_neg e]
theorem tabV_new {T : List Str} {f : Str → Nat} {z : Str} (h : z ∉ T) {m : Nat} (hm : f z = m) : putK (tabV T f) (Sum.inr z) (V.int ((m : Nat) : Int)) = tabV (T ++ [z]) f := by
  rw [putK_new _ (tabV_no h), ← hm]
  unfold tabV
  rw [List.map_append]
  rfl
/-- a dict comprehension over anything that is walked -/
theorem dc_walk {J : It} {n : Nat} {G : Hp → Prop} {Y : Nat → Hp → V → Hp → Prop} (w : Walk J n G Y) {g : TG} {tt : TT} {tk tv : TE} {vs : List Nat} {σ : L2.St} {H1 : Hp} {D : Addr} {Qd : Hp → Prop} (Pv : Nat → Hp → Prop) (h0 : Pv 0 (upd H1 D (.dK []))) (hl : ∀ i H, i ≤ n → Pv i H → G H)
    (hs : ∀ i x H H', i < n → Pv i H → Y i H x H' → g x (wipe σ vs) H' fun σ2 H2 => wipe σ2 vs = wipe σ vs ∧ tt σ2 H2 fun b H3 =>
      if b = true then tk σ2 H3 fun y H4 => tv σ2 H4 fun z H5 => ∃ kvs k, y = kV k ∧ H5 D = some (.dK kvs) ∧ kvs.length < sizeLine ∧ Pv (i + 1) (upd H5 D (.dK (putK kvs k z))) else Pv (i + 1) H3) (hd : ∀ H, Pv n H → Qd H) :
    ∃ W : Nat → Nat → Hp → Prop, (∃ m, W 0 m (upd H1 D (.dK []))) ∧ ∀ i m H, W i m H →
      (J.stop i H ∧ Qd H) ∨ (J.go i H ∧ ∃ Nx : Hp → Prop, (∀ H', Nx H' → ∃ m', m' < m ∧ W (i + 1) m' H') ∧ ∀ x H', J.yld i H x H' → g x (wipe σ vs) H' fun σ2 H2 => wipe σ2 vs = wipe σ vs ∧ tt σ2 H2 fun b H3 =>
        if b = true then tk σ2 H3 fun y H4 => tv σ2 H4 fun z H5 => ∃ kvs k, y = kV k ∧ H5 D = some (.dK kvs) ∧ kvs.length < sizeLine ∧ Nx (upd H5 D (.dK (putK kvs k z))) else Nx H3) := by
  refine ⟨fun i m H => m = n - i ∧ i ≤ n ∧ Pv i H, ⟨n, by simp, Nat.zero_le _, h0⟩, ?_⟩
  rintro i m H ⟨rfl, hi, p⟩
  have q := hl i H hi p
  by_cases hlt : i < n
  · exact .inr ⟨w.goes i H hlt q, Pv (i + 1), fun H' p' => ⟨n - (i + 1), by omega, rfl, hlt, p'⟩, fun x H' y => hs i x H H' hlt p (w.yields i H x H' hlt q y)⟩
  · have e : i = n := by omega
    subst e
    exact .inl ⟨w.stops H q, hd H p⟩
end Ls
namespace Ls
open PySem PySem.Spec PyProof.Rows L2
/-! ### short steps -/
local macro_rules | `(tactic| walk_at "ls_ne") => `(tactic| first | assumption | exact Ne.symm (by assumption) | exact ne_of_none (by assumption) (by assumption) | exact Ne.symm (ne_of_none (by assumption) (by assumption)))
local macro_rules | `(tactic| walk_at "ls_hp") => `(tactic| first
  | with_reducible assumption
  | exact upd_same
  | exact Eq.trans (upd_ne (by walk_at "ls_ne")) (by walk_at "ls_hp"))
local macro_rules | `(tactic| walk_at "ls_st") => `(tactic| first
  | with_reducible assumption
  | exact Stm.upd (by walk_at "ls_st") (by first | walk_at "ls_ne" | exact (Stm.noneS (by assumption) (by assumption)).1) (by first | walk_at "ls_ne" | exact (Stm.noneS (by assumption) (by assumption)).2))
local macro_rules | `(tactic| walk_at "ls1") => `(tactic| first
  | refine ⟨_, rfl, ?_⟩
  | refine ⟨_, _, rfl, rfl, ?_⟩
  | refine ⟨_, _, _, _, rfl, rfl, .inl (.inl (by walk_at "ls_hp")), rfl, ?_⟩
  | refine ⟨_, _, _, _, rfl, rfl, (by walk_at "ls_hp"), rfl, ?_⟩
  | refine ⟨rfl, _, rfl, ?_⟩
  | refine ⟨.inl ⟨rfl, _, .inl (.inl (by walk_at "ls_hp"))⟩, ?_⟩)
local macro_rules | `(tactic| walk_at "ls") => `(tactic| repeat (walk_at "ls1"))

/-! ### ranks -/
def edgeOf (c : Cl) : Ed := (c.2.1, c.2.2.1)
def tightE (B : Shp) (ck : List Str) : List Ed := (tightC B ck).map edgeOf
def rkV (p : Str × Nat) : List V := [.str p.1, .int ((p.2 : Nat) : Int)]
theorem tightC_mem {B : Shp} {ck : List Str} {c : Cl} (h : c ∈ tightC B ck) : c.2.1 ∈ tightL B ck ∧ c.2.2.1 ∈ tightL B ck := by
  have h2 := (List.mem_filter.mp h).2
  rw [Bool.and_eq_true, Bool.and_eq_true, decide_eq_true_eq, decide_eq_true_eq] at h2
  exact h2.2
theorem tightC_len {B : Shp} (hB : B.Ok) (ck : List Str) : (tightC B ck).length ≤ 8 := Nat.le_trans (List.length_filter_le _ _) hB.nc
theorem ks_nd {B : Shp} (hB : B.Ok) : (B.ks.map (·.1)).Nodup := (List.nodup_append.mp hB.nd).1
theorem mark_nd {B : Shp} (hB : B.Ok) : (markList B).Nodup := by
  unfold markList
  exact (ks_nd hB).sublist (List.Sublist.map _ (List.filter_sublist ..))
theorem tight_nd {B : Shp} (hB : B.Ok) (ck : List Str) : (tightL B ck).Nodup := (mark_nd hB).sublist (List.filter_sublist ..)
theorem take_nd {α : Type} {l : List α} (h : l.Nodup) {i : Nat} {z : α} (hz : l[i]? = some z) : z ∉ l.take i := by
  intro hm
  obtain ⟨j, hj, e⟩ := List.getElem_of_mem hm
  obtain ⟨hi, e2⟩ := List.getElem?_eq_some_iff.mp hz
  rw [List.getElem_take] at e
  rw [List.length_take] at hj
  have := (List.getElem_inj h).mp (e.trans e2.symm)
  omega
theorem take_snoc {α : Type} {l : List α} {i : Nat} {z : α} (hz : l[i]? = some z) : l.take (i + 1) = l.take i ++ [z] := by
  rw [List.take_add_one, hz]
  rfl
/-- the first way, told by columns -/
def relC (f : Str → Nat) (l : List Cl) : Str → Nat := (l.map edgeOf).foldl relax f
theorem relC_snoc (f : Str → Nat) (l : List Cl) (c : Cl) : relC f (l ++ [c]) = relax (relC f l) (edgeOf c) := by
  unfold relC
  rw [List.map_append, List.foldl_append]
  rfl
theorem relC_pos {f : Str → Nat} {l : List Cl} {j : Nat} {c : Cl} (hc : l[j]? = some c) (h : relC f (l.take j) c.2.1 ≤ relC f (l.take j) c.2.2.1) : relC f (l.take (j + 1)) = fun z => if z = c.2.1 then relC f (l.take j) c.2.2.1 + 1 else relC f (l.take j) z := by
  rw [take_snoc hc, relC_snoc]
  exact if_pos h
theorem relC_neg {f : Str → Nat} {l : List Cl} {j : Nat} {c : Cl} (hc : l[j]? = some c) (h : ¬ relC f (l.take j) c.2.1 ≤ relC f (l.take j) c.2.2.1) : relC f (l.take (j + 1)) = relC f (l.take j) := by
  rw [take_snoc hc, relC_snoc]
  exact if_neg h
theorem fm_some {α β : Type} (h : α → β) : ∀ l : List α, l.filterMap (fun c => some (h c)) = l.map h
  | [] => rfl
  | a :: l => by rw [List.filterMap_cons, List.map_cons, fm_some h l]
theorem any_edges (g : Str → Nat) : ∀ l : List Cl, (l.map fun c => decide (((g c.2.1 : Nat) : Int) ≤ ((g c.2.2.1 : Nat) : Int))).any id = (l.map edgeOf).any fun e => decide (g e.1 ≤ g e.2)
  | [] => rfl
  | c :: l => by
    rw [List.map_cons, List.map_cons, List.any_cons, List.any_cons, any_edges g l]
    congr 1
    exact decide_eq_decide.mpr Int.ofNat_le
theorem paired_tab {H : Hp} {g : Str → Nat} : ∀ {ts : List Addr} {T : List Str}, Paired (fun (t : Addr) (q : Key × V) => H t = some (.tup [kV q.1, q.2])) ts (tabV T g) → TupsAt H (ts.map V.ref) ((T.map fun k => (k, g k)).map rkV)
  | [], [], _ => .nil
  | t :: ts, k :: T, h => by
    cases h with
    | cons h1 h2 => exact .cons ⟨t, rfl, h1⟩ (paired_tab h2)
  | [], _ :: _, h => by cases h
  | _ :: _, [], h => by cases h
theorem dget_tab {H : Hp} {D : Addr} {T : List Str} {f : Str → Nat} {z : Str} (h : H D = some (.dK (tabV T f))) (hz : z ∈ T) : DGet H D (.str z) (some (V.int ((f z : Nat) : Int))) := by
  have h2 := DGet.k (k := .inr z) h
  rw [tabV_val hz] at h2
  exact h2
theorem upd_self {H : Hp} {D : Addr} {x : HO} (h : H D = some x) : upd H D x = H := by
  funext b
  by_cases e : b = D
  · rw [e, upd_same, h]
  · rw [upd_ne e]
end Ls
namespace Ls
open PySem PySem.Spec PyProof.Rows L2
/-! ### short steps -/
local macro_rules | `(tactic| walk_at "ls_ne") => `(tactic| first | assumption | exact Ne.symm (by assumption) | exact ne_of_none (by assumption) (by assumption) | exact Ne.symm (ne_of_none (by assumption) (by assumption)))
local macro_rules | `(tactic| walk_at "ls_hp") => `(tactic| first
  | with_reducible assumption
  | exact upd_same
  | exact Eq.trans (upd_ne (by walk_at "ls_ne")) (by walk_at "ls_hp"))
local macro_rules | `(tactic| walk_at "ls_st") => `(tactic| first
  | with_reducible assumption
  | exact Stm.upd (by walk_at "ls_st") (by first | walk_at "ls_ne" | exact (Stm.noneS (by assumption) (by assumption)).1) (by first | walk_at "ls_ne" | exact (Stm.noneS (by assumption) (by assumption)).2))
local macro_rules | `(tactic| walk_at "ls1") => `(tactic| first
  | refine ⟨_, rfl, ?_⟩
  | refine ⟨_, _, rfl, rfl, ?_⟩
  | refine ⟨_, _, _, _, rfl, rfl, .inl (.inl (by walk_at "ls_hp")), rfl, ?_⟩
  | refine ⟨_, _, _, _, rfl, rfl, (by walk_at "ls_hp"), rfl, ?_⟩
  | refine ⟨rfl, _, rfl, ?_⟩
  | refine ⟨.inl ⟨rfl, _, .inl (.inl (by walk_at "ls_hp"))⟩, ?_⟩)
local macro_rules | `(tactic| walk_at "ls") => `(tactic| repeat (walk_at "ls1"))

/-! ### the law's way to what can be marked -/
def comesL (B : Shp) (i : Nat) : List Str → Prop := fun l => l.length ≤ 3 + 8 * i ∧ ∀ z, decide (z ∈ l) = comesB B i z
def fallsTo (B : Shp) (l : List Str) : List Str := (B.cs.filter fun c => c.2.2.2 && decide (c.2.2.1 ∈ l)).map (·.2.1)
def opens (B : Shp) : List Str := (B.ks.filter (·.2)).map (·.1)
theorem comesL_0 {B : Shp} (hB : B.Ok) : comesL B 0 (opens B) := by
  refine ⟨?_, fun z => ?_⟩
  · unfold opens
    rw [List.length_map]
    exact Nat.le_trans (List.length_filter_le _ _) hB.nk3
  · show decide (z ∈ opens B) = openB B z
    unfold opens openB
    rw [Bool.eq_iff_iff, decide_eq_true_eq, List.any_eq_true, List.mem_map]
    constructor
    · rintro ⟨k, hk, rfl⟩
      obtain ⟨h1, h2⟩ := List.mem_filter.mp hk
      exact ⟨k, h1, by rw [h2]; simp⟩
    · rintro ⟨k, hk, h⟩
      rw [Bool.and_eq_true, decide_eq_true_eq] at h
      exact ⟨k, List.mem_filter.mpr ⟨hk, h.2⟩, h.1⟩
theorem comesL_snoc {B : Shp} (hB : B.Ok) {i : Nat} {l : List Str} (h : comesL B i l) : comesL B (i + 1) (l ++ fallsTo B l) := by
  refine ⟨?_, fun z => ?_⟩
  · have h1 : (fallsTo B l).length ≤ 8 := by
      unfold fallsTo
      rw [List.length_map]
      exact Nat.le_trans (List.length_filter_le _ _) hB.nc
    have := h.1
    rw [List.length_append]
    omega
  · show _ = (openB B z || B.cs.any fun c => (decide (c.2.1 = z) && c.2.2.2) && comesB B i c.2.2.1)
    rw [Bool.eq_iff_iff, decide_eq_true_eq, List.mem_append, Bool.or_eq_true, List.any_eq_true]
    constructor
    · rintro (h1 | h1)
      · have h2 : comesB B i z = true := by rw [← h.2 z]; exact decide_eq_true h1
        have h3 : comesB B (i + 1) z = true := comes_mono B i z h2
        have h3' : (openB B z || B.cs.any fun c => (decide (c.2.1 = z) && c.2.2.2) && comesB B i c.2.2.1) = true := h3
        rw [Bool.or_eq_true, List.any_eq_true] at h3'
        exact h3'
      · unfold fallsTo at h1
        obtain ⟨c, hc, rfl⟩ := List.mem_map.mp h1
        obtain ⟨h2, h3⟩ := List.mem_filter.mp hc
        rw [Bool.and_eq_true, decide_eq_true_eq] at h3
        refine .inr ⟨c, h2, ?_⟩
        rw [h3.1, ← h.2, decide_eq_true h3.2]
        simp
    · rintro (h1 | ⟨c, hc, h1⟩)
      · exact .inl (of_decide_eq_true (by rw [h.2 z]; exact comes_open B h1 i))
      · rw [Bool.and_eq_true, Bool.and_eq_true, decide_eq_true_eq] at h1
        refine .inr ?_
        unfold fallsTo
        exact List.mem_map.mpr ⟨c, List.mem_filter.mpr ⟨hc, by rw [h1.1.2, h.2, h1.2]; rfl⟩, h1.1.1⟩
theorem comesL_mark {B : Shp} (hB : B.Ok) {l : List Str} (h : comesL B B.ks.length l) : (B.ks.filter fun k => decide (k.1 ∈ l)).map (·.1) = markList B := by
  unfold markList
  congr 1
  refine List.filter_congr fun k hk => ?_
  have hz := List.mem_map_of_mem (f := (·.1)) hk
  rw [h.2, mark_is hB hz]
  exact comes_all hB (Nat.le_refl _) hB.nk3 hz
theorem fallsTo_fm (B : Shp) (l : List Str) : B.cs.filterMap (fun c => if (c.2.2.2 && decide (c.2.2.1 ∈ l)) = true then some (V.str c.2.1) else none) = (fallsTo B l).map V.str := by
  rw [filterMap_if (fun c : Cl => c.2.2.2 && decide (c.2.2.1 ∈ l)) (fun c => V.str c.2.1)]
  unfold fallsTo
  rw [List.map_map]
  rfl
section
variable {P : Program} {w : World} {K : PySem.W.Frag} {mg : Str → Option Value} {base : Heap}
abbrev s__law_markable : Stmt := topS 67
theorem sc__law_markable : FnScope ["_law_b", "_law_found", "_law_turn", "_law_kind", "_law_is_open", "_law_column"] ["_law_b"] (defScope s__law_markable) := ⟨rfl, rfl, rfl, by decide +kernel, rfl, by decide +kernel, by decide +kernel⟩
abbrev N__law_markable : List Str := ["_law_b", "_law_found", "_law_turn", "_law_kind", "_law_is_open", "_law_column"]
def spMarkL : Sp := fun vs H Q _ => ∃ (S L b : Addr) (B : Shp) (ck : List Str), vs = [.ref b] ∧ ShpAt S L H b B ck ∧ B.Ok ∧
  ∀ (H' : Hp) (p : Addr), H p = none → H' p = some (.lst ((markList B).map V.str)) → Same H H' → Q (.ref p) H'
theorem ok_markL {f : Addr} {fd : FuncData} (F : Fun K "_law_markable" "_law_markable" s__law_markable f fd) (T : Bt mg) : FnOk P w K mg base CX0 1 f fd ["_law_b"] spMarkL := by
  refine F.ok sc__law_markable (fun vs H Q E h => ?_) (fun cdv A outer s H vs Q E hr h => ?_)
  · obtain ⟨S, L, b, B, ck, rfl, _⟩ := h
    rfl
  · obtain ⟨S, L, b, B, ck, rfl, ⟨ka, ca, ea, kx, cx, hb, hk, hkt, hc, hct, he, n1, n2, n3⟩, hB, q⟩ := h
    have hu := hu_of hr
    refine ⟨_, (pss_cons (ps_set (i := 1) sc__law_markable.nd rfl (Or.inr rfl) (pe_lc (own := [("_law_kind", 3), ("_law_is_open", 4)]) (g := gTup K 2 (gCons (gName 3) (gCons (gName 4) gNil))) (by rfl) sc__law_markable.nd (pi_list (pe_dget hu (pv 0) pe_str (fun _ _ => rfl))) (blkOk_by (own := [("_law_kind", 3), ("_law_is_open", 4)]) (N := N__law_markable) (sc := defScope s__law_markable) (by decide +kernel)) (fun _ _ _ _ _ => (pg_tup rfl (pgs_cons (pg_name (i := 3) sc__law_markable.nd rfl (Or.inl rfl) (Or.inr rfl)) (pgs_cons (pg_name (i := 4) sc__law_markable.nd rfl (Or.inl rfl) (Or.inr rfl)) pgs_nil)))) (fun _ _ _ _ _ => (pts_one (pt_val (pv 4)))) (fun _ _ _ _ _ => (pv 3))))
      (pss_cons (ps_for PassesOwn.never rfl (pi_list (pe_dget hu (pv 0) pe_str (fun _ _ => rfl))) (pg_name (i := 2) sc__law_markable.nd rfl (Or.inl rfl)) (pss_one (ps_set (i := 1) sc__law_markable.nd rfl (Or.inr rfl) (pe_op op_cat (pv 1) (pe_lc (own := [("_law_column", 5)]) (g := gName 5) (by rfl) sc__law_markable.nd (pi_list (pe_dget hu (pv 0) pe_str (fun _ _ => rfl))) (blkOk_by (own := [("_law_column", 5)]) (N := N__law_markable) (sc := defScope s__law_markable) (by decide +kernel)) (fun _ _ _ _ _ => (pg_name (i := 5) sc__law_markable.nd rfl (Or.inl rfl) (Or.inr rfl))) (fun _ _ _ _ _ => (pts_one (PW.pt (pw_and (pt_cmpR op_eq (pe_ix (ixT K) (pv 5) pe_int (fun _ _ => rfl)) pe_str (nomark _)) (pw_and1 (pt_cmpR (in_seq K) (pe_ix (ixT K) (pv 5) pe_int (fun _ _ => rfl)) (pv 1) (by rfl))))))) (fun _ _ _ _ _ => (pe_ix (ixT K) (pv 5) pe_int (fun _ _ => rfl))))))))
      (pss_one (ps_ret (pe_lc (own := [("_law_kind", 3), ("_law_is_open", 4)]) (g := gTup K 2 (gCons (gName 3) (gCons (gName 4) gNil))) (by rfl) sc__law_markable.nd (pi_list (pe_dget hu (pv 0) pe_str (fun _ _ => rfl))) (blkOk_by (own := [("_law_kind", 3), ("_law_is_open", 4)]) (N := N__law_markable) (sc := defScope s__law_markable) (by decide +kernel)) (fun _ _ _ _ _ => (pg_tup rfl (pgs_cons (pg_name (i := 3) sc__law_markable.nd rfl (Or.inl rfl) (Or.inr rfl)) (pgs_cons (pg_name (i := 4) sc__law_markable.nd rfl (Or.inl rfl) (Or.inr rfl)) pgs_nil)))) (fun _ _ _ _ _ => (pts_one (pt_cmpR (in_seq K) (pv 3) (pv 1) (by rfl)))) (fun _ _ _ _ _ => (pv 3))))))), ?_⟩
    have lk : kx.length = B.ks.length := by rw [hkt.len, List.length_map]
    have lc : cx.length = B.cs.length := by rw [hct.len, List.length_map]
    have nk3 := hB.nk3
    have nc8 := hB.nc
    have lzk : B.ks.length < sizeLine := Nat.lt_of_le_of_lt nk3 (by decide)
    have lzc : B.cs.length < sizeLine := Nat.lt_of_le_of_lt nc8 (by decide)
    walk_at "ls"
    refine ⟨b, _, rfl, dg_kinds hb, ka, rfl, ⟨_, .inl (.inl hk)⟩, fun D hD => ?_⟩
    refine lc_rows (walk_list (xs := kx)) kx B.ks (fun k => if k.2 = true then some (V.str k.1) else none) lk.symm (fun i H x H' hi hy => hy) (by rw [lk]; exact lzk) (fun acc => .inl (.inl (by rw [upd_ne (ne_of_none hk hD)]; exact hk))) (fun j y z hj hyj hz => ?_) ?_
    · rw [lk] at hj
      obtain ⟨ys, hys, t, rfl, ht⟩ := TupsAt.get (hkt.keep (.new (o := .lst (madeR B.ks (fun k => if k.2 = true then some (V.str k.1) else none) j)) hD)) hyj
      rw [List.getElem?_map, hz] at hys
      cases hys
      refine ⟨t, _, rfl, .inl (.inl ht), rfl, _, _, rfl, _, _, rfl, rfl, rfl, ?_⟩
      walk_at "ls"
      refine ite2 (fun e => ?_) (fun e => ?_)
      · walk_at "ls"
        exact lr_yes hz hj lzk (if_pos e)
      · exact lr_no hz (if_neg e)
    rw [filterMap_if (fun k : Str × Bool => k.2) (fun k => V.str k.1)]
    walk_at "ls"
    have s0 : Same H (upd H D (.lst ((B.ks.filter (·.2)).map fun k => V.str k.1))) := same_new hD
    refine ⟨b, _, rfl, dg_kinds (s0 _ _ hb), ka, rfl, ⟨_, .inl (.inl (s0 _ _ hk))⟩, ?_⟩
    refine for_it (walk_list (xs := kx)) (fun i σ H1 => ∃ (v : Option V) (p : Addr) (l : List Str), σ = [some (.ref b), some (.ref p), v, none, none, none] ∧ comesL B i l ∧ H p = none ∧ H1 p = some (.lst (l.map V.str)) ∧ Same H H1)
      ⟨none, D, opens B, rfl, comesL_0 hB, hD, by rw [upd_same]; unfold opens; rw [List.map_map]; rfl, s0⟩ (fun i σ H1 _ ⟨_, _, _, _, _, _, _, s1⟩ => .inl (.inl (s1 _ _ hk))) ?_ ?_
    · rintro i y σ Hz H1 hi ⟨v, p, l, rfl, hl, hp, h1, s1⟩ ⟨rfl, hy⟩
      rw [lk] at hi
      have hlen := hl.1
      walk_at "ls"
      refine ⟨b, _, rfl, dg_columns (s1 _ _ hb), ca, rfl, ⟨_, .inl (.inl (s1 _ _ hc))⟩, fun D2 hD2 => ?_⟩
      have npD : p ≠ D2 := ne_of_none h1 hD2
      refine lc_rows (walk_list (xs := cx)) cx B.cs (fun c => if (c.2.2.2 && decide (c.2.2.1 ∈ l)) = true then some (V.str c.2.1) else none) lc.symm (fun i H x H' hi hy => hy) (by rw [lc]; exact lzc) (fun acc => .inl (.inl (by rw [upd_ne (ne_of_none (s1 _ _ hc) hD2)]; exact s1 _ _ hc))) (fun j yj cl hj hyj hz => ?_) ?_
      · rw [lc] at hj
        obtain ⟨ys, hys, t, rfl, ht⟩ := TupsAt.get (hct.keep (.same (s1.trans (same_new (o := .lst (madeR B.cs (fun c => if (c.2.2.2 && decide (c.2.2.1 ∈ l)) = true then some (V.str c.2.1) else none) j)) hD2)))) hyj
        rw [List.getElem?_map, hz] at hys
        cases hys
        have hp2 : (upd H1 D2 (.lst (madeR B.cs (fun c => if (c.2.2.2 && decide (c.2.2.1 ∈ l)) = true then some (V.str c.2.1) else none) j))) p = some (.lst (l.map V.str)) := by rw [upd_ne npD]; exact h1
        refine ⟨rfl, ?_⟩
        refine and2 cl.2.2.2 (decide (cl.2.2.1 ∈ l)) (fun Q' q' => ?_) (fun _ Q' q' => ?_) ?_
        · walk_at "ls"
          rw [fall_eq]
          exact q'
        · walk_at "ls"
          refine ⟨p, _, rfl, .inl (.inl (.inl hp2)), rfl, all_flat _, _, rfl, ?_⟩
          rw [in_strs]
          exact q'
        · refine ite2 (fun e => ?_) (fun e => ?_)
          · walk_at "ls"
            exact lr_yes hz hj lzc (if_pos e)
          · exact lr_no hz (if_neg e)
      rw [fallsTo_fm]
      have hl2 := comesL_snoc hB hl
      have hlen2 := hl2.1
      have s2 : Same H1 (upd H1 D2 (.lst ((fallsTo B l).map V.str))) := same_new hD2
      refine ⟨p, D2, _, _, rfl, rfl, s2 _ _ h1, upd_same, Nat.le_trans (show _ ≤ 1000 by rw [List.length_append] at hlen2; rw [List.length_map, List.length_map]; omega) (by decide), fun p2 hp2 => ?_⟩
      refine ⟨_, p2, l ++ fallsTo B l, rfl, hl2, (s1.trans s2).free hp2, by rw [upd_same, List.map_append], (s1.trans s2).trans (same_new hp2)⟩
    · rintro σ H1 ⟨v, p, l, rfl, hl, hp, h1, s1⟩
      rw [lk] at hl
      walk_at "ls"
      refine ⟨b, _, rfl, dg_kinds (s1 _ _ hb), ka, rfl, ⟨_, .inl (.inl (s1 _ _ hk))⟩, fun D2 hD2 => ?_⟩
      have npD : p ≠ D2 := ne_of_none h1 hD2
      refine lc_rows (walk_list (xs := kx)) kx B.ks (fun k => if decide (k.1 ∈ l) = true then some (V.str k.1) else none) lk.symm (fun i H x H' hi hy => hy) (by rw [lk]; exact lzk) (fun acc => .inl (.inl (by rw [upd_ne (ne_of_none (s1 _ _ hk) hD2)]; exact s1 _ _ hk))) (fun j yj z hj hyj hz => ?_) ?_
      · rw [lk] at hj
        obtain ⟨ys, hys, t, rfl, ht⟩ := TupsAt.get (hkt.keep (.same (s1.trans (same_new (o := .lst (madeR B.ks (fun k => if decide (k.1 ∈ l) = true then some (V.str k.1) else none) j)) hD2)))) hyj
        rw [List.getElem?_map, hz] at hys
        cases hys
        have hp2 : (upd H1 D2 (.lst (madeR B.ks (fun k => if decide (k.1 ∈ l) = true then some (V.str k.1) else none) j))) p = some (.lst (l.map V.str)) := by rw [upd_ne npD]; exact h1
        refine ⟨t, _, rfl, .inl (.inl ht), rfl, _, _, rfl, _, _, rfl, rfl, rfl, ?_⟩
        walk_at "ls"
        refine ⟨p, _, rfl, .inl (.inl (.inl hp2)), rfl, all_flat _, _, rfl, ?_⟩
        rw [in_strs]
        refine ite2 (fun e => ?_) (fun e => ?_)
        · walk_at "ls"
          exact lr_yes hz hj lzk (if_pos e)
        · exact lr_no hz (if_neg e)
      rw [filterMap_if (fun k : Str × Bool => decide (k.1 ∈ l)) (fun k => V.str k.1)]
      refine q _ D2 (s1.free hD2) ?_ (s1.trans (same_new hD2))
      rw [upd_same, ← comesL_mark hB hl, List.map_map]
      rfl
/-! ### _law_checks, _law_tight, _law_ties -/
abbrev s__law_checks : Stmt := topS 68
theorem sc__law_checks : FnScope ["_law_b", "_law_word", "_law_name"] ["_law_b", "_law_word", "_law_name"] (defScope s__law_checks) := ⟨rfl, rfl, rfl, by decide +kernel, rfl, by decide +kernel, by decide +kernel⟩
abbrev N__law_checks : List Str := ["_law_b", "_law_word", "_law_name"]
def spChkL : Sp := fun vs H Q _ => ∃ (S L b : Addr) (B : Shp) (ck : List Str) (x z : Str), vs = [.ref b, .str x, .str z] ∧ ShpAt S L H b B ck ∧ x.length ≤ 5 ∧ z.length ≤ 8 ∧ Q (.bl (decide (x ++ " " ++ z ∈ ck))) H
theorem ok_chkL {f : Addr} {fd : FuncData} (F : Fun K "_law_checks" "_law_checks" s__law_checks f fd) (T : Bt mg) : FnOk P w K mg base CX0 1 f fd ["_law_b", "_law_word", "_law_name"] spChkL := by
  refine F.ok sc__law_checks (fun vs H Q E h => ?_) (fun cdv A outer s H vs Q E hr h => ?_)
  · obtain ⟨S, L, b, B, ck, x, z, rfl, _⟩ := h
    rfl
  · obtain ⟨S, L, b, B, ck, x, z, rfl, ⟨ka, ca, ea, kx, cx, hb, hk, hkt, hc, hct, he, n1, n2, n3⟩, hx, hz, q⟩ := h
    have hu := hu_of hr
    refine ⟨_, (pss_one (ps_ret (pe_cmpR (in_seq K) (pe_op op_add_str (pe_op op_add_str (pv 1) pe_str) (pv 2)) (pe_dget hu (pv 0) pe_str (fun _ _ => rfl)) (by rfl)))), ?_⟩
    walk_at "ls"
    refine ⟨room_str (m := 1) hx (by decide +kernel) (by decide), ?_⟩
    walk_at "ls"
    refine ⟨room_str (n := 6) (m := 8) (word_len hx) hz (by decide), ?_⟩
    walk_at "ls"
    refine ⟨b, _, rfl, dg_checks hb, ?_⟩
    refine ⟨ea, _, rfl, .inl (.inl (.inl he)), rfl, all_flat _, ?_⟩
    rw [in_strs]
    exact q
abbrev s__law_tight : Stmt := topS 69
theorem sc__law_tight : FnScope ["_law_b", "_law_kind"] ["_law_b"] (defScope s__law_tight) := ⟨rfl, rfl, rfl, by decide +kernel, rfl, by decide +kernel, by decide +kernel⟩
abbrev N__law_tight : List Str := ["_law_b", "_law_kind"]
def spTightL : Sp := fun vs H Q _ => ∃ (S L b : Addr) (B : Shp) (ck : List Str), vs = [.ref b] ∧ ShpAt S L H b B ck ∧ B.Ok ∧
  ∀ (H' : Hp) (p : Addr), H p = none → H' p = some (.lst ((tightL B ck).map V.str)) → Same H H' → Q (.ref p) H'
theorem ok_tightL {f : Addr} {fd : FuncData} (F : Fun K "_law_tight" "_law_tight" s__law_tight f fd) (T : Bt mg) (O__law_markable : Own P w K mg base CX0 1 "_law_markable" ["_law_b"] spMarkL) (O__law_checks : Own P w K mg base CX0 1 "_law_checks" ["_law_b", "_law_word", "_law_name"] spChkL) : FnOk P w K mg base CX0 2 f fd ["_law_b"] spTightL := by
  refine F.ok sc__law_tight (fun vs H Q E h => ?_) (fun cdv A outer s H vs Q E hr h => ?_)
  · obtain ⟨S, L, b, B, ck, rfl, _⟩ := h
    rfl
  · obtain ⟨S, L, b, B, ck, rfl, hs, hB, q⟩ := h
    have hu := hu_of hr
    refine ⟨_, (pss_one (ps_ret (pe_lc (own := [("_law_kind", 1)]) (g := gName 1) (by rfl) sc__law_tight.nd (pi_list (own_call O__law_markable hr (by first | decide | omega) (pa_cons (pv 0) pa_nil))) (blkOk_by (own := [("_law_kind", 1)]) (N := N__law_tight) (sc := defScope s__law_tight) (by decide +kernel)) (fun _ _ _ _ _ => (pg_name (i := 1) sc__law_tight.nd rfl (Or.inl rfl) (Or.inr rfl))) (fun _ _ _ _ _ => (pts_one (pt_val (own_call O__law_checks hr (by first | decide | omega) (pa_cons (pv 0) (pa_cons pe_str (pa_cons (pv 1) pa_nil))))))) (fun _ _ _ _ _ => (pv 1))))), ?_⟩
    walk_at "ls"
    refine ⟨S, L, b, B, ck, rfl, hs, hB, fun H1 p hp h1 s1 => ?_⟩
    refine ⟨p, rfl, ⟨_, .inl (.inl h1)⟩, fun D hD => ?_⟩
    have npD : p ≠ D := ne_of_none h1 hD
    have lm := mark_len hB
    have lz : (markList B).length < sizeLine := Nat.lt_of_le_of_lt lm (by decide)
    refine lc_rows (walk_list (xs := (markList B).map V.str)) ((markList B).map V.str) (markList B) (fun z => if decide (bareOf z ∈ ck) = true then some (V.str z) else none) (by rw [List.length_map]) (fun i H x H' hi hy => hy) (by rw [List.length_map]; exact lz) (fun acc => .inl (.inl (by rw [upd_ne npD]; exact h1))) (fun j y z hj hyj hz => ?_) ?_
    · rw [List.getElem?_map, hz] at hyj
      cases hyj
      rw [List.length_map] at hj
      have nz := mark_nm hB z (List.mem_of_getElem? hz)
      have sD := s1.trans (same_new (o := .lst (madeR (markList B) (fun z => if decide (bareOf z ∈ ck) = true then some (V.str z) else none) j)) hD)
      refine ⟨rfl, ?_⟩
      walk_at "ls"
      refine ⟨S, L, b, B, ck, "bare", z, rfl, hs.same sD, by decide +kernel, nz.1.2.1, ?_⟩
      walk_at "ls"
      rw [show ("bare" : Str) ++ " " ++ z = bareOf z from congrArg (· ++ z) (show ("bare" : Str) ++ " " = "bare " by decide +kernel)]
      refine ite2 (fun e => ?_) (fun e => ?_)
      · walk_at "ls"
        exact lr_yes hz hj lz (if_pos e)
      · exact lr_no hz (if_neg e)
    rw [filterMap_if (fun z => decide (bareOf z ∈ ck)) V.str]
    exact q _ D (s1.free hD) upd_same (s1.trans (same_new hD))
end
end Ls
namespace Ls
open PySem PySem.Spec PyProof.Rows L2
/-! ### a list of any things, == an empty list -/
def rEqE (K : PySem.W.Frag) : R2 := fun x y H Q => ∃ (a b : Addr) (xs : List V), x = .ref a ∧ y = .ref b ∧ SqL K H a xs ∧ SqL K H b [] ∧ Q (.bl xs.isEmpty) H
theorem op_eqE {X : Cx} (hu : X.A.units + 64 < cLine) : OpR X (compareOp .Eq) (rEqE X.K) := by
  intro pins s σ H x y v u Q I rx ry h
  obtain ⟨a, b, xs, rfl, rfl, ha, hb, q⟩ := h
  cases rx
  cases ry
  obtain ⟨its, rv, p, hz⟩ := I.list ha
  obtain ⟨its2, rv2, p2, hz2⟩ := I.list hb
  cases rv2
  have hc : X.A.units < cLine := by omega
  cases xs with
  | nil =>
    cases rv
    have h1 := SeqAt.RcAt.lists (A := X.A) (s := s) (e := fun _ => true) p.isList p2.isList rfl hc (fun j h1 _ => absurd h1 (by simp))
    exact h1 X.prog X.w X.xe _ ⟨.bl _, H, I, rfl, q⟩
  | cons z r =>
    have hl : its.length ≠ 0 := by rw [← rv.length]; simp
    have h1 := SeqAt.RcAt.lists_lengths (A := X.A) (s := s) p.isList p2.isList (by simpa using hl) hc
    exact h1 X.prog X.w X.xe _ ⟨.bl _, H, I, rfl, q⟩
theorem eqE {X : Cx} (K : PySem.W.Frag) {k : Nat} (hr : Room k X.A) (h : X.K = K := by rfl) : OpR X (compareOp .Eq) (rEqE K) := by subst h; exact op_eqE hr.units
/-! ### rules that name K, for places where the context is bound -/
theorem slTK {X : Cx} (K : PySem.W.Frag) (h : X.K = K := by rfl) : SlR X (rSlT K) := by subst h; exact sl_tup
theorem pi_listK {X : Cx} (K : PySem.W.Frag) {tg l : Expr} {tl : TE} (hl : PE X l tl) (h : X.K = K := by rfl) : PI X tg l (iList K tl) := by subst h; exact pi_list hl
end Ls
namespace Ls
open PySem PySem.Spec PyProof.Rows L2
/-! ### short steps -/
local macro_rules | `(tactic| walk_at "ls_ne") => `(tactic| first | assumption | exact Ne.symm (by assumption) | exact ne_of_none (by assumption) (by assumption) | exact Ne.symm (ne_of_none (by assumption) (by assumption)))
local macro_rules | `(tactic| walk_at "ls_hp") => `(tactic| first
  | with_reducible assumption
  | exact upd_same
  | exact Eq.trans (upd_ne (by walk_at "ls_ne")) (by walk_at "ls_hp"))
local macro_rules | `(tactic| walk_at "ls_st") => `(tactic| first
  | with_reducible assumption
  | exact Stm.upd (by walk_at "ls_st") (by first | walk_at "ls_ne" | exact (Stm.noneS (by assumption) (by assumption)).1) (by first | walk_at "ls_ne" | exact (Stm.noneS (by assumption) (by assumption)).2))
local macro_rules | `(tactic| walk_at "ls1") => `(tactic| first
  | refine ⟨_, rfl, ?_⟩
  | refine ⟨_, _, rfl, rfl, ?_⟩
  | refine ⟨_, _, _, _, rfl, rfl, .inl (.inl (by walk_at "ls_hp")), rfl, ?_⟩
  | refine ⟨_, _, _, _, rfl, rfl, (by walk_at "ls_hp"), rfl, ?_⟩
  | refine ⟨rfl, _, rfl, ?_⟩
  | refine ⟨.inl ⟨rfl, _, .inl (.inl (by walk_at "ls_hp"))⟩, ?_⟩)
local macro_rules | `(tactic| walk_at "ls") => `(tactic| repeat (walk_at "ls1"))

def edV (e : Ed) : List V := [.str e.1, .str e.2]
theorem tie_cut (c : Cl) : cutV (colV c) (some 1) (some 3) = edV (edgeOf c) := rfl
section
variable {P : Program} {w : World} {K : PySem.W.Frag} {mg : Str → Option Value} {base : Heap}
abbrev s__law_ties : Stmt := topS 70
theorem sc__law_ties : FnScope ["_law_b", "_law_kinds", "_law_column"] ["_law_b"] (defScope s__law_ties) := ⟨rfl, rfl, rfl, by decide +kernel, rfl, by decide +kernel, by decide +kernel⟩
abbrev N__law_ties : List Str := ["_law_b", "_law_kinds", "_law_column"]
def spTiesL : Sp := fun vs H Q _ => ∃ (S L b : Addr) (B : Shp) (ck : List Str), vs = [.ref b] ∧ ShpAt S L H b B ck ∧ B.Ok ∧
  ∀ (H' : Hp) (p : Addr) (xs : List V), H p = none → H' p = some (.lst xs) → TupsAt H' xs ((tightE B ck).map edV) → Same H H' → Q (.ref p) H'
theorem ok_tiesL {f : Addr} {fd : FuncData} (F : Fun K "_law_ties" "_law_ties" s__law_ties f fd) (T : Bt mg) (O__law_tight : Own P w K mg base CX0 2 "_law_tight" ["_law_b"] spTightL) : FnOk P w K mg base CX0 3 f fd ["_law_b"] spTiesL := by
  refine F.ok sc__law_ties (fun vs H Q E h => ?_) (fun cdv A outer s H vs Q E hr h => ?_)
  · obtain ⟨S, L, b, B, ck, rfl, _⟩ := h
    rfl
  · obtain ⟨S, L, b, B, ck, rfl, hs, hB, q⟩ := h
    have hu := hu_of hr
    refine ⟨_, (pss_cons (ps_set (i := 1) sc__law_ties.nd rfl (Or.inr rfl) (own_call O__law_tight hr (by first | decide | omega) (pa_cons (pv 0) pa_nil)))
      (pss_one (ps_ret (pe_lc (own := [("_law_column", 2)]) (g := gName 2) (by rfl) sc__law_ties.nd (pi_list (pe_dget hu (pv 0) pe_str (fun _ _ => rfl))) (blkOk_by (own := [("_law_column", 2)]) (N := N__law_ties) (sc := defScope s__law_ties) (by decide +kernel)) (fun _ _ _ _ _ => (pg_name (i := 2) sc__law_ties.nd rfl (Or.inl rfl) (Or.inr rfl))) (fun _ _ _ _ _ => (pts_one (PW.pt (pw_and (pt_cmpR op_eq (pe_ix (ixT K) (pv 2) pe_int (fun _ _ => rfl)) pe_str (nomark _)) (pw_and (pt_cmpR (in_seq K) (pe_ix (ixT K) (pv 2) pe_int (fun _ _ => rfl)) (pv 1) (by rfl)) (pw_and1 (pt_cmpR (in_seq K) (pe_ix (ixT K) (pv 2) pe_int (fun _ _ => rfl)) (pv 1) (by rfl)))))))) (fun _ _ _ _ _ => (pe_slice (slTK K) (pv 2) (po_some pe_int) (po_some pe_int))))))), ?_⟩
    walk_at "ls"
    refine ⟨S, L, b, B, ck, rfl, hs, hB, fun H2 p hp h1p s1 => ?_⟩
    have hs2 := hs.same s1
    obtain ⟨ka, ca, ea, kx, cx, hb, hk, hkt, hc, hct, he, n1, n2, n3⟩ := hs2
    have lc : cx.length = B.cs.length := by rw [hct.len, List.length_map]
    have bc8 := hB.nc
    walk_at "ls"
    refine ⟨b, _, rfl, dg_columns hb, ca, rfl, ⟨_, .inl (.inl hc)⟩, fun D hD => ?_⟩
    refine lc_it (walk_list (xs := cx)) (fun j H3 => ∃ ys : List V, H3 D = some (.lst ys) ∧ TupsAt H3 ys ((((B.cs.take j).filter fun c => c.2.2.2 && (decide (c.2.1 ∈ tightL B ck) && decide (c.2.2.1 ∈ tightL B ck))).map edgeOf).map edV) ∧ Same H2 H3)
      ⟨[], upd_same, .nil, same_new hD⟩ (fun j H3 _ ⟨_, _, _, s3⟩ => .inl (.inl (s3 _ _ hc))) ?_ ?_
    · rintro j y Hy H3 hj ⟨ys, h3, h3t, s3⟩ ⟨rfl, hy⟩
      obtain ⟨zs, hzs, t, rfl, ht⟩ := TupsAt.get (hct.keep (.same s3)) hy
      obtain ⟨cl, hcl, rfl⟩ := map_get hzs
      have h3p := s3 _ _ h1p
      have ly : ys.length ≤ 8 := by
        rw [h3t.len, List.length_map, List.length_map]
        refine Nat.le_trans (List.length_filter_le _ _) ?_
        rw [List.length_take]
        omega
      refine ⟨rfl, ?_⟩
      refine and2 cl.2.2.2 (decide (cl.2.1 ∈ tightL B ck) && decide (cl.2.2.1 ∈ tightL B ck)) (fun Q' q' => ?_) (fun _ Q' q' => ?_) ?_
      · walk_at "ls"
        rw [fall_eq]
        exact q'
      · refine and2 (decide (cl.2.1 ∈ tightL B ck)) (decide (cl.2.2.1 ∈ tightL B ck)) (fun Q' q' => ?_) (fun _ Q' q' => ?_) q'
        · walk_at "ls"
          refine ⟨p, _, rfl, .inl (.inl (.inl h3p)), rfl, all_flat _, _, rfl, ?_⟩
          rw [in_strs]
          exact q'
        · walk_at "ls"
          refine ⟨p, _, rfl, .inl (.inl (.inl h3p)), rfl, all_flat _, _, rfl, ?_⟩
          rw [in_strs]
          exact q'
      · refine ite2 (fun e => ?_) (fun e => ?_)
        · walk_at "ls"
          refine ⟨t, colV cl, rfl, .inl (.inl ht), (by show ¬ (HT.sIx 4 0 (some 1) = 0 ∧ HT.sIx 4 4 (some 3) = 4); decide), fun p2 hp2 => ?_⟩
          have nDp : D ≠ p2 := ne_of_none h3 hp2
          have h4 : (upd H3 p2 (.tup (cutV (colV cl) (some 1) (some 3)))) D = some (.lst ys) := by rw [upd_ne nDp]; exact h3
          refine ⟨ys, h4, small1000 (by omega), ys ++ [.ref p2], upd_same, ?_, Same.set (s3.trans (same_new hp2)) hD⟩
          rw [List.take_add_one, hcl, Option.toList_some, List.filter_append, List.map_append, List.filter_cons, if_pos e, List.map_append]
          exact ((h3t.keep (.new hp2)).keep (.lst h4)).snoc ⟨p2, rfl, by rw [upd_ne (Ne.symm nDp), upd_same, tie_cut]⟩
        · refine ⟨ys, h3, ?_, s3⟩
          rw [List.take_add_one, hcl, Option.toList_some, List.filter_append, List.map_append, List.filter_cons, if_neg e, List.filter_nil, List.map_nil, List.append_nil]
          exact h3t
    · rintro H3 ⟨ys, h3, h3t, s3⟩
      rw [lc, List.take_length] at h3t
      exact q H3 D ys (s1.free hD) h3 h3t (s1.trans s3)
end
theorem tightE_mem {B : Shp} {ck : List Str} {e : Ed} (h : e ∈ tightE B ck) : e.1 ∈ tightL B ck ∧ e.2 ∈ tightL B ck := by
  obtain ⟨c, hc, rfl⟩ := List.mem_map.mp h
  exact tightC_mem hc
theorem tightE_len {B : Shp} (hB : B.Ok) (ck : List Str) : (tightE B ck).length ≤ 8 := by
  unfold tightE
  rw [List.length_map]
  exact tightC_len hB ck
theorem half_len {α : Type} (p : α → Bool) : ∀ l : List α, (l.filter p).length + (l.filter fun x => !p x).length = l.length
  | [] => rfl
  | a :: l => by
    have ih := half_len p l
    rw [List.filter_cons, List.filter_cons]
    cases p a <;> simp <;> omega
theorem free_rest (es : List Ed) (left : List Str) : (freeOf es left).length + (restOf es left).length = left.length := by
  rw [← half_len (isFree es left) left]
  congr 2
  unfold restOf
  refine List.filter_congr fun k hk => ?_
  congr 1
  unfold freeOf
  rw [Bool.eq_iff_iff, decide_eq_true_eq, List.mem_filter]
  exact ⟨fun h => h.2, fun h => ⟨hk, h⟩⟩
/-- how far the law has come -/
structure LvS (T : List Str) (left done : List Str) : Prop where
  nd : left.Nodup
  sub : ∀ z ∈ left, z ∈ T
  dis : ∀ z ∈ done, z ∉ left
  cov : ∀ z ∈ T, z ∉ left → z ∈ done
  len : done.length + left.length ≤ T.length
theorem LvS.next {T left done : List Str} {es : List Ed} (h : LvS T left done) : LvS T (restOf es left) (done ++ freeOf es left) where
  nd := h.nd.sublist (List.filter_sublist ..)
  sub := fun z hz => h.sub z (rest_mem.mp hz).1
  dis := fun z hz hr => by
    obtain ⟨h1, h2⟩ := rest_mem.mp hr
    rcases List.mem_append.mp hz with h3 | h3
    · exact h.dis z h3 h1
    · exact h2 h3
  cov := fun z hz hr => by
    by_cases hl : z ∈ left
    · by_cases hf : z ∈ freeOf es left
      · exact List.mem_append_right _ hf
      · exact absurd (rest_mem.mpr ⟨hl, hf⟩) hr
    · exact List.mem_append_left _ (h.cov z hz hl)
  len := by
    have h1 := free_rest es left
    have h2 := h.len
    rw [List.length_append]
    omega
theorem lawRun_nil (es : List Ed) (m : Nat) (r : Str → Nat) : lawRun es m [] r = some r := by cases m <;> rfl
theorem lawRun_step {es : List Ed} {m : Nat} {left : List Str} {r : Str → Nat} (h : left ≠ []) : lawRun es (m + 1) left r = if freeOf es left = [] then none else lawRun es m (restOf es left) (nextR es left r) := by
  cases left with
  | nil => exact absurd rfl h
  | cons k l => rfl
theorem strEq (a b : Str) : decide (V.str a = V.str b) = decide (a = b) := decide_eq_decide.mpr ⟨V.str.inj, fun e => by rw [e]⟩
def stepR (es : List Ed) (left : List Str) (r : Str → Nat) (i : Nat) : Str → Nat := fun z => if z ∈ (freeOf es left).take i then valOf es r z else r z
theorem tabV_congr {T : List Str} {f g : Str → Nat} (h : ∀ z ∈ T, f z = g z) : tabV T f = tabV T g := by
  unfold tabV
  exact List.map_congr_left fun z hz => by rw [h z hz]
/-- within the turn of k: its number so far is a -/
def midR (es : List Ed) (left : List Str) (r : Str → Nat) (i : Nat) (k : Str) (a : Nat) : Str → Nat := fun z => if z = k then a else stepR es left r i z
def valTo (es : List Ed) (r : Str → Nat) (k : Str) (j : Nat) : Nat := (es.take j).foldl (valStep r k) 0
theorem valTo_snoc {es : List Ed} {r : Str → Nat} {k : Str} {j : Nat} {e : Ed} (h : es[j]? = some e) : valTo es r k (j + 1) = valStep r k (valTo es r k j) e := by
  unfold valTo
  rw [take_snoc h, List.foldl_append]
  rfl
theorem mid_new {es : List Ed} {left done : List Str} {T : List Str} {r : Str → Nat} {i : Nat} {k : Str} (h : LvS T left done) (hk : (freeOf es left)[i]? = some k) : putK (tabV (done ++ (freeOf es left).take i) (stepR es left r i)) (Sum.inr k) (V.int ((0 : Nat) : Int)) = tabV (done ++ (freeOf es left).take (i + 1)) (midR es left r i k 0) := by
  have hkl := (free_mem (List.mem_of_getElem? hk)).1
  have hn : k ∉ done ++ (freeOf es left).take i := fun hm => by
    rcases List.mem_append.mp hm with h1 | h1
    · exact h.dis k h1 hkl
    · exact take_nd (h.nd.sublist (List.filter_sublist ..)) hk h1
  have e1 : tabV (done ++ (freeOf es left).take i) (stepR es left r i) = tabV (done ++ (freeOf es left).take i) (midR es left r i k 0) := tabV_congr fun z hz => by
    unfold midR
    rw [if_neg (fun e : z = k => hn (e ▸ hz))]
  rw [e1, tabV_new hn (by unfold midR; rw [if_pos rfl]), take_snoc hk, List.append_assoc]
theorem mid_end {es : List Ed} {left : List Str} {r : Str → Nat} {i : Nat} {k : Str} {D : List Str} (hk : (freeOf es left)[i]? = some k) : tabV D (midR es left r i k (valTo es r k es.length)) = tabV D (stepR es left r (i + 1)) := by
  refine tabV_congr fun z _ => ?_
  unfold midR stepR valTo
  rw [List.take_length, take_snoc hk]
  by_cases e : z = k
  · subst e
    rw [if_pos rfl, if_pos (List.mem_append_right _ (.head _))]
    rfl
  · rw [if_neg e]
    congr 1
    simp [e]
theorem mid_put {es : List Ed} {left : List Str} {r : Str → Nat} {i : Nat} {k : Str} {D : List Str} {a c : Nat} (hk : k ∈ D) : putK (tabV D (midR es left r i k a)) (Sum.inr k) (V.int ((c : Nat) : Int)) = tabV D (midR es left r i k c) := by
  rw [tabV_put hk]
  refine tabV_congr fun z _ => ?_
  unfold midR
  by_cases e : z = k
  · rw [if_pos e, if_pos e]
  · rw [if_neg e, if_neg e, if_neg e]
/-- a goal that does not stand among those left has its number -/
theorem mid_goal {es : List Ed} {left : List Str} {r : Str → Nat} {i : Nat} {k g : Str} {a : Nat} (hk : k ∈ left) (hg : g ∉ left) : midR es left r i k a g = r g := by
  unfold midR stepR
  rw [if_neg (fun e : g = k => hg (e.symm ▸ hk)), if_neg (fun h => hg (free_mem (List.mem_of_mem_take h)).1)]
theorem step_end {es : List Ed} {left : List Str} {r : Str → Nat} : stepR es left r (freeOf es left).length = nextR es left r := by
  funext z
  unfold stepR nextR
  rw [List.take_length]
section
variable {P : Program} {w : World} {K : PySem.W.Frag} {mg : Str → Option Value} {base : Heap}
abbrev s__law_ranks : Stmt := topS 71
theorem sc__law_ranks : FnScope ["_law_b", "_law_left", "_law_ties_here", "_law_found", "_law_kind", "_law_free", "_law_home", "_law_goal", "_law_tie"] ["_law_b"] (defScope s__law_ranks) := ⟨rfl, rfl, rfl, by decide +kernel, rfl, by decide +kernel, by decide +kernel⟩
abbrev N__law_ranks : List Str := ["_law_b", "_law_left", "_law_ties_here", "_law_found", "_law_kind", "_law_free", "_law_home", "_law_goal", "_law_tie"]
def spRanksL : Sp := fun vs H Q _ => ∃ (S L b : Addr) (B : Shp) (ck : List Str), vs = [.ref b] ∧ ShpAt S L H b B ck ∧ B.Ok ∧
  match ranksL (tightL B ck) (tightE B ck) with
  | none => ∀ H', Same H H' → Q .non H'
  | some l => ∀ (H' : Hp) (p : Addr) (xs : List V), H p = none → H' p = some (.lst xs) → TupsAt H' xs (l.map rkV) → Same H H' → Q (.ref p) H'
theorem ok_ranksL {f : Addr} {fd : FuncData} (F : Fun K "_law_ranks" "_law_ranks" s__law_ranks f fd) (T : Bt mg) (O__law_tight : Own P w K mg base CX0 2 "_law_tight" ["_law_b"] spTightL) (O__law_ties : Own P w K mg base CX0 3 "_law_ties" ["_law_b"] spTiesL) : FnOk P w K mg base CX0 4 f fd ["_law_b"] spRanksL := by
  refine F.ok sc__law_ranks (fun vs H Q E h => ?_) (fun cdv A outer s H vs Q E hr h => ?_)
  · obtain ⟨S, L, b, B, ck, rfl, _⟩ := h
    rfl
  · obtain ⟨S, L, b, B, ck, rfl, hs, hB, q⟩ := h
    have hu := hu_of hr
    refine ⟨_, (pss_cons (ps_asg (pe_tup (pa_cons (own_call O__law_tight hr (by first | decide | omega) (pa_cons (pv 0) pa_nil)) (pa_cons (own_call O__law_ties hr (by first | decide | omega) (pa_cons (pv 0) pa_nil)) (pa_cons pe_dnewK pa_nil)))) (pg_tup rfl (pgs_cons (pg_name (i := 1) sc__law_ranks.nd rfl (Or.inr rfl)) (pgs_cons (pg_name (i := 2) sc__law_ranks.nd rfl (Or.inr rfl)) (pgs_cons (pg_name (i := 3) sc__law_ranks.nd rfl (Or.inr rfl)) pgs_nil)))))
      (pss_cons (ps_while PassesOwn.never (pt_cmpR (neE K hr) (pv 1) (pe_lst pa_nil) (nomark _)) (pss_cons (ps_set (i := 5) sc__law_ranks.nd rfl (Or.inr rfl) (pe_lc (own := [("_law_kind", 4)]) (g := gName 4) (by rfl) sc__law_ranks.nd (pi_list (pv 1)) (blkOk_by (own := [("_law_kind", 4)]) (N := N__law_ranks) (sc := defScope s__law_ranks) (by decide +kernel)) (fun _ _ _ _ _ => (pg_name (i := 4) sc__law_ranks.nd rfl (by first | exact Or.inl rfl | exact Or.inr rfl) (by first | exact Or.inl rfl | exact Or.inr rfl))) (fun _ _ _ _ _ => (pts_one (pt_cmpR (eqE K hr) (pe_lc (own := [("_law_tie", 8)]) (g := gName 8) (by rfl) sc__law_ranks.nd (pi_listK K (pv 2)) (blkOk_by (own := [("_law_tie", 8)]) (N := N__law_ranks) (by kernel_rfl)) (fun _ _ _ _ _ => (pg_name (i := 8) sc__law_ranks.nd rfl (Or.inl rfl) (Or.inr rfl))) (fun _ _ _ _ _ => (pts_one (PW.pt (pw_and (pt_cmpR op_eq (pe_ix (ixT K) (pv 8) pe_int (fun _ _ => rfl)) (pv 4) (nomark _)) (pw_and1 (pt_cmpR (in_seq K) (pe_ix (ixT K) (pv 8) pe_int (fun _ _ => rfl)) (pv 1) (by rfl))))))) (fun _ _ _ _ _ => (pv 8))) (pe_lst pa_nil) (nomark _)))) (fun _ _ _ _ _ => (pv 4))))
      (pss_cons (ps_if (pt_cmpR (eqE K hr) (pv 5) (pe_lst pa_nil) (nomark _)) (pss_one (ps_ret pe_non)) pss_nil)
      (pss_cons (ps_for PassesOwn.never rfl (pi_list (pv 5)) (pg_name (i := 4) sc__law_ranks.nd rfl (Or.inl rfl)) (pss_cons (ps_dput hu (pv 3) (pv 4) pe_int rfl)
      (pss_one (ps_for PassesOwn.never rfl (pi_list (pv 2)) (pg_tup rfl (pgs_cons (pg_name (i := 6) sc__law_ranks.nd rfl (Or.inl rfl)) (pgs_cons (pg_name (i := 7) sc__law_ranks.nd rfl (Or.inl rfl)) pgs_nil))) (pss_one (ps_if (PW.pt (pw_and (pt_cmpR op_eq (pv 6) (pv 4) (nomark _)) (pw_and1 (pt_cmpR op_ge (pe_dget hu (pv 3) (pv 7) (fun _ _ => rfl)) (pe_dget hu (pv 3) (pv 4) (fun _ _ => rfl)) (nomark _))))) (pss_one (ps_dput hu (pv 3) (pv 4) (pe_op op_add (pe_dget hu (pv 3) (pv 7) (fun _ _ => rfl)) pe_int) rfl)) pss_nil))))))
      (pss_one (ps_set (i := 1) sc__law_ranks.nd rfl (Or.inr rfl) (pe_lc (own := [("_law_kind", 4)]) (g := gName 4) (by rfl) sc__law_ranks.nd (pi_list (pv 1)) (blkOk_by (own := [("_law_kind", 4)]) (N := N__law_ranks) (sc := defScope s__law_ranks) (by decide +kernel)) (fun _ _ _ _ _ => (pg_name (i := 4) sc__law_ranks.nd rfl (Or.inl rfl) (Or.inr rfl))) (fun _ _ _ _ _ => (pts_one (pt_cmpR (notIn_seq K) (pv 4) (pv 5) (by rfl)))) (fun _ _ _ _ _ => (pv 4)))))))))
      (pss_one (ps_ret (pe_lc (own := [("_law_kind", 4)]) (g := gName 4) (by rfl) sc__law_ranks.nd (pi_list (own_call O__law_tight hr (by first | decide | omega) (pa_cons (pv 0) pa_nil))) (blkOk_by (own := [("_law_kind", 4)]) (N := N__law_ranks) (sc := defScope s__law_ranks) (by decide +kernel)) (fun _ _ _ _ _ => (pg_name (i := 4) sc__law_ranks.nd rfl (Or.inl rfl) (Or.inr rfl))) (fun _ _ _ _ _ => pts_nil) (fun _ _ _ _ _ => (pe_tup (pa_cons (pv 4) (pa_cons (pe_dget hu (pv 3) (pv 4) (fun _ _ => rfl)) pa_nil))))))))), ?_⟩
    walk_at "ls"
    refine ⟨S, L, b, B, ck, rfl, hs, hB, fun H1 p1 hp1 h1 s1 => ?_⟩
    walk_at "ls"
    refine ⟨S, L, b, B, ck, rfl, hs.same s1, hB, fun H2 p2 tx hp2 h2 htx s2 => ?_⟩
    have ltT := tight_len hB ck
    have lee := tightE_len hB ck
    have lx : tx.length = (tightE B ck).length := by rw [htx.len, List.length_map]
    refine fun D hD => ⟨(by show 3 ≤ sizeLine; decide), fun t ht => ?_⟩
    have nDt : D ≠ t := ne_of_none upd_same ht
    have s3 : Same H2 (upd (upd H2 D (.dK [])) t (.tup [.ref p1, .ref p2, .ref D])) := (same_new hD).trans (same_new ht)
    refine ⟨t, _, rfl, .inl (.inl upd_same), rfl, _, _, rfl, _, _, rfl, _, _, rfl, rfl, ?_⟩
    have h3D : (upd (upd H2 D (.dK [])) t (.tup [.ref p1, .ref p2, .ref D])) D = some (.dK []) := by rw [upd_ne nDt, upd_same]
    have h31 := s3 _ _ (s2 _ _ h1)
    generalize upd (upd H2 D (.dK [])) t (.tup [.ref p1, .ref p2, .ref D]) = H3 at *
    refine ⟨fun m σ H' => ∃ (left done : List Str) (r : Str → Nat) (v4 v5 v6 v7 : Option V) (pl : Addr), σ = [some (.ref b), some (.ref pl), some (.ref p2), some (.ref D), v4, v5, v6, v7, none] ∧ LvS (tightL B ck) left done ∧ left.length ≤ m ∧
      lawRun (tightE B ck) (tightL B ck).length (tightL B ck) (fun _ => 0) = lawRun (tightE B ck) m left r ∧ H' pl = some (.lst (left.map V.str)) ∧ H' D = some (.dK (tabV done r)) ∧ Same H2 H',
      ⟨(tightL B ck).length, tightL B ck, [], fun _ => 0, none, none, none, none, p1, rfl, ⟨tight_nd hB ck, fun _ h => h, (fun _ h => nomatch h), fun z h1 h2 => absurd h1 h2, Nat.le_of_eq (Nat.zero_add _)⟩, Nat.le_refl _, rfl, h31, h3D, s3⟩, ?_⟩
    rintro m σ H4 ⟨left, done, r, v4, v5, v6, v7, pl, rfl, lv, hm, hrun, h4l, h4D, s4⟩
    walk_at "ls"
    refine ⟨Nat.zero_le _, fun q0 hq0 => ?_⟩
    have s5 : Same H4 (upd H4 q0 (.lst [])) := same_new hq0
    refine ⟨pl, q0, _, rfl, rfl, .inl (.inl (s5 _ _ h4l)), .inl (.inl upd_same), _, rfl, ?_⟩
    have h5l := s5 _ _ h4l
    have h5D := s5 _ _ h4D
    have s25 := s4.trans s5
    generalize upd H4 q0 (.lst []) = H5 at *
    clear s5 hq0 s4 h4l h4D
    have ll : left.length ≤ 3 := by
      have := lv.len
      omega
    have ld : done.length ≤ 3 := by
      have := lv.len
      omega
    refine ite2 (fun e => ?_) (fun e => ?_)
    · have hne : left ≠ [] := by
        rintro rfl
        exact absurd e (by decide)
      obtain ⟨m, rfl⟩ : ∃ m', m = m' + 1 := ⟨m - 1, by
        have : 0 < left.length := List.length_pos_iff.mpr hne
        omega⟩
      rw [lawRun_step hne] at hrun
      refine ⟨_, fun σ' H' h => ⟨m, Nat.lt_succ_self m, h⟩, ?_⟩
      walk_at "ls"
      refine ⟨⟨_, .inl (.inl h5l)⟩, fun D2 hD2 => ?_⟩
      refine lc_it (walk_list (xs := left.map V.str)) (fun i H6 => H6 D2 = some (.lst (((left.take i).filter (isFree (tightE B ck) left)).map V.str)) ∧ Same H5 H6) ⟨upd_same, same_new hD2⟩ (fun i H6 _ ⟨_, s6⟩ => .inl (.inl (s6 _ _ h5l))) ?_ ?_
      · rintro i y Hy6 H6 hi ⟨h6, s6⟩ ⟨rfl, hy⟩
        rw [List.getElem?_map] at hy
        obtain ⟨k, hk, rfl⟩ := Option.map_eq_some_iff.mp hy
        refine ⟨rfl, ?_⟩
        walk_at "ls"
        have s26 := s25.trans s6
        refine ⟨⟨_, .inl (.inl (s26 _ _ h2))⟩, fun D3 hD3 => ?_⟩
        refine lc_it (walk_list (xs := tx)) (fun j H7 => ∃ zs : List V, H7 D3 = some (.lst zs) ∧ zs.length = (((tightE B ck).take j).filter fun e => decide (e.1 = k) && decide (e.2 ∈ left)).length ∧ Same H6 H7) ⟨[], upd_same, rfl, same_new hD3⟩ (fun j H7 _ ⟨_, _, _, s7⟩ => .inl (.inl (s7 _ _ (s26 _ _ h2)))) ?_ ?_
        · rintro j yj Hy7 H7 hj ⟨zs, h7, hz, s7⟩ ⟨rfl, hyj⟩
          obtain ⟨ys, hys, t, rfl, ht⟩ := TupsAt.get (htx.keep (.same (s26.trans s7))) hyj
          obtain ⟨ed, hed, rfl⟩ := map_get hys
          have h7l := s7 _ _ (s6 _ _ h5l)
          have lzs : zs.length ≤ 8 := by
            rw [hz]
            refine Nat.le_trans (List.length_filter_le _ _) ?_
            rw [List.length_take]
            omega
          refine ⟨rfl, ?_⟩
          refine and2 (decide (ed.1 = k)) (decide (ed.2 ∈ left)) (fun Q' q' => ?_) (fun _ Q' q' => ?_) ?_
          · walk_at "ls"
            rw [strEq]
            exact q'
          · walk_at "ls"
            refine ⟨pl, _, rfl, .inl (.inl (.inl h7l)), rfl, all_flat _, _, rfl, ?_⟩
            rw [in_strs]
            exact q'
          · refine ite2 (fun e => ?_) (fun e => ?_)
            · walk_at "ls"
              refine ⟨zs, h7, small1000 (by omega), zs ++ [.ref t], upd_same, ?_, Same.set s7 hD3⟩
              rw [List.length_append, hz, take_snoc hed, List.filter_append, List.length_append, List.filter_cons, if_pos e]
              rfl
            · refine ⟨zs, h7, ?_, s7⟩
              rw [hz, take_snoc hed, List.filter_append, List.filter_cons, if_neg e, List.filter_nil, List.append_nil]
        · rintro H7 ⟨zs, h7, hz, s7⟩
          rw [lx, List.take_length] at hz
          refine ⟨Nat.zero_le _, fun q1 hq1 => ?_⟩
          have s8 : Same H7 (upd H7 q1 (.lst [])) := same_new hq1
          refine ⟨D3, q1, zs, rfl, rfl, .inl (.inl (s8 _ _ h7)), .inl (.inl upd_same), _, rfl, ?_⟩
          have ef : zs.isEmpty = isFree (tightE B ck) left k := by
            unfold isFree
            rw [Bool.eq_iff_iff, List.isEmpty_iff_length_eq_zero, List.isEmpty_iff_length_eq_zero, hz]
          rw [ef]
          have h8 := s8 _ _ (s7 _ _ h6)
          have s68 := s6.trans (s7.trans s8)
          refine ite2 (fun e => ?_) (fun e => ?_)
          · walk_at "ls"
            refine ⟨_, h8, small1000 (by rw [List.length_map]; refine Nat.le_trans (List.length_filter_le _ _) ?_; rw [List.length_take]; omega), ?_, Same.set s68 hD2⟩
            rw [upd_same, take_snoc hk, List.filter_append, List.filter_cons, if_pos e, List.map_append]
            rfl
          · refine ⟨?_, s68⟩
            rw [h8, take_snoc hk, List.filter_append, List.filter_cons, if_neg e, List.filter_nil, List.append_nil]
      rintro H6 ⟨h6, s6⟩
      rw [List.length_map, List.take_length] at h6
      have h6f : H6 D2 = some (.lst ((freeOf (tightE B ck) left).map V.str)) := h6
      walk_at "ls"
      refine ⟨Nat.zero_le _, fun q2 hq2 => ?_⟩
      have s7 : Same H6 (upd H6 q2 (.lst [])) := same_new hq2
      refine ⟨D2, q2, _, rfl, rfl, .inl (.inl (s7 _ _ h6f)), .inl (.inl upd_same), _, rfl, ?_⟩
      have h7f := s7 _ _ h6f
      have h7l := s7 _ _ (s6 _ _ h5l)
      have h7D := s7 _ _ (s6 _ _ h5D)
      have s27 := s25.trans (s6.trans s7)
      generalize upd H6 q2 (.lst []) = H7 at *
      clear s7 hq2 h6 h6f s6 H6
      have hDf : D2 ≠ D := fun e => by rw [e, h7D] at h7f; cases h7f
      have hDl : pl ≠ D := fun e => by rw [e, h7D] at h7l; cases h7l
      refine ite2 (fun e2 => ?_) (fun e2 => ?_)
      · have hf : freeOf (tightE B ck) left = [] := by
          rw [List.isEmpty_iff, List.map_eq_nil_iff] at e2
          exact e2
        rw [if_pos hf] at hrun
        have hn : ranksL (tightL B ck) (tightE B ck) = none := by
          unfold ranksL
          rw [hrun]
          rfl
        rw [hn] at q
        exact q _ ((s1.trans s2).trans s27)
      have hf : freeOf (tightE B ck) left ≠ [] := fun h => e2 (by rw [h]; rfl)
      rw [if_neg hf] at hrun
      have lf : (freeOf (tightE B ck) left).length ≤ 3 := Nat.le_trans (List.length_filter_le _ _) ll
      walk_at "ls"
      refine ⟨⟨_, .inl (.inl h7f)⟩, ?_⟩
      refine for_it (walk_list (xs := (freeOf (tightE B ck) left).map V.str)) (fun i σ H8 => ∃ (v4 v6 v7 : Option V), σ = [some (.ref b), some (.ref pl), some (.ref p2), some (.ref D), v4, some (.ref D2), v6, v7, none] ∧
          H8 D = some (.dK (tabV (done ++ (freeOf (tightE B ck) left).take i) (stepR (tightE B ck) left r i))) ∧ H8 pl = some (.lst (left.map V.str)) ∧ H8 D2 = some (.lst ((freeOf (tightE B ck) left).map V.str)) ∧ Same H2 H8)
        ⟨v4, v6, v7, rfl, by rw [List.take_zero, List.append_nil, h7D]; congr 3, h7l, h7f, s27⟩ (fun i σ H8 _ ⟨_, _, _, _, _, _, h, _⟩ => .inl (.inl h)) ?_ ?_
      · rintro i y σ Hz H8 hi ⟨v4, v6, v7, rfl, h8D, h8l, h8f, s8⟩ ⟨rfl, hy⟩
        rw [List.getElem?_map] at hy
        obtain ⟨k, hk, rfl⟩ := Option.map_eq_some_iff.mp hy
        have hkf := List.mem_of_getElem? hk
        have hkl := (free_mem hkf).1
        have hkfree := (free_mem hkf).2
        have dp := DPut.k (k := .inr k) (v := .int ((0 : Nat) : Int)) h8D (Nat.lt_of_le_of_lt (show _ ≤ 1000 by rw [tabV_len, List.length_append, List.length_take]; omega) (by decide))
        rw [mid_new lv hk] at dp
        have hkD : k ∈ done ++ (freeOf (tightE B ck) left).take (i + 1) := List.mem_append_right _ (by rw [take_snoc hk]; exact List.mem_append_right _ (.head _))
        walk_at "ls"
        refine ⟨D, _, rfl, dp, ?_⟩
        walk_at "ls"
        have s9 : Same H2 (upd H8 D (.dK (tabV (done ++ (freeOf (tightE B ck) left).take (i + 1)) (midR (tightE B ck) left r i k 0)))) := Same.set s8 hD
        refine ⟨⟨_, .inl (.inl (s9 _ _ h2))⟩, ?_⟩
        refine for_it (walk_list (xs := tx)) (fun j σ H9 => ∃ (v6 v7 : Option V), σ = [some (.ref b), some (.ref pl), some (.ref p2), some (.ref D), some (.str k), some (.ref D2), v6, v7, none] ∧
            H9 D = some (.dK (tabV (done ++ (freeOf (tightE B ck) left).take (i + 1)) (midR (tightE B ck) left r i k (valTo (tightE B ck) r k j)))) ∧ H9 pl = some (.lst (left.map V.str)) ∧ H9 D2 = some (.lst ((freeOf (tightE B ck) left).map V.str)) ∧ Same H2 H9)
          ⟨v6, v7, rfl, upd_same, by rw [upd_ne hDl]; exact h8l, by rw [upd_ne hDf]; exact h8f, s9⟩ (fun j σ H9 _ ⟨_, _, _, _, _, _, s⟩ => .inl (.inl (s _ _ h2))) ?_ ?_
        · rintro j yj σ Hz2 H9 hj ⟨v6, v7, rfl, h9D, h9l, h9f, s9⟩ ⟨rfl, hyj⟩
          obtain ⟨ys, hys, t, rfl, ht⟩ := TupsAt.get (htx.keep (.same s9)) hyj
          obtain ⟨ed, hed, rfl⟩ := map_get hys
          have hee := List.mem_of_getElem? hed
          refine ⟨t, _, rfl, .inl (.inl ht), rfl, _, _, rfl, _, _, rfl, rfl, ?_⟩
          have gD : ed.1 = k → ed.2 ∈ done ++ (freeOf (tightE B ck) left).take (i + 1) ∧ midR (tightE B ck) left r i k (valTo (tightE B ck) r k j) ed.2 = r ed.2 := fun e1 => by
            have hg := free_no hkfree ed hee e1
            exact ⟨List.mem_append_left _ (lv.cov _ (tightE_mem hee).2 hg), mid_goal hkl hg⟩
          have kV : midR (tightE B ck) left r i k (valTo (tightE B ck) r k j) k = valTo (tightE B ck) r k j := if_pos rfl
          refine and2 (decide (ed.1 = k)) (decide (valTo (tightE B ck) r k j ≤ r ed.2)) (fun Q' q' => ?_) (fun ce Q' q' => ?_) ?_
          · walk_at "ls"
            rw [strEq]
            exact q'
          · obtain ⟨g1, g2⟩ := gD (of_decide_eq_true ce)
            walk_at "ls"
            refine ⟨D, _, rfl, dget_tab h9D g1, ?_⟩
            walk_at "ls"
            refine ⟨D, _, rfl, dget_tab h9D hkD, ?_⟩
            walk_at "ls"
            rw [g2, kV]
            rw [show decide (((valTo (tightE B ck) r k j : Nat) : Int) ≤ ((r ed.2 : Nat) : Int)) = decide (valTo (tightE B ck) r k j ≤ r ed.2) from decide_eq_decide.mpr Int.ofNat_le]
            exact q'
          refine ite2 (fun e => ?_) (fun e => ?_)
          · rw [Bool.and_eq_true, decide_eq_true_eq, decide_eq_true_eq] at e
            obtain ⟨g1, g2⟩ := gD e.1
            walk_at "ls"
            refine ⟨D, _, rfl, dget_tab h9D g1, ?_⟩
            walk_at "ls"
            have dp := DPut.k (k := .inr k) (v := .int ((r ed.2 + 1 : Nat) : Int)) h9D (Nat.lt_of_le_of_lt (show _ ≤ 1000 by rw [tabV_len, List.length_append, List.length_take]; omega) (by decide))
            rw [mid_put hkD] at dp
            rw [g2]
            refine ⟨D, _, rfl, dp, ?_⟩
            refine ⟨_, _, rfl, ?_, by rw [upd_ne hDl]; exact h9l, by rw [upd_ne hDf]; exact h9f, Same.set s9 hD⟩
            rw [upd_same, valTo_snoc hed]
            unfold valStep
            rw [if_pos e]
          · refine ⟨_, _, rfl, ?_, h9l, h9f, s9⟩
            rw [h9D, valTo_snoc hed]
            unfold valStep
            rw [if_neg (fun h => e (by rw [Bool.and_eq_true, decide_eq_true_eq, decide_eq_true_eq]; exact h))]
        · rintro σ H9 ⟨v6, v7, rfl, h9D, h9l, h9f, s9⟩
          rw [lx, mid_end hk] at h9D
          exact ⟨_, _, _, rfl, h9D, h9l, h9f, s9⟩
      · rintro σ H8 ⟨v4, v6, v7, rfl, h8D, h8l, h8f, s8⟩
        rw [List.length_map, List.take_length, step_end] at h8D
        walk_at "ls"
        refine ⟨⟨_, .inl (.inl h8l)⟩, fun D4 hD4 => ?_⟩
        have n1 : pl ≠ D4 := ne_of_none h8l hD4
        have n2 : D2 ≠ D4 := ne_of_none h8f hD4
        have n3 : D ≠ D4 := ne_of_none h8D hD4
        have lz : left.length < sizeLine := Nat.lt_of_le_of_lt ll (by decide)
        refine lc_rows (walk_list (xs := left.map V.str)) (left.map V.str) left (fun z => if (!decide (z ∈ freeOf (tightE B ck) left)) = true then some (V.str z) else none) (by rw [List.length_map]) (fun i H x H' hi hy => hy) (by rw [List.length_map]; exact lz) (fun acc => .inl (.inl (by rw [upd_ne n1]; exact h8l))) (fun j y z hj hyj hz => ?_) ?_
        · rw [List.getElem?_map, hz] at hyj
          cases hyj
          rw [List.length_map] at hj
          refine ⟨rfl, ?_⟩
          walk_at "ls"
          refine ⟨D2, _, rfl, .inl (.inl (.inl (by rw [upd_ne n2]; exact h8f))), rfl, all_flat _, _, rfl, ?_⟩
          rw [in_strs]
          refine ite2 (fun e => ?_) (fun e => ?_)
          · walk_at "ls"
            exact lr_yes hz hj lz (if_pos e)
          · exact lr_no hz (if_neg e)
        rw [filterMap_if (fun z => !decide (z ∈ freeOf (tightE B ck) left)) V.str]
        have hlt := rest_lt hf
        exact ⟨restOf (tightE B ck) left, done ++ freeOf (tightE B ck) left, nextR (tightE B ck) left r, _, _, _, _, D4, rfl, lv.next, by omega, hrun, upd_same, by rw [upd_ne n3]; exact h8D, s8.trans (fun b x h => by rw [upd_ne (ne_of_none h hD4)]; exact h)⟩
    · have hl : left = [] := by
        rw [Bool.not_eq_true, Bool.not_eq_false', List.isEmpty_iff, List.map_eq_nil_iff] at e
        exact e
      subst hl
      rw [lawRun_nil] at hrun
      have hn : ranksL (tightL B ck) (tightE B ck) = some ((tightL B ck).map fun k => (k, r k)) := by
        unfold ranksL
        rw [hrun]
        rfl
      rw [hn] at q
      have s15 := (s1.trans s2).trans s25
      walk_at "ls"
      refine ⟨S, L, b, B, ck, rfl, hs.same s15, hB, fun H6 p6 hp6 h6 s6 => ?_⟩
      have h6D := s6 _ _ h5D
      refine ⟨p6, rfl, ⟨_, .inl (.inl h6)⟩, fun D7 hD7 => ?_⟩
      have hDs : ∀ z ∈ tightL B ck, z ∈ done := fun z hz => lv.cov z hz (fun h => nomatch h)
      refine lc_it (walk_list (xs := (tightL B ck).map V.str)) (fun i H8 => ∃ ys : List V, H8 D7 = some (.lst ys) ∧ TupsAt H8 ys ((((tightL B ck).take i).map fun k => (k, r k)).map rkV) ∧ Same H6 H8) ⟨[], upd_same, .nil, same_new hD7⟩ (fun i H8 _ ⟨_, _, _, s8⟩ => .inl (.inl (s8 _ _ h6))) ?_ ?_
      · rintro i y Hy8 H8 hi ⟨ys, h8, h8t, s8⟩ ⟨rfl, hy⟩
        rw [List.getElem?_map] at hy
        obtain ⟨z, hz, rfl⟩ := Option.map_eq_some_iff.mp hy
        have ly : ys.length ≤ 3 := by
          rw [h8t.len, List.length_map, List.length_map, List.length_take]
          omega
        refine ⟨rfl, ?_⟩
        walk_at "ls"
        refine ⟨D, _, rfl, dget_tab (s8 _ _ h6D) (hDs z (List.mem_of_getElem? hz)), ?_⟩
        refine ⟨(by show 2 ≤ sizeLine; decide), fun p9 hp9 => ?_⟩
        have n79 : D7 ≠ p9 := ne_of_none h8 hp9
        have h9 : (upd H8 p9 (.tup [.str z, .int ((r z : Nat) : Int)])) D7 = some (.lst ys) := by rw [upd_ne n79]; exact h8
        refine ⟨ys, h9, small1000 (by omega), ys ++ [.ref p9], upd_same, ?_, Same.set (s8.trans (same_new hp9)) hD7⟩
        rw [take_snoc hz, List.map_append, List.map_append]
        exact ((h8t.keep (.new hp9)).keep (.lst h9)).snoc ⟨p9, rfl, by rw [upd_ne (Ne.symm n79), upd_same]; rfl⟩
      · rintro H8 ⟨ys, h8, h8t, s8⟩
        rw [List.length_map, List.take_length] at h8t
        exact q H8 D7 ys (s15.free (s6.free hD7)) h8 h8t (s15.trans (s6.trans s8))
end
end Ls
namespace Ls
open PySem PySem.Spec PyProof.Rows L2
section
variable {X : Cx}
/-- repr(x): x data at an address, or None -/
def rReprN (K : PySem.W.Frag) : List V → Hp → VK → Prop := fun xs H Q => rReprX K xs H Q ∨ (xs = [.non] ∧ Q (.str "None") H)
theorem call_repr_dataN {k : Nat} (hgd : X.A.guards = some []) (hr : Room k X.A) : CallR X (.builtin "repr") (rReprN X.K) := by
  intro pins s σ H xs us Q I r h
  rcases h with h | ⟨rfl, q⟩
  · exact call_repr_dataX hgd hr pins s σ H xs us Q I r h
  · obtain ⟨u, rfl, ru⟩ := r.one
    cases ru
    refine PySem.P.repr_of_none ?_
    exact ⟨.str "None", H, I.kept (t' := s.toks + 1) (fun b o e => e), ⟨_, rfl⟩, q⟩
end
end Ls
namespace Ls
open PySem PySem.Spec PyProof.Rows L2
/-! ### short steps -/
local macro_rules | `(tactic| walk_at "ls_ne") => `(tactic| first | assumption | exact Ne.symm (by assumption) | exact ne_of_none (by assumption) (by assumption) | exact Ne.symm (ne_of_none (by assumption) (by assumption)))
local macro_rules | `(tactic| walk_at "ls_hp") => `(tactic| first
  | with_reducible assumption
  | exact upd_same
  | exact Eq.trans (upd_ne (by walk_at "ls_ne")) (by walk_at "ls_hp"))
local macro_rules | `(tactic| walk_at "ls_st") => `(tactic| first
  | with_reducible assumption
  | exact Stm.upd (by walk_at "ls_st") (by first | walk_at "ls_ne" | exact (Stm.noneS (by assumption) (by assumption)).1) (by first | walk_at "ls_ne" | exact (Stm.noneS (by assumption) (by assumption)).2))
local macro_rules | `(tactic| walk_at "ls1") => `(tactic| first
  | refine ⟨_, rfl, ?_⟩
  | refine ⟨_, _, rfl, rfl, ?_⟩
  | refine ⟨_, _, _, _, rfl, rfl, .inl (.inl (by walk_at "ls_hp")), rfl, ?_⟩
  | refine ⟨_, _, _, _, rfl, rfl, (by walk_at "ls_hp"), rfl, ?_⟩
  | refine ⟨rfl, _, rfl, ?_⟩
  | refine ⟨.inl ⟨rfl, _, .inl (.inl (by walk_at "ls_hp"))⟩, ?_⟩)
local macro_rules | `(tactic| walk_at "ls") => `(tactic| repeat (walk_at "ls1"))

theorem bare_menu {B : Shp} {k : Str × Bool} (h : k ∈ B.ks) : bareOf k.1 ∈ menu B := by
  unfold menu
  refine List.mem_append_left _ (List.mem_append_right _ (List.mem_flatMap.mpr ⟨k, h, ?_⟩))
  unfold withN kindW
  exact List.mem_map.mpr ⟨"bare", .head _, congrArg (· ++ k.1) (show ("bare" : Str) ++ " " = "bare " by decide +kernel)⟩
theorem tightL_congr {B : Shp} {ck ck' : List Str} (h : ∀ z, z ∈ ck ↔ z ∈ ck') : tightL B ck = tightL B ck' := by
  unfold tightL
  exact List.filter_congr fun z _ => decide_eq_decide.mpr (h _)
theorem tightE_congr {B : Shp} {ck ck' : List Str} (h : ∀ z, z ∈ ck ↔ z ∈ ck') : tightE B ck = tightE B ck' := by
  unfold tightE tightC
  rw [tightL_congr h]
theorem tups_rows {K : PySem.W.Frag} {H : Hp} : ∀ {xs : List V} {yss : List (List V)}, TupsAt H xs yss → RowsAt K H xs yss
  | _, _, .nil => .nil
  | _, _, .cons ⟨t, e, h⟩ r => .cons ⟨t, e, .inr (.inl (.inl h))⟩ (tups_rows r)
section
variable {P : Program} {w : World} {K : PySem.W.Frag} {mg : Str → Option Value} {base : Heap}
/-! ### _law_same of what may be None -/
def spSameN (K : PySem.W.Frag) : Sp := fun vs H Q _ => ((∃ (a b : Addr) (d : PyData), vs = [.ref a, .ref b] ∧ DpX K H (.ref a) d ∧ DpX K H (.ref b) d ∧ (d.showable = true ∧ d.depth ≤ 60 ∧ d.shown.length ≤ sizeLine)) ∨ vs = [.non, .non]) ∧ Q (.bl true) H
theorem ok_sameN {f : Addr} {fd : FuncData} (F : Fun K "_law_same" "_law_same" s__law_same f fd) (T : Bt mg) : FnG P w K mg base CX0 1 f fd ["_law_found", "_law_due"] (spSameN K) := by
  refine fun_okG F sc__law_same (fun vs H Q E h => ?_) (fun cdv A outer s H vs Q E hgd hr h => ?_)
  · obtain ⟨⟨a, b, d, rfl, _⟩ | rfl, _⟩ := h <;> rfl
  · obtain ⟨⟨a, b, d, rfl, ha, hb, ⟨h1, h3, h4⟩⟩ | rfl, q⟩ := h
    · have hu := hu_of hr
      refine ⟨_, (pss_one (ps_ret (pe_cmpR op_eq (pe_callB (call_repr_dataN hgd hr) (by rfl) T.m_repr (by decide +kernel) (pa_cons (pv 0) pa_nil)) (pe_callB (call_repr_dataN hgd hr) (by rfl) T.m_repr (by decide +kernel) (pa_cons (pv 1) pa_nil)) (nomark _)))), ?_⟩
      walk_at "ls"
      refine .inl ⟨a, d, rfl, ha, h1, h3, h4, ?_⟩
      walk_at "ls"
      refine .inl ⟨b, d, rfl, hb, h1, h3, h4, ?_⟩
      refine ⟨rfl, ?_⟩
      rw [decide_eq_true rfl]
      exact q
    · have hu := hu_of hr
      refine ⟨_, (pss_one (ps_ret (pe_cmpR op_eq (pe_callB (call_repr_dataN hgd hr) (by rfl) T.m_repr (by decide +kernel) (pa_cons (pv 0) pa_nil)) (pe_callB (call_repr_dataN hgd hr) (by rfl) T.m_repr (by decide +kernel) (pa_cons (pv 1) pa_nil)) (nomark _)))), ?_⟩
      walk_at "ls"
      refine .inr ⟨rfl, ?_⟩
      walk_at "ls"
      refine .inr ⟨rfl, ?_⟩
      refine ⟨rfl, ?_⟩
      rw [decide_eq_true rfl]
      exact q
/-! ### _law_made -/
abbrev s__law_made : Stmt := topS 66
theorem sc__law_made : FnScope ["_law_b"] ["_law_b"] (defScope s__law_made) := ⟨rfl, rfl, rfl, by decide +kernel, rfl, by decide +kernel, by decide +kernel⟩
abbrev N__law_made : List Str := ["_law_b"]
def spMadeL (C : Addr) : Sp := fun vs H Q _ => ∃ (S L b : Addr) (B : Shp) (ck : List Str), vs = [.ref b] ∧ ShpAt S L H b B ck ∧ B.Ok ∧ (∀ z ∈ ck, z ∈ menu B) ∧ ck.length ≤ 1000 ∧
  ∀ (H' : Hp) (o : Addr), BookS C H' o B ((menu B).filter fun z => decide (z ∈ ck)) → Same H H' → Q (.ref o) H'
theorem ok_madeL {C : Addr} {A : ErrA} {f : Addr} {fd : FuncData} (F : Fun K "_law_made" "_law_made" s__law_made f fd) (O_Book : OwnCR P w K mg base 5 C "Book" ["self", "kinds", "columns", "checks"] (spInit K C A)) : FnOk P w K mg base CX0 7 f fd ["_law_b"] (spMadeL C) := by
  refine F.ok sc__law_made (fun vs H Q E h => ?_) (fun cdv A' outer s H vs Q E hr h => ?_)
  · obtain ⟨S, L, b, B, ck, rfl, _⟩ := h
    rfl
  · obtain ⟨S, L, b, B, ck, rfl, ⟨ka, ca, ea, kx, cx, hb, hk, hkt, hc, hct, he, n1, n2, n3⟩, hB, hck, lck, q⟩ := h
    have hu := hu_of hr
    refine ⟨_, (pss_one (ps_ret (own_makeR O_Book hr (by first | decide | omega) L2.takes0 (pa_cons (pe_dget hu (pv 0) pe_str (fun _ _ => rfl)) (pa_cons (pe_dget hu (pv 0) pe_str (fun _ _ => rfl)) (pa_cons (pe_dget hu (pv 0) pe_str (fun _ _ => rfl)) pa_nil)))))), ?_⟩
    walk_at "ls"
    refine ⟨b, _, rfl, dg_kinds hb, ?_⟩
    walk_at "ls"
    refine ⟨b, _, rfl, dg_columns hb, ?_⟩
    walk_at "ls"
    refine ⟨b, _, rfl, dg_checks hb, ?_⟩
    intro o dx ho hdx hne
    have s0 : Same H (upd (upd H dx (.own o)) o (.ins C dx [])) := (same_new hdx).trans (same_new (by rw [upd_ne (Ne.symm hne)]; exact ho))
    have nk3 := hB.nk3
    have nc8 := hB.nc
    have berr : bookErr (ksU B) (csU B) (ck.map V.str) = none := book_fine hB.fine hck
    refine ⟨o, dx, ka, ca, ea, kx, cx, ck.map V.str, ksU B, csU B, rfl, upd_same, .inl (.inl (.inl (s0 _ _ hk))), ?_, .inl (.inl (.inl (s0 _ _ hc))), ?_, .inl (.inl (.inl (s0 _ _ he))), fun k hk => ?_, fun c hc => ?_, fun v hv => ?_, ?_, ?_, ?_, ?_⟩
    · rw [ksU_rows]
      exact RowsAt.same (tups_rows hkt) s0
    · rw [csU_rows]
      exact RowsAt.same (tups_rows hct) s0
    · obtain ⟨k0, hk0, rfl⟩ := List.mem_map.mp hk
      exact .inl ⟨_, rfl, Nat.le_trans (hB.nm _ (List.mem_append_left _ (List.mem_map_of_mem hk0))).1.2.1 (by decide)⟩
    · obtain ⟨c0, hc0, rfl⟩ := List.mem_map.mp hc
      refine ⟨.inl ⟨_, rfl, Nat.le_trans (hB.nm _ (List.mem_append_right _ (List.mem_map_of_mem hc0))).1.2.1 (by decide)⟩, .inl ⟨_, rfl, Nat.le_trans (hB.nm _ (List.mem_append_left _ (hB.home c0 hc0))).1.2.1 (by decide)⟩, .inl ⟨_, rfl, Nat.le_trans (hB.nm _ (List.mem_append_left _ (hB.goal c0 hc0))).1.2.1 (by decide)⟩, .inl ⟨_, rfl, ?_⟩⟩
      cases c0.2.2.2 <;> decide
    · obtain ⟨z, hz, rfl⟩ := List.mem_map.mp hv
      exact .inl ⟨_, rfl, Nat.le_trans (okB_len (menu_ok hB z (hck z hz))) (by decide)⟩
    · unfold ksU
      rw [List.length_map]
      omega
    · unfold csU
      rw [List.length_map]
      omega
    · rw [List.length_map]
      exact lck
    · rw [berr]
      intro H2 hb2 bt
      rw [menuU_is, show (ck.map V.str).map strOf = ck by rw [List.map_map]; exact List.map_id ck] at hb2
      exact ⟨rfl, q H2 o hb2 fun b u e => bt b u (ne_of_none e ho) (s0 _ _ e)⟩
/-! ### _law_with -/
abbrev s__law_with : Stmt := topS 72
theorem sc__law_with : FnScope ["_law_b", "_law_check"] ["_law_b", "_law_check"] (defScope s__law_with) := ⟨rfl, rfl, rfl, by decide +kernel, rfl, by decide +kernel, by decide +kernel⟩
abbrev N__law_with : List Str := ["_law_b", "_law_check"]
def spWithL : Sp := fun vs H Q _ => ∃ (S L b : Addr) (n : Nat) (B : Shp) (ck : List Str) (z : Str), vs = [.ref b, .str z] ∧ Stm H S L n ∧ ShpAt S L H b B ck ∧ ck.length ≤ 500 ∧
  ∀ (H' : Hp) (p : Addr), ShpAt S L H' p B (ck ++ [z]) → Stm H' S L n → Same H H' → Q (.ref p) H'
theorem ok_withL {f : Addr} {fd : FuncData} (F : Fun K "_law_with" "_law_with" s__law_with f fd) (T : Bt mg) : FnOk P w K mg base CX0 1 f fd ["_law_b", "_law_check"] spWithL := by
  refine F.ok sc__law_with (fun vs H Q E h => ?_) (fun cdv A outer s H vs Q E hr h => ?_)
  · obtain ⟨S, L, b, n, B, ck, z, rfl, _⟩ := h
    rfl
  · obtain ⟨S, L, b, n, B, ck, z, rfl, st, ⟨ka, ca, ea, kx, cx, hb, hk, hkt, hc, hct, he, n1, n2, n3⟩, lck, q⟩ := h
    have hu := hu_of hr
    refine ⟨_, (pss_one (ps_ret (pe_disp (pps_cons pe_str (pe_dget hu (pv 0) pe_str (fun _ _ => rfl)) (pps_cons pe_str (pe_dget hu (pv 0) pe_str (fun _ _ => rfl)) (pps_cons pe_str (pe_op op_cat (pe_dget hu (pv 0) pe_str (fun _ _ => rfl)) (pe_lst (pa_cons (pv 1) pa_nil))) pps_nil))) (by rfl) (by rfl) (fun z => by cases z) (by decide)))), ?_⟩
    intro p hp
    have nbp : b ≠ p := ne_of_none hb hp
    have hb' : (upd H p (.dK [])) b = _ := (upd_ne nbp).trans hb
    have s1 : Same H (upd H p (.dK [])) := same_new hp
    walk_at "ls"
    refine ⟨b, _, rfl, dg_kinds hb', ?_⟩
    walk_at "ls"
    refine ⟨b, _, rfl, dg_columns hb', ?_⟩
    walk_at "ls"
    refine ⟨b, _, rfl, dg_checks hb', ?_⟩
    walk_at "ls"
    refine ⟨(by show 1 ≤ sizeLine; decide), fun l hl => ?_⟩
    have s2 := s1.trans (same_new (o := .lst [.str z]) hl)
    refine ⟨ea, l, _, _, rfl, rfl, s2 _ _ he, upd_same, Nat.le_trans (show _ ≤ 1000 by rw [List.length_map]; show ck.length + 1 ≤ 1000; omega) (by decide), fun p2 hp2 => ?_⟩
    have s3 := s2.trans (same_new (o := .lst (ck.map V.str ++ [.str z])) hp2)
    have n4 := (st.keep s2).noneS hp2
    have h4p : (upd (upd (upd H p (.dK [])) l (.lst [.str z])) p2 (.lst (ck.map V.str ++ [.str z]))) p = some (.dK []) := by
      rw [upd_ne (ne_of_none (by rw [upd_ne (ne_of_none upd_same hl), upd_same]) hp2), upd_ne (ne_of_none upd_same hl), upd_same]
    have np : p2 ≠ p := fun e => by
      rw [e, upd_same] at h4p
      cases h4p
    refine ⟨h4p, [(.inr "kinds", .ref ka), (.inr "columns", .ref ca), (.inr "checks", .ref p2)], rfl, (by show 3 ≤ 15; decide), ?_⟩
    have sf : Same H (upd (upd (upd (upd H p (.dK [])) l (.lst [.str z])) p2 (.lst (ck.map V.str ++ [.str z]))) p (.dK (mergeK [] [(.inr "kinds", .ref ka), (.inr "columns", .ref ca), (.inr "checks", .ref p2)]))) := Same.set s3 hp
    exact q _ p ⟨ka, ca, p2, kx, cx, upd_same, sf _ _ hk, hkt.keep (.same sf), sf _ _ hc, hct.keep (.same sf), by rw [upd_ne np, upd_same, List.map_append]; rfl, n1, n2, n4⟩ (st.keep sf) sf
/-! ### _law_bared -/
abbrev s__law_bared : Stmt := topS 73
theorem sc__law_bared : FnScope ["_law_stream", "_law_b", "_law_kind", "_law_is_open"] ["_law_stream", "_law_b"] (defScope s__law_bared) := ⟨rfl, rfl, rfl, by decide +kernel, rfl, by decide +kernel, by decide +kernel⟩
abbrev N__law_bared : List Str := ["_law_stream", "_law_b", "_law_kind", "_law_is_open"]
def spBared : Sp := fun vs H Q _ => ∃ (S L b : Addr) (n : Nat) (B : Shp) (ck : List Str), vs = [.ref S, .ref b] ∧ Stm H S L n ∧ n ≤ 9990000 ∧ ShpAt S L H b B ck ∧ B.Ok ∧ (∀ z ∈ ck, z ∈ menu B) ∧ ck.length ≤ 60 ∧
  ∀ (H' : Hp) (p : Addr) (ck' : List Str), ShpAt S L H' p B ck' → (∀ z ∈ ck', z ∈ menu B) → ck'.length ≤ 63 → Stm H' S L (n + 3) → Old S L H H' → Q (.ref p) H'
theorem ok_bared {f : Addr} {fd : FuncData} (F : Fun K "_law_bared" "_law_bared" s__law_bared f fd) (T : Bt mg) (O__law_draw : Own P w K mg base CX0 1 "_law_draw" ["_law_stream", "_law_many"] spDraw) (O__law_checks : Own P w K mg base CX0 1 "_law_checks" ["_law_b", "_law_word", "_law_name"] spChkL)
    (O__law_with : Own P w K mg base CX0 1 "_law_with" ["_law_b", "_law_check"] spWithL) : FnOk P w K mg base CX0 2 f fd ["_law_stream", "_law_b"] spBared := by
  refine F.ok sc__law_bared (fun vs H Q E h => ?_) (fun cdv A outer s H vs Q E hr h => ?_)
  · obtain ⟨S, L, b, n, B, ck, rfl, _⟩ := h
    rfl
  · obtain ⟨S, L, b, n, B, ck, rfl, st, hn, hs, hB, hck, lck, q⟩ := h
    have hu := hu_of hr
    refine ⟨_, (pss_cons (ps_for PassesOwn.never rfl (pi_list (pe_dget hu (pv 1) pe_str (fun _ _ => rfl))) (pg_tup rfl (pgs_cons (pg_name (i := 2) sc__law_bared.nd rfl (Or.inl rfl)) (pgs_cons (pg_name (i := 3) sc__law_bared.nd rfl (Or.inl rfl)) pgs_nil))) (pss_one (ps_if (PW.pt (pw_and (pt_cmpR op_gt (own_call O__law_draw hr (by first | decide | omega) (pa_cons (pv 0) (pa_cons pe_int pa_nil))) pe_int (nomark _)) (pw_and1 (pt_not (pt_val (own_call O__law_checks hr (by first | decide | omega) (pa_cons (pv 1) (pa_cons pe_str (pa_cons (pv 2) pa_nil))))))))) (pss_one (ps_set (i := 1) sc__law_bared.nd rfl (Or.inl rfl) (own_call O__law_with hr (by first | decide | omega) (pa_cons (pv 1) (pa_cons (pe_op op_add_str pe_str (pv 2)) pa_nil))))) pss_nil)))
      (pss_one (ps_ret (pv 1)))), ?_⟩
    obtain ⟨ka, ca, ea, kx, cx, hb, hk, hkt, hc, hct, he, n1, n2, n3⟩ := id hs
    have lk : kx.length = B.ks.length := by rw [hkt.len, List.length_map]
    have nk3 := hB.nk3
    walk_at "ls"
    refine ⟨b, _, rfl, dg_kinds hb, ka, rfl, ⟨_, .inl (.inl hk)⟩, ?_⟩
    refine for_it (walk_list (xs := kx)) (fun i σ H1 => ∃ (b' : Addr) (ck' : List Str) (v2 v3 : Option V), σ = [some (.ref S), some (.ref b'), v2, v3] ∧ ShpAt S L H1 b' B ck' ∧ (∀ z ∈ ck', z ∈ menu B) ∧ ck'.length ≤ 60 + i ∧ Stm H1 S L (n + i) ∧ Old S L H H1)
      ⟨b, ck, none, none, rfl, hs, hck, lck, st, Old.refl _⟩ (fun i σ H1 _ ⟨_, _, _, _, _, _, _, _, _, od⟩ => .inl (.inl (od _ _ n1.1 n1.2 hk))) ?_ ?_
    · rintro i y σ Hz H1 hi ⟨b', ck', v2, v3, rfl, hs1, hck1, lck1, st1, od1⟩ ⟨rfl, hy⟩
      obtain ⟨ys, hys, t, rfl, ht⟩ := TupsAt.get (hkt.keep (TK.old st od1)) hy
      obtain ⟨kd, hkd, rfl⟩ := map_get hys
      have hkm := List.mem_of_getElem? hkd
      have nz := hB.nm kd.1 (List.mem_append_left _ (List.mem_map_of_mem hkm))
      refine ⟨t, _, rfl, .inl (.inl ht), rfl, _, _, rfl, _, _, rfl, rfl, ?_⟩
      walk_at "ls"
      refine ⟨S, L, n + i, 5, rfl, st1, by omega, by decide, by decide, fun H2 r r0 r1 st2 od2 => ?_⟩
      have hs2 := hs1.old st1 od2
      have od12 := od1.trans od2
      walk_at "ls"
      refine ite2 (fun e => ?_) (fun e => ?_)
      · walk_at "ls"
        refine ⟨S, L, b', B, ck', "bare", kd.1, rfl, hs2, by decide +kernel, nz.1.2.1, ?_⟩
        walk_at "ls"
        refine ite2 (fun e => ?_) (fun e => ?_)
        · walk_at "ls"
          refine ⟨room_str (n := 5) (m := 8) (by decide +kernel) nz.1.2.1 (by decide), ?_⟩
          walk_at "ls"
          refine ⟨S, L, b', n + (i + 1), B, ck', bareOf kd.1, rfl, st2, hs2, by omega, fun H3 p hp3 st3 s3 => ?_⟩
          refine ⟨p, ck' ++ [bareOf kd.1], _, _, rfl, hp3, fun z hz => ?_, by rw [List.length_append]; show ck'.length + 1 ≤ _; omega, st3, od12.trans (.same s3)⟩
          rcases List.mem_append.mp hz with h | h
          · exact hck1 z h
          · rw [List.mem_singleton.mp h]
            exact bare_menu hkm
        · exact ⟨b', ck', _, _, rfl, hs2, hck1, by omega, st2, od12⟩
      · exact ⟨b', ck', _, _, rfl, hs2, hck1, by omega, st2, od12⟩
    · rintro σ H1 ⟨b', ck', v2, v3, rfl, hs1, hck1, lck1, st1, od1⟩
      rw [lk] at lck1 st1
      walk_at "ls"
      exact q H1 b' ck' hs1 hck1 (by omega) (st1.mono (by omega)) od1
end
end Ls
namespace Ls
open PySem PySem.Spec PyProof.Rows L2
/-! ### short steps -/
local macro_rules | `(tactic| walk_at "ls_ne") => `(tactic| first | assumption | exact Ne.symm (by assumption) | exact ne_of_none (by assumption) (by assumption) | exact Ne.symm (ne_of_none (by assumption) (by assumption)))
local macro_rules | `(tactic| walk_at "ls_hp") => `(tactic| first
  | with_reducible assumption
  | exact upd_same
  | exact Eq.trans (upd_ne (by walk_at "ls_ne")) (by walk_at "ls_hp"))
local macro_rules | `(tactic| walk_at "ls_st") => `(tactic| first
  | with_reducible assumption
  | exact Stm.upd (by walk_at "ls_st") (by first | walk_at "ls_ne" | exact (Stm.noneS (by assumption) (by assumption)).1) (by first | walk_at "ls_ne" | exact (Stm.noneS (by assumption) (by assumption)).2))
local macro_rules | `(tactic| walk_at "ls1") => `(tactic| first
  | refine ⟨_, rfl, ?_⟩
  | refine ⟨_, _, rfl, rfl, ?_⟩
  | refine ⟨_, _, _, _, rfl, rfl, .inl (.inl (by walk_at "ls_hp")), rfl, ?_⟩
  | refine ⟨_, _, _, _, rfl, rfl, (by walk_at "ls_hp"), rfl, ?_⟩
  | refine ⟨rfl, _, rfl, ?_⟩
  | refine ⟨.inl ⟨rfl, _, .inl (.inl (by walk_at "ls_hp"))⟩, ?_⟩)
local macro_rules | `(tactic| walk_at "ls") => `(tactic| repeat (walk_at "ls1"))

theorem filterMap_some {α β : Type} (g : α → β) : ∀ l : List α, l.filterMap (fun a => some (g a)) = l.map g
  | [] => rfl
  | a :: l => by rw [List.filterMap_cons, List.map_cons, filterMap_some g l]
/-- the names of the columns whose home is this -/
def colsOf (B : Shp) (v : V) : List Str := (B.cs.filter fun c => decide (V.str c.2.1 = v)).map (·.1)
theorem colsOf_is (B : Shp) (v : V) : B.cs.filterMap (fun c => if V.str c.2.1 = v then some (V.str c.1) else none) = (colsOf B v).map V.str := by
  unfold colsOf
  generalize B.cs = l
  induction l with
  | nil => rfl
  | cons c r ih =>
    rw [List.filterMap_cons, List.filter_cons]
    by_cases h : V.str c.2.1 = v
    · rw [if_pos h, decide_eq_true h, if_pos rfl, ih]
      rfl
    · rw [if_neg h, decide_eq_false h, if_neg (by decide), ih]
/-- the questions of a shape -/
def qW (b : Bool) : List Str := ["loose", "half", if b then "unjust" else "spoilt"]
def questB (B : Shp) : List Str := ((B.cs.flatMap fun c => withN (qW c.2.2.2) c.1) ++ B.ks.map fun k => ("undue " : Str) ++ k.1) ++ (["stuck"] : List Str)
theorem qW_len (b : Bool) : ∀ a ∈ qW b, a.length ≤ 6 := by cases b <;> decide +kernel
section
variable {P : Program} {w : World} {K : PySem.W.Frag} {mg : Str → Option Value} {base : Heap}
/-! ### questions -/
abbrev s_Book_questions : Stmt := inClass (topS 23) 7
theorem sc_Book_questions : FnScope ["self", "found", "name", "home", "goal", "rule", "wrong", "is_open", "word"] ["self"] (defScope s_Book_questions) := ⟨rfl, rfl, rfl, by decide +kernel, rfl, by decide +kernel, by decide +kernel⟩
abbrev N_Book_questions : List Str := ["self", "found", "name", "home", "goal", "rule", "wrong", "is_open", "word"]
def spQuest (C : Addr) : Sp := fun vs H Q _ => ∃ (o : Addr) (B : Shp) (ck : List Str), vs = [.ref o] ∧ BookS C H o B ck ∧ B.Ok ∧ ∀ (H' : Hp) (p : Addr), H p = none → H' p = some (.lst ((questB B).map V.str)) → Same H H' → Q (.ref p) H'
theorem questB_len (B : Shp) : (questB B).length = 3 * B.cs.length + B.ks.length + 1 := by
  unfold questB
  rw [List.length_append, List.length_append, flat_len _ 3 (fun c => by rw [withN, List.length_map]; rfl), List.length_map]
  rfl
theorem ok_quest {C : Addr} {f : Addr} {fd : FuncData} (F : Fun K "questions" "Book.questions" s_Book_questions f fd) (T : Bt mg) (TB : BkT K C) : FnOk P w K mg base CX0 1 f fd ["self"] (spQuest C) := by
  refine F.ok sc_Book_questions (fun vs H Q E h => ?_) (fun cdv A outer s H vs Q E hr h => ?_)
  · obtain ⟨o, B, ck, rfl, _⟩ := h
    rfl
  · obtain ⟨o, B, ck, rfl, ⟨dx, k, c, m, x, kx, cx, h1, h2, h3, h4, h5, h6, h7⟩, hB, q⟩ := h
    have hu := hu_of hr
    refine ⟨_, (pss_cons (ps_set (i := 1) sc_Book_questions.nd rfl (Or.inl rfl) (pe_lst pa_nil))
      (pss_cons (ps_for PassesOwn.never rfl (pi_tup (pe_fld (pv 0) rfl)) (pg_tup rfl (pgs_cons (pg_name (i := 2) sc_Book_questions.nd rfl (Or.inr rfl)) (pgs_cons (pg_name (i := 3) sc_Book_questions.nd rfl (Or.inl rfl)) (pgs_cons (pg_name (i := 4) sc_Book_questions.nd rfl (Or.inl rfl)) (pgs_cons (pg_name (i := 5) sc_Book_questions.nd rfl (Or.inl rfl)) pgs_nil))))) (pss_cons (ps_set (i := 6) sc_Book_questions.nd rfl (Or.inl rfl) (pe_ifExp (pt_cmpR op_eq (pv 5) pe_str (nomark _)) pe_str pe_str))
      (pss_one (ps_expr (pe_bm PySem.F.plainAttrs_list PySem.F.slot_list_extend PySem.F.type_list_extend mt_extend (pv 1) (pa_cons (pe_lc (own := [("word", 8)]) (g := gName 8) (by rfl) sc_Book_questions.nd (pi_tup (pe_tup (pa_cons pe_str (pa_cons pe_str (pa_cons (pv 6) pa_nil))))) (blkOk_by (own := [("word", 8)]) (N := N_Book_questions) (sc := defScope s_Book_questions) (by decide +kernel)) (fun _ _ _ _ _ => (pg_name (i := 8) sc_Book_questions.nd rfl (Or.inl rfl) (Or.inr rfl))) (fun _ _ _ _ _ => pts_nil) (fun _ _ _ _ _ => (pe_op op_add_str (pe_op op_add_str (pv 8) pe_str) (pv 2)))) pa_nil))))))
      (pss_cons (ps_expr (pe_bm PySem.F.plainAttrs_list PySem.F.slot_list_extend PySem.F.type_list_extend mt_extend (pv 1) (pa_cons (pe_lc (own := [("name", 2), ("is_open", 7)]) (g := gTup K 2 (gCons (gName 2) (gCons (gName 7) gNil))) (by rfl) sc_Book_questions.nd (pi_tup (pe_fld (pv 0) rfl)) (blkOk_by (own := [("name", 2), ("is_open", 7)]) (N := N_Book_questions) (sc := defScope s_Book_questions) (by decide +kernel)) (fun _ _ _ _ _ => (pg_tup rfl (pgs_cons (pg_name (i := 2) sc_Book_questions.nd rfl (Or.inl rfl) (Or.inr rfl)) (pgs_cons (pg_name (i := 7) sc_Book_questions.nd rfl (Or.inl rfl) (Or.inr rfl)) pgs_nil)))) (fun _ _ _ _ _ => pts_nil) (fun _ _ _ _ _ => (pe_op op_add_str pe_str (pv 2)))) pa_nil)))
      (pss_cons (ps_expr (pe_bm PySem.F.plainAttrs_list PySem.F.slot_list_append PySem.F.type_list_append mt_append (pv 1) (pa_cons pe_str pa_nil)))
      (pss_one (ps_ret (pv 1))))))), ?_⟩
    rw [ksU_rows] at h3
    rw [csU_rows] at h5
    have lk : B.ks.length = kx.length := by rw [h3.len, List.length_map]
    have lc : B.cs.length = cx.length := by rw [h5.len, List.length_map]
    have bk3 := hB.nk3
    have bc8 := hB.nc
    refine ⟨Nat.zero_le _, fun p hp => ?_⟩
    have s0 : Same H (upd H p (.lst [])) := same_new hp
    walk_at "ls"
    refine ⟨o, C, dx, _, _, rfl, s0 _ _ h1, TB.cl, TB.nc, bookF_c, c, rfl, ⟨_, .inl (.inl (s0 _ _ h4))⟩, ?_⟩
    refine for_it (walk_tup (xs := cx)) (fun i σ H1 => ∃ v2 v3 v4 v5 v6 : Option V, σ = [some (.ref o), some (.ref p), v2, v3, v4, v5, v6, none, none] ∧ H1 p = some (.lst (((B.cs.take i).flatMap fun c => withN (qW c.2.2.2) c.1).map V.str)) ∧ Same H H1)
      ⟨none, none, none, none, none, rfl, upd_same, s0⟩ (fun i σ H1 _ ⟨_, _, _, _, _, _, _, s1⟩ => .inl (.inl (s1 _ _ h4))) ?_ ?_
    · rintro i y σ Hz H1 hi ⟨v2, v3, v4, v5, v6, rfl, hp1, s1⟩ ⟨rfl, hy⟩
      obtain ⟨ys, hys, t, rfl, ht⟩ := TupsAt.get (h5.keep (.same s1)) hy
      obtain ⟨cl, hcl, rfl⟩ := map_get hys
      have hnm : cl.1.length ≤ 8 := (hB.nm _ (List.mem_append_right _ (List.mem_map_of_mem (List.mem_of_getElem? hcl)))).1.2.1
      refine ⟨t, _, rfl, .inl (.inl ht), rfl, _, _, rfl, _, _, rfl, _, _, rfl, _, _, rfl, rfl, ?_⟩
      refine tIf_to (.str (if cl.2.2.2 then "unjust" else "spoilt")) (fun Q' q' => ?_) ?_
      · refine ⟨_, rfl, ?_⟩
        cases hb : cl.2.2.2 with
        | true =>
          rw [hb] at q'
          refine ⟨rfl, _, rfl, ?_⟩
          refine ite2 (fun e => ?_) (fun e => absurd (by decide +kernel) e)
          exact q'
        | false =>
          rw [hb] at q'
          refine ⟨rfl, _, rfl, ?_⟩
          refine ite2 (fun e => absurd e (by decide +kernel)) (fun e => ?_)
          exact q'
      walk_at "ls"
      refine ⟨(by show 3 ≤ sizeLine; decide), fun w1 hw1 => ?_⟩
      refine ⟨w1, rfl, ⟨_, .inl (.inl upd_same)⟩, fun D hD => ?_⟩
      have nwD : w1 ≠ D := ne_of_none upd_same hD
      have npw : p ≠ w1 := ne_of_none hp1 hw1
      have npD : p ≠ D := ne_of_none (by rw [upd_ne npw]; exact hp1) hD
      refine lc_pure (walk_tup (xs := (qW cl.2.2.2).map V.str)) ((qW cl.2.2.2).map V.str) (addN cl.1) rfl (fun i H x H' hi hy => hy) (by show 3 < sizeLine; decide) (fun acc => .inl (.inl (by rw [upd_ne nwD]; exact upd_same))) (fun k y hk hy => ?_) ?_
      · obtain ⟨a, ha, rfl⟩ := map_get hy
        have hal : a.length ≤ 6 := qW_len _ a (List.mem_of_getElem? ha)
        refine ⟨rfl, ?_⟩
        walk_at "ls"
        refine ⟨room_str (m := 1) hal (by decide +kernel) (by decide), ?_⟩
        walk_at "ls"
        refine ⟨room_str (n := 7) (m := 8) (by rw [cat_len]; have : (" " : Str).length = 1 := by decide +kernel
                                               omega) hnm (by decide), ?_⟩
        exact lc_yes hy hk (by show 3 < sizeLine; decide) rfl
      rw [addN_all]
      refine ⟨_, _, _, _, rfl, rfl, (by rw [upd_ne npD, upd_ne npw]; exact hp1), upd_same, ?_, ?_⟩
      · rw [List.length_map, List.length_map, flat_len _ 3 (fun c => by rw [withN, List.length_map]; rfl), withN, List.length_map, List.length_take]
        show 3 * _ + 3 ≤ sizeLine
        exact Nat.le_trans (by omega) (show 1000 ≤ sizeLine by decide)
      · refine ⟨_, _, _, _, _, rfl, ?_, ?_⟩
        · rw [upd_same, flat_snoc hcl, List.map_append]
        · exact Same.set (s1.trans ((same_new hw1).trans (same_new hD))) hp
    · rintro σ H1 ⟨v2, v3, v4, v5, v6, rfl, hp1, s1⟩
      rw [← lc, List.take_length] at hp1
      walk_at "ls"
      refine ⟨o, C, dx, _, _, rfl, s1 _ _ h1, TB.cl, TB.nk, bookF_k, k, rfl, ⟨_, .inl (.inl (s1 _ _ h2))⟩, fun D hD => ?_⟩
      have nkD : k ≠ D := ne_of_none (s1 _ _ h2) hD
      have npD : p ≠ D := ne_of_none hp1 hD
      refine lc_rows (walk_tup (xs := kx)) kx B.ks (fun k => some (V.str ("undue " ++ k.1))) lk (fun i H x H' hi hy => hy) (Nat.lt_of_le_of_lt (show kx.length ≤ 1000 by omega) (by decide)) (fun acc => .inl (.inl (by rw [upd_ne nkD]; exact s1 _ _ h2))) (fun j y kd hj hyj hkd => ?_) ?_
      · obtain ⟨ys, hys, t, rfl, ht⟩ := TupsAt.get (h3.keep (.same s1)) hyj
        rw [List.getElem?_map, hkd] at hys
        cases hys
        have hnm : kd.1.length ≤ 8 := (hB.nm _ (List.mem_append_left _ (List.mem_map_of_mem (List.mem_of_getElem? hkd)))).1.2.1
        have n2 : t ≠ D := ne_of_none ht hD
        refine ⟨t, _, rfl, .inl (.inl (by rw [upd_ne n2]; exact ht)), rfl, _, _, rfl, _, _, rfl, rfl, rfl, ?_⟩
        walk_at "ls"
        refine ⟨room_str (n := 6) (m := 8) (by decide +kernel) hnm (by decide), ?_⟩
        exact lr_yes hkd hj (Nat.lt_of_le_of_lt (show kx.length ≤ 1000 by omega) (by decide)) rfl
      rw [filterMap_some, show (B.ks.map fun k => V.str ("undue " ++ k.1)) = (B.ks.map fun k => ("undue " : Str) ++ k.1).map V.str by rw [List.map_map]; rfl]
      refine ⟨_, _, _, _, rfl, rfl, (by rw [upd_ne npD]; exact hp1), upd_same, ?_, ?_⟩
      · rw [List.length_map, List.length_map, List.length_map, flat_len _ 3 (fun c => by rw [withN, List.length_map]; rfl)]
        exact Nat.le_trans (by omega) (show 1000 ≤ sizeLine by decide)
      · rw [← List.map_append]
        walk_at "ls"
        refine ⟨_, _, _, rfl, rfl, upd_same, ?_, ?_⟩
        · rw [List.length_map, List.length_append, List.length_map, flat_len _ 3 (fun c => by rw [withN, List.length_map]; rfl)]
          exact Nat.lt_of_le_of_lt (by omega) (show 1000 < sizeLine by decide)
        · rw [upd_upd]
          walk_at "ls"
          refine q _ p hp ?_ (Same.set (s1.trans (same_new hD)) hp)
          rw [upd_same]
          unfold questB
          rw [List.map_append (l₂ := (["stuck"] : List Str))]
          rfl
end
end Ls
namespace Ls
open PySem PySem.Spec PyProof.Rows L2
/-! ### len(set(xs)), xs a list of texts -/
/-- the texts that have been met so far, each once -/
def metS (xs : List Str) : Nat → List Str
  | 0 => []
  | i + 1 => if (metS xs i).any (· == xs.getD i Str.empty) = true then metS xs i else metS xs i ++ [xs.getD i Str.empty]
theorem metS_le (xs : List Str) : ∀ i, (metS xs i).length ≤ i
  | 0 => Nat.le_refl _
  | i + 1 => by
    have := metS_le xs i
    show (if (metS xs i).any (· == xs.getD i Str.empty) = true then metS xs i else metS xs i ++ [xs.getD i Str.empty]).length ≤ i + 1
    split
    · omega
    · rw [List.length_append]
      show _ + 1 ≤ _
      omega
theorem metS_mem (xs : List Str) (z : Str) : ∀ i, i ≤ xs.length → (z ∈ metS xs i ↔ z ∈ xs.take i)
  | 0, _ => by simp [metS]
  | i + 1, hi => by
    have ih := metS_mem xs z i (by omega)
    have hd : xs.getD i Str.empty = xs[i] := by rw [List.getD_eq_getElem?_getD, List.getElem?_eq_getElem hi]; rfl
    have tk : xs.take (i + 1) = xs.take i ++ [xs[i]] := by rw [List.take_add_one, List.getElem?_eq_getElem hi]; rfl
    rw [tk, List.mem_append, List.mem_singleton, ← ih]
    show z ∈ (if (metS xs i).any (· == xs.getD i Str.empty) = true then metS xs i else metS xs i ++ [xs.getD i Str.empty]) ↔ _
    rw [hd]
    split
    · rename_i h
      refine ⟨.inl, fun h2 => h2.elim id fun e => ?_⟩
      obtain ⟨y, hy, ey⟩ := List.any_eq_true.mp h
      rw [e, ← eq_of_beq ey]
      exact hy
    · rw [List.mem_append, List.mem_singleton]
theorem metS_nd (xs : List Str) : ∀ i, i ≤ xs.length → ((metS xs i).length = i ↔ (xs.take i).Nodup)
  | 0, _ => by simp [metS]
  | i + 1, hi => by
    have ih := metS_nd xs i (by omega)
    have le := metS_le xs i
    have hd : xs.getD i Str.empty = xs[i] := by rw [List.getD_eq_getElem?_getD, List.getElem?_eq_getElem hi]; rfl
    have tk : xs.take (i + 1) = xs.take i ++ [xs[i]] := by rw [List.take_add_one, List.getElem?_eq_getElem hi]; rfl
    rw [tk]
    show (if (metS xs i).any (· == xs.getD i Str.empty) = true then metS xs i else metS xs i ++ [xs.getD i Str.empty]).length = i + 1 ↔ _
    rw [hd]
    split
    · rename_i h
      refine ⟨fun e => by omega, fun nd => ?_⟩
      obtain ⟨y, hy, ey⟩ := List.any_eq_true.mp h
      rw [eq_of_beq ey] at hy
      have := (metS_mem xs _ i (by omega)).mp hy
      rw [List.nodup_append] at nd
      exact absurd rfl (nd.2.2 _ this _ (.head _))
    · rename_i h
      rw [List.length_append]
      show _ + 1 = _ ↔ _
      refine ⟨fun e => ?_, fun nd => ?_⟩
      · have h1 := ih.mp (by omega)
        rw [List.nodup_append]
        refine ⟨h1, by simp, fun a ha b hb e2 => ?_⟩
        rw [List.mem_singleton.mp hb] at e2
        rw [e2] at ha
        exact h (List.any_eq_true.mpr ⟨_, (metS_mem xs _ i (by omega)).mpr ha, by simp⟩)
      · rw [List.nodup_append] at nd
        have := ih.mpr nd.1
        omega
/-- how many unlike texts there are -/
def manyS (xs : List Str) : Nat := (metS xs xs.length).length
theorem manyS_lt (xs : List Str) : decide (manyS xs < xs.length) = !decide xs.Nodup := by
  have h1 := metS_nd xs xs.length (Nat.le_refl _)
  have h2 := metS_le xs xs.length
  rw [List.take_length] at h1
  unfold manyS
  by_cases h : xs.Nodup
  · rw [decide_eq_true h, decide_eq_false (by have := h1.mpr h; omega)]
    rfl
  · rw [decide_eq_false h, decide_eq_true (by
      have : ¬ (metS xs xs.length).length = xs.length := fun e => h (h1.mp e)
      omega)]
    rfl
section
variable {prog : Program} {w : World} {A : Around} {R : Result → Shared → Prop} {Ia : Addr} {fp wr : List Addr} {G : Array GenState → Array GenState → Prop} {n : Nat} {Pv : Nat → Value → Prop} {St : Nat → Shared → Prop}
abbrev SoS (prog : Program) (w : World) (h : Heap) (Sa : Addr) (xs : List Str) (i : Nat) : Prop := h.SetOf (PySem.strKind prog w) Sa (fun z => (metS xs i).any (· == z)) (metS xs i).length
theorem so_move {h h' : Heap} {Sa : Addr} {xs : List Str} {i : Nat} (q : SoS prog w h Sa xs i) (k : ∀ o, h.get? Sa = some o → h'.get? Sa = some o) : SoS prog w h' Sa xs i := by
  obtain ⟨o, e1, e2, e3, e4, r⟩ := q
  exact ⟨o, e1, e2, e3, k o e4, r⟩
theorem loopS (W : WalksS prog w A.in1 Ia fp wr G n Pv St) (Sa : Addr) (nfp : Sa ∉ fp) (xs : List Str) (hn : n + 1 < scanBound) (hv : ∀ i v, Pv i v → ∃ t, v = .str (xs.getD i Str.empty) t) :
    ∀ (m i : Nat) (s : Shared), n - i = m → i ≤ n → St i s → SoS prog w s.heap Sa xs i → (∀ s', Moved (Sa :: wr) G s s' → SoS prog w s'.heap Sa xs n → R (.ok (.ret .none)) s') →
      codeAny (model prog w) A (.builtin "set.update.loop" ⟨[.ref Sa, .ref Ia], []⟩) R s := by
  have nwr : Sa ∉ wr := fun z => nfp (W.sub _ z)
  have more : ∀ b ∈ wr, b ∈ Sa :: wr := fun b z => .tail _ z
  intro m
  induction m with
  | zero =>
    intro i s em hi st so fin
    obtain rfl : i = n := by omega
    refine codeAny_builtin PyProof.Rows.F.entry_set_update_loop ?_
    rw [Around.under_plainId PyProof.Rows.F.plain_set_update_loop _]
    refine wpAny_bind (W.done s _ _ st fun s2 mv => ?_)
    exact wpAny_pure (fin s2 (mv.mono more) (so_move so fun o e => mv.heap Sa o nwr e))
  | succ m ih =>
    intro i s em hi st so fin
    have lt : i < n := by omega
    refine codeAny_builtin PyProof.Rows.F.entry_set_update_loop ?_
    rw [Around.under_plainId PyProof.Rows.F.plain_set_update_loop _]
    refine wpAny_bind (W.item i s _ _ lt st fun v s2 hp st2 mv => ?_)
    obtain ⟨t, rfl⟩ := hv i v hp
    have so2 : SoS prog w s2.heap Sa xs i := so_move so fun o e => mv.heap Sa o nwr e
    refine wpAny_bind (wpAny_holding ?_)
    unfold setAdd
    refine wpAny_holding (wpAny_bind ((PySem.strKind prog w).pyHash (k := xs.getD i Str.empty) (strKind_is _ _ _ _) ?_))
    have few : (metS xs i).length + 1 < scanBound := Nat.lt_of_le_of_lt (Nat.add_le_add_right (metS_le xs i) 1) (by omega)
    refine wpAny_setAddHashed_of (knd := PySem.strKind prog w) (s := { s2 with toks := s2.toks + 1 }) (strKind_is _ _ _ _) rfl so2 few fun h3 sb so3 => ?_
    have so4 : SoS prog w h3 Sa xs (i + 1) := by
      refine PyProof.Rows.SetOf_congr so3 (fun z => ?_) ?_
      · show ((metS xs i).any (· == z) || decide (z = xs.getD i Str.empty)) = (if (metS xs i).any (· == xs.getD i Str.empty) = true then metS xs i else metS xs i ++ [xs.getD i Str.empty]).any (· == z)
        split
        · rename_i hm
          by_cases ez : z = xs.getD i Str.empty
          · rw [ez, hm]
            rfl
          · rw [decide_eq_false ez, Bool.or_false]
        · rw [List.any_append]
          congr 1
          by_cases ez : z = xs.getD i Str.empty
          · subst ez
            simp
          · have nb : (xs.getD i Str.empty == z) = false := by
              refine Bool.eq_false_iff.mpr fun hb => ez (eq_of_beq hb).symm
            rw [decide_eq_false ez]
            show false = ((xs.getD i Str.empty == z) || false)
            rw [nb]
            rfl
      · show _ = (if (metS xs i).any (· == xs.getD i Str.empty) = true then metS xs i else metS xs i ++ [xs.getD i Str.empty]).length
        split
        · rfl
        · rw [List.length_append]
          rfl
    refine wpAny_pure ⟨plainId_quiet PyProof.Rows.F.plain_set_update_loop _, ih (i + 1) _ (by omega) lt (W.frame _ s2 _ _ st2 (Nat.le_succ _) fun b hb o e => ?_) so4 fun s5 mv5 so5 => ?_⟩
    · exact (sb.2 b fun z => nfp (z ▸ hb)).trans e
    · exact fin s5 (Moved.trans W.gtrans ((mv.mono more).then_heap (Nat.le_succ _) fun b o hb e => (sb.2 b fun z => hb (z ▸ .head _)).trans e) mv5) so5
end
section
variable {prog : Program} {w : World} {A : Around} {E : Value → Shared → Prop} {s : Shared}
abbrev newSet (led : Bool) : Obj := { cls := .type "set", dict := none, data := .set #[] 0 (.fresh 0 0 led) }
set_option maxHeartbeats 3200000 in
/-- set(l), l a list of texts -/
theorem set_ofList {la : Addr} {vals : Array Value} {xs : List Str} {Q : Value → Shared → Prop} (hn : A.handled = none) (il : s.heap.IsList la vals) (tx : PyProof.Rows.StrsAre vals.toList xs) (few : xs.length + 1 < scanBound)
    (fin : ∀ (h' : Heap) (tk : Nat), SoS prog w h' s.heap.objs.size xs xs.length → (∀ b o, b < s.heap.objs.size → s.heap.get? b = some o → h'.get? b = some o) → Q (.ref s.heap.objs.size) { s with heap := h', toks := tk }) :
    wpAny (model prog w) A (call (.type "set") [.ref la]) Q E s := by
  obtain ⟨c, tl, mro⟩ := PySem.F.called_set.mro
  have made := PySem.F.called_set.made
  have sub := PySem.F.called_set.sub
  refine wpAny_call (codeAny_of_tree ?_)
  show wpAny _ _ (callAny (.type "set") _) _ _ _
  refine wpAny_pure ⟨Code.quiet_builtin _ (by decide +kernel), codeAny_builtin PySem.F.entry_type_call ?_⟩
  rw [Around.under_plain (weight_type_call_type "set" [.ref la] []) rfl]
  have nt := PySem.F.called_set.notType
  have cc := PySem.F.called_set.canCreate
  have tc := PySem.F.typeCall_set_1 (.ref la)
  repeat (any_goals (first | assumption | wp_step))
  refine codeAny_mono (code_set_new_1 (.ref la) (E := E) (Q₁ := fun ob s1 => ∃ led : Bool, ob = .ref s.heap.objs.size ∧ s1 = { s with heap := s.heap.push (newSet led) }) fun led => ⟨led, rfl, rfl⟩) fun r s1 hr => ?_
  cases r with
  | error e => exact hr
  | ok fl =>
    cases fl with
    | ret ob =>
      obtain ⟨led, rfl, rfl⟩ := hr
      have gs : (s.heap.push (newSet led)).get? s.heap.objs.size = some (newSet led) := Heap.get?_push_size _ rfl
      have ty : Shared.TypeIs { s with heap := s.heap.push (newSet led) } (.ref s.heap.objs.size) "set" := ⟨_, gs, rfl⟩
      have lk := PySem.F.called_set.init.lookup
      have bi := PySem.F.called_set.init.bind (.ref s.heap.objs.size)
      repeat (any_goals (first | assumption | wp_step))
      refine codeAny_mono (codeAny_call_builtin (R := wants (fun r s2 => r = .none ∧ ∃ h' tk, s2 = { s with heap := h', toks := tk } ∧ SoS prog w h' s.heap.objs.size xs xs.length ∧ (∀ b o, b < s.heap.objs.size → s.heap.get? b = some o → h'.get? b = some o)) E) PySem.F.called_set.init.plain PySem.F.entry_set_init (check_set_init_1 ty ?_)) fun r2 s2 hr2 => ?_
      · obtain ⟨ol, gl, cl, nl, dl⟩ := il
        obtain ⟨oc, od, ot, osl⟩ := ol
        simp only at cl dl
        subst cl
        subst dl
        have gl2 : (s.heap.push (newSet led)).get? la = some { cls := .type "list", dict := od, data := .seq vals nl, slots := osl } := Heap.get?_push_of_some _ gl
        have q1 := PySem.F.sub_list_set
        have q2 := PySem.F.sub_list_frozenset
        have q3 : (Value.type "list" == Value.type "dict") = false := by decide
        have il2 : (s.heap.push (newSet led)).IsList la vals := ⟨_, gl2, rfl, nl, rfl⟩
        unfold Builtin.«set.__init__» noKeywords Builtin.Frozenset.updateFrom
        generalize hPI : pyIter = PI
        wp_walk
        subst hPI
        refine wpAny_pyIter_list il2 (wpAny_bind (wpAny_runValue ?_))
        have ltS : la < s.heap.objs.size := Heap.lt_size gl
        have hn3 : A.in1.in1.in1.handled = none := by simp [hn]
        have neI : la ≠ (s.heap.push (newSet led)).objs.size := by
          rw [Heap.size_push]
          exact Nat.ne_of_lt (Nat.lt_succ_of_lt ltS)
        have nfp : s.heap.objs.size ∉ [(s.heap.push (newSet led)).objs.size, la] := by
          rw [Heap.size_push]
          intro hm
          rcases List.mem_cons.mp hm with z | z
          · exact absurd z (Nat.ne_of_lt (Nat.lt_succ_self _))
          · exact absurd (List.mem_singleton.mp z) (Nat.ne_of_gt ltS)
        have len : xs.length = vals.size := by rw [← StrsAre.len_eq tx, Array.length_toList]
        have each : ∀ (i : Nat) (v : Value), vals[i]? = some v → ∃ t, v = .str (xs.getD i Str.empty) t := fun i v hv => SS.strs_at tx i v (by rw [Array.getElem?_toList]; exact hv)
        refine loopS ((Walks.list hn3 _ la neI vals).toS) s.heap.objs.size nfp xs (by rw [← len]; exact few) each (vals.size - 0) 0 _ (by omega) (Nat.zero_le _) ⟨⟨_, Heap.get?_push_size _ rfl, rfl, rfl⟩, (il2.push _)⟩ ?start ?last
        case start =>
          have g2 : ((s.heap.push (newSet led)).push { cls := .type "list_iterator", data := .fields #[.ref la, .int 0 0] }).get? s.heap.objs.size = some (newSet led) := Heap.get?_push_of_some _ gs
          exact PyProof.Rows.SetOf_congr ((PyProof.Rows.setObjOf_fresh (knd := PySem.strKind prog w) led).setOf g2 (by unfold scanBound; omega)) (fun _ => rfl) rfl
        case last =>
          intro s9 mv so
          obtain ⟨h9, g9, d9, t9, o9⟩ := s9
          have e1 : g9 = s.gens := mv.gens
          have e2 : d9 = s.drawn := mv.drawn
          have e3 : o9 = s.os := mv.os
          subst e1 e2 e3
          show wpAny _ _ _ _ _ _
          refine wpAny_pure ?_
          show wpAny _ _ (ret Value.none) _ _ _
          refine wpAny_pure ⟨rfl, h9, t9, rfl, by rw [len]; exact so, fun b o hb e => ?_⟩
          refine mv.heap b o (fun hm => ?_) (Heap.get?_push_of_some _ (Heap.get?_push_of_some _ e))
          rcases List.mem_cons.mp hm with z | z
          · exact absurd z (Nat.ne_of_lt hb)
          · have z2 := List.mem_singleton.mp z
            rw [Heap.size_push] at z2
            exact absurd z2 (Nat.ne_of_lt (Nat.lt_succ_of_lt hb))
      · cases r2 with
        | error e => exact hr2
        | ok fl2 =>
          cases fl2 with
          | ret r =>
            obtain ⟨rfl, h', tk, rfl, so, kp⟩ := hr2
            repeat (any_goals (first | assumption | wp_step))
            exact fin _ _ so kp
          | _ => exact hr2.elim
    | _ => exact hr.elim
end
/-- len(set(xs)) -/
def tLenSetS (K : PySem.W.Frag) (ta : TE) : TE := fun σ H Q => ta σ H fun x H1 => ∃ (l : Addr) (xs : List Str), x = V.ref l ∧ SqL K H1 l (xs.map V.str) ∧ xs.length ≤ 50 ∧ Q (.int (manyS xs : Nat)) H1
theorem pe_lenSetS {X : Cx} {a : Expr} {ta : TE} {p p2 q pos : Pos} (hc : X.calm = true) (hg : Gl X "len") (hm : X.mg "len" = none) (hg2 : Gl X "set") (hm2 : X.mg "set" = none) (ha : PE X a ta)
    (na : starEach [a] X.env = (false, eval a X.env) :: starEach [] X.env := by rfl) : PE X (.Call (.Name "len" p) [.Call (.Name "set" p2) [a] [] q] [] pos) (tLenSetS X.K ta) := by
  refine ⟨fun pins s σ H Q I h => ?_⟩
  refine Call_ (ld_blt I hg hm PySem.boot_len ?_)
  refine PyProof.Rows.callWith_builtin1 (PyProof.Rows.args_cons ?_ rfl) rfl rfl
  refine Call_ (ld_blt I hg2 hm2 PyProof.Rows.boot_set ?_)
  refine PyProof.Rows.callWith_type1 (PyProof.Rows.args_cons (thn (ha.run pins s σ H _ I h) fun v s1 ⟨x, H1, J, r1, q1⟩ => PyProof.Rows.args_nil ?_) na) na rfl
  obtain ⟨l, xs, rfl, hq, h1, q1⟩ := q1
  cases r1
  obtain ⟨its, r, pl, hz⟩ := J.list hq
  refine set_ofList (J.ok.hd hc) pl.isList (xs := xs) (by simpa using r.strs) (by unfold scanBound; omega) fun h' tk so hk => PyProof.Rows.args_nil ?_
  obtain ⟨o, es, ep, t, ho, hex, hd, _, _, _, hf, hn⟩ := so
  have le := metS_le xs xs.length
  refine call_len_set ho hex hd hf (by rw [hn]; omega) ⟨.int (manyS xs : Nat), H1, (J.kept fun b o e => hk b o (Heap.lt_size e) e).tok _, ⟨_, by rw [hn]; rfl⟩, q1⟩
end Ls
namespace Ls
open PySem PySem.Spec PyProof.Rows L2
/-! ### a dict that is made of pairs with other keys -/
theorem merge_new : ∀ (more acc : List (Key × V)), (more.map (·.1)).Nodup → (∀ p ∈ more, valV acc p.1 = none) → mergeK acc more = acc ++ more
  | [], acc, _, _ => by rw [List.append_nil]; rfl
  | p :: r, acc, h, n => by
    obtain ⟨h1, h2⟩ := List.nodup_cons.mp h
    have e : mergeK acc (p :: r) = mergeK (putK acc p.1 p.2) r := rfl
    have np := n p (.head _)
    rw [e, putK_new _ np, merge_new r _ h2 (fun q hq => ?_), List.append_assoc]
    · rfl
    · rw [valV_snoc _ _ _ _ np, if_neg (fun e2 : q.1 = p.1 => h1 (by have z := List.mem_map_of_mem (f := fun p : Key × V => p.1) hq; rw [e2] at z; exact z))]
      exact n q (.tail _ hq)
theorem merge_nd {l : List (Key × V)} (h : (l.map (·.1)).Nodup) : mergeK [] l = l := merge_new l [] h fun _ _ => rfl
/-- dict(pairs) inside a comprehension -/
theorem dict_of {X : Cx} (K : PySem.W.Frag) (h : X.K = K := by rfl) (hc : X.calm = true := by rfl) : CallR X (.type "dict") (fun xs H Q => ∃ (a : Addr) (ps : List Addr) (kvs : List (Key × V)), xs = [.ref a] ∧ SqL K H a (ps.map V.ref) ∧ Paired (fun p kv => SqT K H p [kV kv.1, kv.2]) ps kvs ∧ ∀ p, H p = none → Q (.ref p) (upd H p (.dK (mergeK [] kvs)))) := by
  subst h
  exact call_dictP hc
/-! ### an instance that gets its fields: what has been laid down beside it -/
structure Fld (o C dx : Addr) (H0 : Hp) (fs : List (Str × V)) (L : List (Addr × HO)) (H : Hp) : Prop where
  ins : H o = some (.ins C dx fs)
  but : ∀ b u, b ≠ o → H0 b = some u → H b = some u
  at_ : ∀ p ∈ L, H p.1 = some p.2
  nin : ∀ p ∈ L, ∀ C dx fs, p.2 ≠ .ins C dx fs
section
variable {o C dx : Addr} {H0 H H' : Hp} {fs : List (Str × V)} {L : List (Addr × HO)}
theorem Fld.start (h : H0 o = some (.ins C dx fs)) : Fld o C dx H0 fs [] H0 := ⟨h, (fun _ _ _ e => e), (fun _ m => nomatch m), (fun _ m => nomatch m)⟩
theorem Fld.same (f : Fld o C dx H0 fs L H) (s : Same H H') : Fld o C dx H0 fs L H' := ⟨s _ _ f.ins, fun b u n e => s _ _ (f.but b u n e), fun p m => s _ _ (f.at_ p m), f.nin⟩
theorem Fld.add (f : Fld o C dx H0 fs L H) {a : Addr} {x : HO} (h : H a = some x) (n : ∀ C dx fs, x ≠ .ins C dx fs) : Fld o C dx H0 fs ((a, x) :: L) H :=
  ⟨f.ins, f.but, fun p m => (List.mem_cons.mp m).elim (fun e => by rw [e]; exact h) (f.at_ p), fun p m => (List.mem_cons.mp m).elim (fun e => by rw [e]; exact n) (f.nin p)⟩
theorem Fld.new (f : Fld o C dx H0 fs L H) {a : Addr} {x : HO} (h : H a = none) (n : ∀ C dx fs, x ≠ .ins C dx fs) : Fld o C dx H0 fs ((a, x) :: L) (upd H a x) := (f.same (same_new h)).add upd_same n
theorem Fld.set (f : Fld o C dx H0 fs L H) {fs2 : List (Str × V)} : Fld o C dx H0 fs2 L (upd H o (.ins C dx fs2)) := by
  have ne : ∀ {b : Addr} {u : HO}, (∀ C dx fs, u ≠ .ins C dx fs) → H b = some u → b ≠ o := fun {b u} n e e2 => by
    rw [e2, f.ins] at e
    cases e
    exact n _ _ _ rfl
  exact ⟨upd_same, fun b u n e => by rw [upd_ne n]; exact f.but b u n e, fun p m => by rw [upd_ne (ne (f.nin p m) (f.at_ p m))]; exact f.at_ p m, f.nin⟩
end
end Ls
namespace Ls
open PySem PySem.Spec PyProof.Rows L2
/-! ### short steps -/
local macro_rules | `(tactic| walk_at "ls_ne") => `(tactic| first | assumption | exact Ne.symm (by assumption) | exact ne_of_none (by assumption) (by assumption) | exact Ne.symm (ne_of_none (by assumption) (by assumption)))
local macro_rules | `(tactic| walk_at "ls_hp") => `(tactic| first
  | with_reducible assumption
  | exact upd_same
  | exact Eq.trans (upd_ne (by walk_at "ls_ne")) (by walk_at "ls_hp"))
local macro_rules | `(tactic| walk_at "ls_st") => `(tactic| first
  | with_reducible assumption
  | exact Stm.upd (by walk_at "ls_st") (by first | walk_at "ls_ne" | exact (Stm.noneS (by assumption) (by assumption)).1) (by first | walk_at "ls_ne" | exact (Stm.noneS (by assumption) (by assumption)).2))
local macro_rules | `(tactic| walk_at "ls1") => `(tactic| first
  | refine ⟨_, rfl, ?_⟩
  | refine ⟨_, _, rfl, rfl, ?_⟩
  | refine ⟨_, _, _, _, rfl, rfl, .inl (.inl (by walk_at "ls_hp")), rfl, ?_⟩
  | refine ⟨_, _, _, _, rfl, rfl, (by walk_at "ls_hp"), rfl, ?_⟩
  | refine ⟨rfl, _, rfl, ?_⟩
  | refine ⟨.inl ⟨rfl, _, .inl (.inl (by walk_at "ls_hp"))⟩, ?_⟩)
local macro_rules | `(tactic| walk_at "ls") => `(tactic| repeat (walk_at "ls1"))

/-! ### papers of ranks -/
structure Bt4 (mg : Str → Option Value) : Prop where
  m_bool : mg "bool" = none
  m_set : mg "set" = none
def PairAt (H : Hp) (v : V) (p : Str × V) : Prop := ∃ t, v = .ref t ∧ (H t = some (.tup [.str p.1, p.2]) ∨ H t = some (.lst [.str p.1, p.2]))
def PairsAt (H : Hp) (xs : List V) (ps : List (Str × V)) : Prop := Paired (PairAt H) xs ps
theorem PairAt.same {H H' : Hp} {v : V} {p : Str × V} (h : PairAt H v p) (s : Same H H') : PairAt H' v p := by
  obtain ⟨t, e, h | h⟩ := h
  · exact ⟨t, e, .inl (s _ _ h)⟩
  · exact ⟨t, e, .inr (s _ _ h)⟩
theorem PairsAt.same {H H' : Hp} : ∀ {xs : List V} {ps : List (Str × V)}, PairsAt H xs ps → Same H H' → PairsAt H' xs ps
  | _, _, .nil, _ => .nil
  | _, _, .cons r t, k => .cons (r.same k) (PairsAt.same t k)
theorem PairsAt.len {H : Hp} {xs : List V} {ps : List (Str × V)} (h : PairsAt H xs ps) : xs.length = ps.length := Paired.length h
theorem PairsAt.get {H : Hp} : ∀ {xs : List V} {ps : List (Str × V)} {i : Nat} {v : V}, PairsAt H xs ps → xs[i]? = some v → ∃ p, ps[i]? = some p ∧ PairAt H v p
  | _, _, 0, _, .cons a _, e => by cases e; exact ⟨_, rfl, a⟩
  | _, _, i + 1, _, .cons _ t, e => PairsAt.get (i := i) t e
theorem PairsAt.snoc {H : Hp} : ∀ {xs : List V} {ps : List (Str × V)} {v : V} {p : Str × V}, PairsAt H xs ps → PairAt H v p → PairsAt H (xs ++ [v]) (ps ++ [p])
  | _, _, _, _, .nil, r => .cons r .nil
  | _, _, _, _, .cons a t, r => .cons a (PairsAt.snoc t r)
/-- the numbers and odd things of a paper -/
def ValAt (H : Hp) (v : V) : Prop := (∃ n : Int, v = .int n ∧ -1 ≤ n ∧ n < 10 ^ 30) ∨ v = .bl true ∨ v = .non ∨ v = .str "1" ∨ ∃ t, v = .ref t ∧ H t = some (.tup [.int 1])
theorem ValAt.same {H H' : Hp} {v : V} (h : ValAt H v) (s : Same H H') : ValAt H' v := by
  rcases h with h | h | h | h | ⟨t, e, h⟩
  · exact .inl h
  · exact .inr (.inl h)
  · exact .inr (.inr (.inl h))
  · exact .inr (.inr (.inr (.inl h)))
  · exact .inr (.inr (.inr (.inr ⟨t, e, s _ _ h⟩)))
def isNumV : V → Bool
  | .int n => decide (0 ≤ n)
  | _ => false
def numOf : V → Int
  | .int n => n
  | _ => 0
def tabP (ps : List (Str × V)) : List (Key × V) := ps.map fun p => (Sum.inr p.1, p.2)
def numAt (ps : List (Str × V)) (z : Str) : Int := numOf ((valV (tabP ps) (Sum.inr z)).getD .non)
def gtTie (ps : List (Str × V)) (e : Ed) : Bool := decide (numAt ps e.1 > numAt ps e.2)
def knB (B : Shp) : List Str := B.ks.map (·.1)
def goodP (B : Shp) (ps : List (Str × V)) : Bool := decide (ps.map (·.1)).Nodup && ps.all fun p => decide (p.1 ∈ knB B) && isNumV p.2
def paperOk (B : Shp) (ck : List Str) (ps : List (Str × V)) : Bool := goodP B ps && ((tightL B ck).all (fun k => decide (k ∈ ps.map (·.1))) && (tightE B ck).all (gtTie ps))
theorem good_no {B : Shp} {ps : List (Str × V)} {p : Str × V} (h : p ∈ ps) (n : (decide (p.1 ∈ knB B) && isNumV p.2) = false) : goodP B ps = false := by
  unfold goodP
  rw [show (ps.all fun p => decide (p.1 ∈ knB B) && isNumV p.2) = false from List.all_eq_false.mpr ⟨p, h, by rw [n]; decide⟩, Bool.and_false]
theorem paper_no {B : Shp} {ck : List Str} {ps : List (Str × V)} (h : goodP B ps = false) : paperOk B ck ps = false := by
  unfold paperOk
  rw [h, Bool.false_and]
theorem good_dup {B : Shp} {ps : List (Str × V)} {i : Nat} {p : Str × V} (hp : ps[i]? = some p) (h : p.1 ∈ (ps.take i).map (·.1)) : goodP B ps = false := by
  unfold goodP
  rw [decide_eq_false, Bool.false_and]
  intro nd
  have tk : ps.take (i + 1) = ps.take i ++ [p] := by rw [List.take_add_one, hp]; rfl
  have nd2 : ((ps.take (i + 1)).map (·.1)).Nodup := nd.sublist ((List.take_sublist _ _).map _)
  rw [tk, List.map_append, List.nodup_append] at nd2
  exact absurd rfl (nd2.2.2 _ h _ (.head _))
theorem good_next {B : Shp} {ps : List (Str × V)} {i : Nat} {p : Str × V} (hp : ps[i]? = some p) (g : goodP B (ps.take i) = true) (h1 : p.1 ∈ knB B) (h2 : isNumV p.2 = true) (h3 : p.1 ∉ (ps.take i).map (·.1)) : goodP B (ps.take (i + 1)) = true := by
  have tk : ps.take (i + 1) = ps.take i ++ [p] := by rw [List.take_add_one, hp]; rfl
  unfold goodP at g ⊢
  obtain ⟨g1, g2⟩ := Bool.and_eq_true_iff.mp g
  rw [tk, List.map_append, List.all_append, g2]
  have nd : ((ps.take i).map (·.1) ++ [p].map (·.1)).Nodup := nodup_snoc (of_decide_eq_true g1) h3
  rw [decide_eq_true nd]
  simp [h1, h2]
theorem tabP_no {ps : List (Str × V)} {z : Str} : (valV (tabP ps) (Sum.inr z)).isSome = decide (z ∈ ps.map (·.1)) := by
  rw [← valV_any]
  unfold tabP
  rw [List.any_map]
  refine Bool.eq_iff_iff.mpr ⟨fun e => ?_, fun e => ?_⟩
  · obtain ⟨p, hp, e⟩ := List.any_eq_true.mp e
    have e2 : (Sum.inr p.1 : Key) = Sum.inr z := of_decide_eq_true e
    rw [← Sum.inr.inj e2]
    exact decide_eq_true (List.mem_map_of_mem (f := fun p : Str × V => p.1) hp)
  · obtain ⟨p, hp, rfl⟩ := List.mem_map.mp (of_decide_eq_true e)
    exact List.any_eq_true.mpr ⟨p, hp, decide_eq_true rfl⟩
theorem tabP_put {ps : List (Str × V)} {p : Str × V} (h : p.1 ∉ ps.map (·.1)) : putK (tabP ps) (Sum.inr p.1) p.2 = tabP (ps ++ [p]) := by
  have n : valV (tabP ps) (Sum.inr p.1) = none := by
    have := tabP_no (ps := ps) (z := p.1)
    rw [decide_eq_false h] at this
    exact Option.not_isSome_iff_eq_none.mp (by rw [this]; decide)
  rw [putK_new _ n]
  unfold tabP
  rw [List.map_append]
  rfl
theorem tabP_num {B : Shp} {ps : List (Str × V)} {z : Str} (g : goodP B ps = true) (h : z ∈ ps.map (·.1)) : ∃ n : Int, valV (tabP ps) (Sum.inr z) = some (.int n) := by
  unfold goodP at g
  have g2 := (Bool.and_eq_true_iff.mp g).2
  clear g
  induction ps with
  | nil => cases h
  | cons p ps ih =>
    rw [List.all_cons, Bool.and_eq_true] at g2
    by_cases e : p.1 = z
    · have iv := (Bool.and_eq_true_iff.mp g2.1).2
      show ∃ n : Int, valV ((Sum.inr p.1, p.2) :: tabP ps) (Sum.inr z) = _
      rw [valV_pos (by rw [e])]
      obtain ⟨a, v⟩ := p
      cases v <;> first | exact ⟨_, rfl⟩ | cases iv
    · show ∃ n : Int, valV ((Sum.inr p.1, p.2) :: tabP ps) (Sum.inr z) = _
      rw [valV_neg (fun h => e (Sum.inr.inj h))]
      exact ih (List.mem_of_ne_of_mem (fun h => e h.symm) h) g2.2
section
variable {P : Program} {w : World} {K : PySem.W.Frag} {mg : Str → Option Value} {base : Heap}
abbrev s_is_row : Stmt := topS 17
theorem sc_is_row : FnScope ["thing"] ["thing"] (defScope s_is_row) := ⟨rfl, rfl, rfl, by decide +kernel, rfl, by decide +kernel, by decide +kernel⟩
abbrev N_is_row : List Str := ["thing"]
def spRow : Sp := fun vs H Q _ => ∃ (t : Addr) (ys : List V), vs = [.ref t] ∧ (H t = some (.tup ys) ∨ H t = some (.lst ys)) ∧ ∀ H', Same H H' → Q (.bl true) H'
theorem ok_row {f : Addr} {fd : FuncData} (F : Fun K "is_row" "is_row" s_is_row f fd) (T : Bt mg) : FnOk P w K mg base CX0 1 f fd ["thing"] spRow := by
  refine F.ok sc_is_row (fun vs H Q E h => ?_) (fun cdv A outer s H vs Q E hr h => ?_)
  · obtain ⟨t, ys, rfl, _⟩ := h
    rfl
  · obtain ⟨t, ys, rfl, ht, q⟩ := h
    have hu := hu_of hr
    refine ⟨_, (pss_one (ps_ret (pe_callB call_isiT (by rfl) T.m_isinstance (by decide +kernel) (pa_cons (pv 0) (pa_cons (pe_tup (pa_cons (pe_bltn (v := V.ty "list") (by rfl) T.m_list boot_list rfl) (pa_cons (pe_bltn (v := V.ty "tuple") (by rfl) T.m_tuple boot_tuple rfl) pa_nil))) pa_nil))))), ?_⟩
    walk_at "ls"
    refine ⟨(by show 2 ≤ sizeLine; decide), fun tp htp => ?_⟩
    have s1 := same_new (o := .tup [.ty "list", .ty "tuple"]) htp
    rcases ht with ht | ht
    · exact ⟨_, tp, _, .type "tuple", [.type "list", .type "tuple"], true, rfl, upd_same, .cons (.ty _) (.cons (.ty _) .nil), .base (.tup (s1 _ _ ht)), by kernel_rfl, q _ s1⟩
    · exact ⟨_, tp, _, .type "list", [.type "list", .type "tuple"], true, rfl, upd_same, .cons (.ty _) (.cons (.ty _) .nil), .base (.lst (s1 _ _ ht)), by kernel_rfl, q _ s1⟩
abbrev s_is_number : Stmt := topS 15
theorem sc_is_number : FnScope ["thing"] ["thing"] (defScope s_is_number) := ⟨rfl, rfl, rfl, by decide +kernel, rfl, by decide +kernel, by decide +kernel⟩
abbrev N_is_number : List Str := ["thing"]
def spNum : Sp := fun vs H Q _ => ∃ v : V, vs = [v] ∧ ValAt H v ∧ Q (.bl (isNumV v)) H
theorem ok_num {f : Addr} {fd : FuncData} (F : Fun K "is_number" "is_number" s_is_number f fd) (T : Bt mg) (T4 : Bt4 mg) : FnOk P w K mg base CX0 1 f fd ["thing"] spNum := by
  refine F.ok sc_is_number (fun vs H Q E h => ?_) (fun cdv A outer s H vs Q E hr h => ?_)
  · obtain ⟨v, rfl, _⟩ := h
    rfl
  · obtain ⟨v, rfl, hv, q⟩ := h
    have hu := hu_of hr
    refine ⟨_, (pss_one (ps_ret (pe_and (pe_callB call_isi (by rfl) T.m_isinstance (by decide +kernel) (pa_cons (pv 0) (pa_cons (pe_bltn (v := V.ty "int") (by rfl) T.m_int boot_int rfl) pa_nil))) (pe_and (pe_not (pe_callB call_isi (by rfl) T.m_isinstance (by decide +kernel) (pa_cons (pv 0) (pa_cons (pe_bltn (v := V.ty "bool") (by rfl) T4.m_bool boot_bool rfl) pa_nil)))) (pe_one (pe_chain op_le op_lt pe_int (pv 0) (pe_op op_pow pe_int pe_int))))))), ?_⟩
    walk_at "ls"
    rcases hv with ⟨n, rfl, n0, n1⟩ | rfl | rfl | rfl | ⟨t, rfl, ht⟩
    · refine ⟨_, _, .type "int", .type "int", true, rfl, .ty _, .base (.int _), by kernel_rfl, _, rfl, iteT ?_⟩
      walk_at "ls"
      refine ⟨_, _, .type "int", .type "bool", false, rfl, .ty _, .base (.int _), by kernel_rfl, _, rfl, true, rfl, iteT ?_⟩
      walk_at "ls"
      refine ite2 (fun e => ?_) (fun e => ?_)
      · rw [show isNumV (.int n) = true from e] at q
        walk_at "ls"
        refine ⟨⟨by decide, by decide, by decide⟩, ?_⟩
        walk_at "ls"
        show Q (.bl (decide (n < 10 ^ (30 : Int).toNat))) H
        rw [show decide (n < 10 ^ (30 : Int).toNat) = true from decide_eq_true n1]
        exact q
      · rw [show isNumV (.int n) = false from eq_false_of_ne_true e] at q
        exact q
    · refine ⟨_, _, .type "bool", .type "int", true, rfl, .ty _, .base (.bl _), by kernel_rfl, _, rfl, iteT ?_⟩
      walk_at "ls"
      exact ⟨_, _, .type "bool", .type "bool", true, rfl, .ty _, .base (.bl _), by kernel_rfl, _, rfl, false, rfl, iteF q⟩
    · exact ⟨_, _, .type "NoneType", .type "int", false, rfl, .ty _, .base .non, by kernel_rfl, _, rfl, iteF q⟩
    · exact ⟨_, _, .type "str", .type "int", false, rfl, .ty _, .base (.str _), by kernel_rfl, _, rfl, iteF q⟩
    · exact ⟨_, _, .type "tuple", .type "int", false, rfl, .ty _, .base (.tup ht), by kernel_rfl, _, rfl, iteF q⟩
abbrev s__is_paper_of_ranks : Stmt := topS 53
theorem sc__is_paper_of_ranks : FnScope ["book", "paper", "kinds", "numbers", "pair", "name", "is_open", "home", "goal", "rule", "kind"] ["book", "paper"] (defScope s__is_paper_of_ranks) := ⟨rfl, rfl, rfl, by decide +kernel, rfl, by decide +kernel, by decide +kernel⟩
abbrev N__is_paper_of_ranks : List Str := ["book", "paper", "kinds", "numbers", "pair", "name", "is_open", "home", "goal", "rule", "kind"]
def PapAt (H : Hp) (pp : Addr) (ps : List (Str × V)) : Prop := ∃ xs : List V, (H pp = some (.tup xs) ∨ H pp = some (.lst xs)) ∧ PairsAt H xs ps
theorem PapAt.same {H H' : Hp} {pp : Addr} {ps : List (Str × V)} (h : PapAt H pp ps) (s : Same H H') : PapAt H' pp ps := by
  obtain ⟨xs, h, hp⟩ := h
  exact ⟨xs, h.elim (fun h => .inl (s _ _ h)) (fun h => .inr (s _ _ h)), hp.same s⟩
def spPapR (C : Addr) : Sp := fun vs H Q _ => ∃ (o pp : Addr) (B : Shp) (ck : List Str) (ps : List (Str × V)), vs = [.ref o, .ref pp] ∧ BookS C H o B ck ∧ B.Ok ∧ PapAt H pp ps ∧ ps.length ≤ 10 ∧ (∀ p ∈ ps, okB 100 p.1 = true ∧ ValAt H p.2) ∧ ∀ H', Same H H' → Q (.bl (paperOk B ck ps)) H'
theorem ok_papR {C : Addr} {f : Addr} {fd : FuncData} (F : Fun K "_is_paper_of_ranks" "_is_paper_of_ranks" s__is_paper_of_ranks f fd) (T : Bt mg) (O_is_row : Own P w K mg base CX0 1 "is_row" ["thing"] spRow) (O_is_number : Own P w K mg base CX0 1 "is_number" ["thing"] spNum)
    (O_is_word_of : Own P w K mg base CX0 1 "is_word_of" ["thing", "words"] (spWord K)) (O_Book_kinds : OwnM P w K mg base CX0 1 C "kinds" ["self"] (spKinds C)) (O_tight_kinds : Own P w K mg base CX0 3 "tight_kinds" ["book"] (spTightK C)) (O_tight_columns : Own P w K mg base CX0 4 "tight_columns" ["book"] (spTightC C)) : FnOk P w K mg base CX0 5 f fd ["book", "paper"] (spPapR C) := by
  refine F.ok sc__is_paper_of_ranks (fun vs H Q E h => ?_) (fun cdv A outer s H vs Q E hr h => ?_)
  · obtain ⟨o, pp, B, ck, ps, rfl, _⟩ := h
    rfl
  · obtain ⟨o, pp, B, ck, ps, rfl, hb, hB, ⟨xs, hpp, hps⟩, lps, hv, q⟩ := h
    have hu := hu_of hr
    refine ⟨_, (pss_cons (ps_setLc (i := 2) (own := [("name", 5), ("is_open", 6)]) (g := gTup K 2 (gCons (gName 5) (gCons (gName 6) gNil))) (by rfl) sc__is_paper_of_ranks.nd rfl rfl (sw_true rfl rfl rfl (by decide +kernel)) (pi_list (own_meth0 O_Book_kinds hr (by first | decide | omega) (pv 0))) (blkOk_by (own := [("name", 5), ("is_open", 6)]) (N := N__is_paper_of_ranks) (sc := defScope s__is_paper_of_ranks) (by decide +kernel)) (fun _ _ _ _ _ => (pg_tup rfl (pgs_cons (pg_name (i := 5) sc__is_paper_of_ranks.nd rfl (Or.inl rfl) (Or.inr rfl)) (pgs_cons (pg_name (i := 6) sc__is_paper_of_ranks.nd rfl (Or.inl rfl) (Or.inr rfl)) pgs_nil)))) (fun _ _ _ _ _ => pts_nil) (fun _ _ _ _ _ => (pv 5)))
      (pss_cons (ps_set (i := 3) sc__is_paper_of_ranks.nd rfl (Or.inr rfl) pe_dnewK)
      (pss_cons (ps_for PassesOwn.never rfl (pi_seq (pv 1)) (pg_name (i := 4) sc__is_paper_of_ranks.nd rfl (Or.inl rfl)) (pss_cons (ps_if (PW.pt (pw_or (pt_not (pt_val (own_call O_is_row hr (by first | decide | omega) (pa_cons (pv 4) pa_nil)))) (pw_or (pt_cmpR op_ne (pe_callB (len_seq K) (by rfl) T.m_len (by decide +kernel) (pa_cons (pv 4) pa_nil)) pe_int (nomark _)) (pw_or (pt_not (pt_val (own_call O_is_word_of hr (by first | decide | omega) (pa_cons (pe_ix (ixU K) (pv 4) pe_int (fun _ _ => rfl)) (pa_cons (pv 2) pa_nil))))) (pw_or1 (pt_not (pt_val (own_call O_is_number hr (by first | decide | omega) (pa_cons (pe_ix (ixU K) (pv 4) pe_int (fun _ _ => rfl)) pa_nil))))))))) (pss_one (ps_ret pe_bl)) pss_nil)
      (pss_cons (ps_if (pt_cmp (pc_din hu (pe_ix (ixU K) (pv 4) pe_int (fun _ _ => rfl)) (pv 3))) (pss_one (ps_ret pe_bl)) pss_nil)
      (pss_one (ps_dput hu (pv 3) (pe_ix (ixU K) (pv 4) pe_int (fun _ _ => rfl)) (pe_ix (ixU K) (pv 4) pe_int (fun _ _ => rfl)) rfl)))))
      (pss_cons (ps_if (pt_not (pt_val (pe_callB (cr_all rfl) (by rfl) T.m_all (by decide +kernel) (pa_cons (pe_lc (own := [("kind", 10)]) (g := gName 10) (by rfl) sc__is_paper_of_ranks.nd (pi_list (own_call O_tight_kinds hr (by first | decide | omega) (pa_cons (pv 0) pa_nil))) (blkOk_by (own := [("kind", 10)]) (N := N__is_paper_of_ranks) (sc := defScope s__is_paper_of_ranks) (by decide +kernel)) (fun _ _ _ _ _ => (pg_name (i := 10) sc__is_paper_of_ranks.nd rfl (Or.inl rfl) (Or.inr rfl))) (fun _ _ _ _ _ => pts_nil) (fun _ _ _ _ _ => (pe_cmp (pc_din hu (pv 10) (pv 3)) (by rfl)))) pa_nil)))) (pss_one (ps_ret pe_bl)) pss_nil)
      (pss_one (ps_ret (pe_callB (cr_all rfl) (by rfl) T.m_all (by decide +kernel) (pa_cons (pe_lc (own := [("name", 5), ("home", 7), ("goal", 8), ("rule", 9)]) (g := gTup K 4 (gCons (gName 5) (gCons (gName 7) (gCons (gName 8) (gCons (gName 9) gNil))))) (by rfl) sc__is_paper_of_ranks.nd (pi_list (own_call O_tight_columns hr (by first | decide | omega) (pa_cons (pv 0) pa_nil))) (blkOk_by (own := [("name", 5), ("home", 7), ("goal", 8), ("rule", 9)]) (N := N__is_paper_of_ranks) (sc := defScope s__is_paper_of_ranks) (by decide +kernel)) (fun _ _ _ _ _ => (pg_tup rfl (pgs_cons (pg_name (i := 5) sc__is_paper_of_ranks.nd rfl (Or.inl rfl) (Or.inr rfl)) (pgs_cons (pg_name (i := 7) sc__is_paper_of_ranks.nd rfl (Or.inl rfl) (Or.inr rfl)) (pgs_cons (pg_name (i := 8) sc__is_paper_of_ranks.nd rfl (Or.inl rfl) (Or.inr rfl)) (pgs_cons (pg_name (i := 9) sc__is_paper_of_ranks.nd rfl (Or.inl rfl) (Or.inr rfl)) pgs_nil)))))) (fun _ _ _ _ _ => pts_nil) (fun _ _ _ _ _ => (pe_cmpR op_gt (pe_dget hu (pv 3) (pv 7) (fun _ _ => rfl)) (pe_dget hu (pv 3) (pv 8) (fun _ _ => rfl)) (nomark _)))) pa_nil)))))))), ?_⟩
    walk_at "ls"
    have no : ∀ {k c m x : Addr} {fl : Str}, ¬ fl = "_checks" → ¬ fl = "_menu" → ¬ fl = "_columns" → ¬ fl = "_kinds" → (bookF k c m x).lookup fl = none := fun h1 h2 h3 h4 => bookF_no h1 h2 h3 h4
    obtain ⟨dx, kk, c0, m0, x0, ho⟩ := hb.ins
    refine ⟨o, _, _, rfl, ho, no (by decide +kernel) (by decide +kernel) (by decide +kernel) (by decide +kernel), ?_⟩
    refine ⟨o, _, _, _, rfl, hb, fun l kx hl hkt => ?_⟩
    rw [ksU_rows] at hkt
    have s1 := same_new (o := .lst kx) hl
    have h1 := upd_same (H := H) (a := l) (o := .lst kx)
    replace hkt := hkt.keep (.same s1)
    have lk := hkt.len
    rw [List.length_map] at lk
    generalize upd H l (.lst kx) = H1 at *
    have bk3 := hB.nk3
    refine ⟨l, rfl, ⟨_, .inl (.inl h1)⟩, fun D hD => ?_⟩
    refine lc_rows (walk_list (xs := kx)) kx B.ks (fun k => some (V.str k.1)) (by rw [lk]) (fun i H x H' hi hy => hy) (Nat.lt_of_le_of_lt (show kx.length ≤ 3 by omega) (by decide)) (fun acc => .inl (.inl (same_new hD _ _ h1))) (fun j y k hj hy hk => ?_) ?_
    · obtain ⟨zs, hzs, t, rfl, ht⟩ := TupsAt.get (hkt.keep (.same (same_new hD))) hy
      obtain ⟨k2, hk2, rfl⟩ := map_get hzs
      rw [hk] at hk2
      cases hk2
      refine ⟨t, _, rfl, .inl (.inl ht), rfl, _, _, rfl, _, _, rfl, rfl, rfl, ?_⟩
      walk_at "ls"
      exact lr_yes hk hj (Nat.lt_of_le_of_lt (show kx.length ≤ 3 by omega) (by decide)) rfl
    rw [filterMap_some (fun k : Str × Bool => V.str k.1) B.ks]
    have s2 := s1.trans (same_new (o := .lst (B.ks.map fun k => V.str k.1)) hD)
    have h2 : (upd H1 D (.lst (B.ks.map fun k => V.str k.1))) D = some (.lst ((knB B).map V.str)) := by
      rw [upd_same]
      unfold knB
      rw [List.map_map]
      rfl
    generalize upd H1 D (.lst (B.ks.map fun k => V.str k.1)) = H2 at *
    clear h1 hkt s1 hD hl
    walk_at "ls"
    intro nd hnd
    have s3 := s2.trans (same_new (o := .dK []) hnd)
    have h3 := same_new (o := .dK []) hnd _ _ h2
    have hn3 : (upd H2 nd (.dK [])) nd = some (.dK []) := upd_same
    have hnd0 : H nd = none := s2.free hnd
    generalize upd H2 nd (.dK []) = H3 at *
    clear s2 h2 hnd
    walk_at "ls"
    have sqp : SqU K H pp xs := hpp.elim (fun h => .inr (.inl (.inl h))) (fun h => .inl (.inl (.inl h)))
    refine ⟨pp, xs, H, rfl, sqp, s3, fun J G wk g0 gs => ?_⟩
    have lx := hps.len
    refine for_it wk (fun i σ H4 => ∃ v4 : Option V, σ = [some (.ref o), some (.ref pp), some (.ref D), some (.ref nd), v4, none, none, none, none, none, none] ∧ H4 nd = some (.dK (tabP (ps.take i))) ∧ goodP B (ps.take i) = true ∧ H4 D = some (.lst ((knB B).map V.str)) ∧ Same H H4) ⟨none, rfl, by rw [List.take_zero]; exact hn3, by rw [List.take_zero]; rfl, h3, s3⟩ (fun i σ H4 _ ⟨_, _, _, _, _, s4⟩ => gs _ s4) ?_ ?_
    · rintro i y σ Hy H4 hi ⟨v4, rfl, h4n, gd, h4D, s4⟩ ⟨rfl, hy⟩
      obtain ⟨p, hp, t, rfl, ht⟩ := PairsAt.get hps hy
      obtain ⟨op, vp⟩ := hv p (List.mem_of_getElem? hp)
      walk_at "ls"
      refine ⟨t, [.str p.1, p.2], rfl, ht.elim (fun h => .inl (s4 _ _ h)) (fun h => .inr (s4 _ _ h)), fun H5 s5 => ⟨_, rfl, ?_⟩⟩
      have s45 := s4.trans s5
      have ht5 : H5 t = some (.tup [.str p.1, p.2]) ∨ H5 t = some (.lst [.str p.1, p.2]) := ht.elim (fun h => .inl (s45 _ _ h)) (fun h => .inr (s45 _ _ h))
      have sqt : SqU K H5 t [.str p.1, p.2] := ht5.elim (fun h => .inr (.inl (.inl h))) (fun h => .inl (.inl (.inl h)))
      have h5n := s5 _ _ h4n
      have h5D := s5 _ _ h4D
      walk_at "ls"
      refine ⟨t, [.str p.1, p.2], rfl, sqt, ?_⟩
      walk_at "ls"
      have hpm := List.mem_of_getElem? hp
      refine ⟨.str p.1, D, knB B, rfl, .inl ⟨_, rfl, Nat.le_trans (okB_len op) (by decide)⟩, .inl (.inl (.inl h5D)), _, rfl, ?_⟩
      rw [show isWordV (knB B) (.str p.1) = decide (p.1 ∈ knB B) from rfl]
      refine ite2 (fun e => ?_) (fun e => ?_)
      · walk_at "ls"
        have n := good_no (B := B) hpm (by rw [show decide (p.1 ∈ knB B) = false from (Bool.not_eq_true' _).mp e]; rfl)
        rw [paper_no n] at q
        exact q _ s45
      have hk1 : p.1 ∈ knB B := by simpa using e
      walk_at "ls"
      refine ⟨vp.same s45, _, rfl, ?_⟩
      refine ite2 (fun e => ?_) (fun e => ?_)
      · walk_at "ls"
        have n := good_no (B := B) hpm (by rw [show isNumV p.2 = false from (Bool.not_eq_true' _).mp e, Bool.and_false])
        rw [paper_no n] at q
        exact q _ s45
      have hn1 : isNumV p.2 = true := by simpa using e
      walk_at "ls"
      refine ⟨nd, _, rfl, DGet.k (k := .inr p.1) h5n, _, rfl, ?_⟩
      have dno := tabP_no (ps := ps.take i) (z := p.1)
      refine ite2 (fun e => ?_) (fun e => ?_)
      · walk_at "ls"
        have e2 : p.1 ∈ (ps.take i).map (·.1) := of_decide_eq_true (dno.symm.trans e)
        rw [paper_no (good_dup hp e2)] at q
        exact q _ s45
      have e2 : p.1 ∉ (ps.take i).map (·.1) := fun h => e (dno.trans (decide_eq_true h))
      walk_at "ls"
      have lp : (tabP (ps.take i)).length < sizeLine := by
        unfold tabP
        rw [List.length_map, List.length_take]
        exact Nat.lt_of_le_of_lt (show min i ps.length ≤ 10 by omega) (by decide)
      refine ⟨nd, _, rfl, .inl ⟨_, .inr p.1, h5n, rfl, lp, rfl⟩, ?_⟩
      rw [tabP_put e2, ← take_snoc hp]
      have nDn : D ≠ nd := fun h => by rw [h, h5n] at h5D; cases h5D
      exact ⟨_, rfl, upd_same, good_next hp gd hk1 hn1 e2, by rw [upd_ne nDn]; exact h5D, fun b u e => by rw [upd_ne (fun h => by rw [h, hnd0] at e; cases e)]; exact s45 _ _ e⟩
    · rintro σ H4 ⟨v4, rfl, h4n, gd, h4D, s4⟩
      rw [lx, List.take_length] at h4n gd
      walk_at "ls"
      refine ⟨o, B, ck, rfl, hb.same s4, hB, fun H5 p hp h5 s5 => ?_⟩
      have h5n := s5 _ _ h4n
      have ltk : (tightL B ck).length ≤ 3 := tight_len hB ck
      refine ⟨p, rfl, ⟨_, .inl (.inl h5)⟩, fun D2 hD2 => ?_⟩
      have npD : p ≠ D2 := ne_of_none h5 hD2
      have nnD : nd ≠ D2 := ne_of_none h5n hD2
      refine lc_rows (walk_list (xs := (tightL B ck).map V.str)) ((tightL B ck).map V.str) (tightL B ck) (fun k => some (V.bl (decide (k ∈ ps.map (·.1))))) (by rw [List.length_map]) (fun i H x H' hi hy => hy) (by rw [List.length_map]; exact Nat.lt_of_le_of_lt ltk (by decide)) (fun acc => .inl (.inl (by rw [upd_ne npD]; exact h5))) (fun j y z hj hyj hz => ?_) ?_
      · rw [List.getElem?_map, hz] at hyj
        cases hyj
        rw [List.length_map] at hj
        refine ⟨rfl, ?_⟩
        walk_at "ls"
        refine ⟨nd, _, rfl, DGet.k (k := .inr z) (by rw [upd_ne nnD]; exact h5n), ?_⟩
        rw [tabP_no]
        exact lr_yes hz hj (Nat.lt_of_le_of_lt ltk (by decide)) rfl
      rw [filterMap_some (fun k : Str => V.bl (decide (k ∈ ps.map (·.1)))) (tightL B ck)]
      have s6 := (s4.trans s5).trans (same_new (o := .lst ((tightL B ck).map fun k => V.bl (decide (k ∈ ps.map (·.1))))) hD2)
      have h6n : (upd H5 D2 (.lst ((tightL B ck).map fun k => V.bl (decide (k ∈ ps.map (·.1)))))) nd = _ := (upd_ne nnD).trans h5n
      have h6 := upd_same (H := H5) (a := D2) (o := .lst ((tightL B ck).map fun k => V.bl (decide (k ∈ ps.map (·.1)))))
      generalize upd H5 D2 (.lst ((tightL B ck).map fun k => V.bl (decide (k ∈ ps.map (·.1))))) = H6 at *
      have h6b : H6 D2 = some (.lst (((tightL B ck).map fun k => decide (k ∈ ps.map (·.1))).map V.bl)) := by
        rw [List.map_map]
        exact h6
      refine ⟨D2, _, rfl, .inl (.inl h6b), _, rfl, ?_⟩
      have al : (((tightL B ck).map fun k => decide (k ∈ ps.map (·.1))).all id) = (tightL B ck).all fun k => decide (k ∈ ps.map (·.1)) := by rw [List.all_map]; rfl
      rw [al]
      clear h5 h5n npD nnD hD2 h6 h6b hp s5 h4n h4D
      refine ite2 (fun e => ?_) (fun e => ?_)
      · walk_at "ls"
        rw [show paperOk B ck ps = false by unfold paperOk; rw [(Bool.not_eq_true' _).mp e, Bool.false_and, Bool.and_false]] at q
        exact q _ s6
      have tk : ((tightL B ck).all fun k => decide (k ∈ ps.map (·.1))) = true := by
        cases h : ((tightL B ck).all fun k => decide (k ∈ ps.map (·.1)))
        · exact absurd (by rw [h]; rfl) e
        · rfl
      walk_at "ls"
      refine ⟨o, B, ck, rfl, hb.same s6, hB, fun H7 p cx hp h7 h7t s7 => ?_⟩
      have h7n := s7 _ _ h6n
      have lc : cx.length = (tightC B ck).length := by rw [h7t.len, List.length_map]
      have lc8 := tightC_len hB ck
      refine ⟨p, rfl, ⟨_, .inl (.inl h7)⟩, fun D3 hD3 => ?_⟩
      have npD : p ≠ D3 := ne_of_none h7 hD3
      have nnD : nd ≠ D3 := ne_of_none h7n hD3
      refine lc_rows (walk_list (xs := cx)) cx (tightC B ck) (fun c => some (V.bl (gtTie ps (edgeOf c)))) lc.symm (fun i H x H' hi hy => hy) (Nat.lt_of_le_of_lt (show cx.length ≤ 8 by omega) (by decide)) (fun acc => .inl (.inl (by rw [upd_ne npD]; exact h7))) (fun j y c hj hyj hz => ?_) ?_
      · obtain ⟨zs, hzs, t, rfl, ht⟩ := TupsAt.get (h7t.keep (.same (same_new hD3))) hyj
        obtain ⟨cl, hcl, rfl⟩ := map_get hzs
        rw [hz] at hcl
        cases hcl
        refine ⟨t, _, rfl, .inl (.inl ht), rfl, _, _, rfl, _, _, rfl, _, _, rfl, _, _, rfl, rfl, rfl, ?_⟩
        obtain ⟨m1, m2⟩ := tightC_mem (List.mem_of_getElem? hz)
        obtain ⟨n1, e1⟩ := tabP_num gd (of_decide_eq_true (List.all_eq_true.mp tk _ m1))
        obtain ⟨n2, e2⟩ := tabP_num gd (of_decide_eq_true (List.all_eq_true.mp tk _ m2))
        have hn7 : (upd H7 D3 (HO.lst (madeR (tightC B ck) (fun c => some (V.bl (gtTie ps (edgeOf c)))) j))) nd = some (.dK (tabP ps)) := by rw [upd_ne nnD]; exact h7n
        walk_at "ls"
        refine ⟨nd, _, rfl, by rw [← e1]; exact DGet.k (k := .inr c.2.1) hn7, ?_⟩
        walk_at "ls"
        refine ⟨nd, _, rfl, by rw [← e2]; exact DGet.k (k := .inr c.2.2.1) hn7, ?_⟩
        walk_at "ls"
        simp only []
        rw [show decide (n2 < n1) = gtTie ps (edgeOf c) by unfold gtTie numAt edgeOf; rw [e1, e2]; rfl]
        exact lr_yes hz hj (Nat.lt_of_le_of_lt (show cx.length ≤ 8 by omega) (by decide)) rfl
      rw [filterMap_some (fun c : Cl => V.bl (gtTie ps (edgeOf c))) (tightC B ck)]
      have s8 := (s6.trans s7).trans (same_new (o := .lst ((tightC B ck).map fun c => V.bl (gtTie ps (edgeOf c)))) hD3)
      have h8b : (upd H7 D3 (.lst ((tightC B ck).map fun c => V.bl (gtTie ps (edgeOf c))))) D3 = some (.lst (((tightC B ck).map fun c => gtTie ps (edgeOf c)).map V.bl)) := by
        rw [upd_same, List.map_map]
        rfl
      refine ⟨D3, _, rfl, .inl (.inl h8b), ?_⟩
      rw [show paperOk B ck ps = ((tightC B ck).map fun c => gtTie ps (edgeOf c)).all id by unfold paperOk tightE; rw [gd, tk, Bool.true_and, Bool.true_and, List.all_map, List.all_map]; rfl] at q
      exact q _ s8
end
end Ls
namespace Ls
open PySem PySem.Spec PyProof.Rows L2
section
variable {X : Cx}
/-- repr(x): x data at an address, None, or a bool -/
def rReprB (K : PySem.W.Frag) : List V → Hp → VK → Prop := fun xs H Q => rReprN K xs H Q ∨ ∃ b : Bool, xs = [.bl b] ∧ Q (.str (if b = true then "True" else "False")) H
theorem call_repr_B {k : Nat} (hgd : X.A.guards = some []) (hr : Room k X.A) : CallR X (.builtin "repr") (rReprB X.K) := by
  intro pins s σ H xs us Q I r h
  rcases h with h | ⟨b, rfl, q⟩
  · exact call_repr_dataN hgd hr pins s σ H xs us Q I r h
  · obtain ⟨u, rfl, ru⟩ := r.one
    cases ru
    refine PySem.P.repr_of_bool ?_
    exact ⟨.str (if b = true then "True" else "False"), H, I.kept (t' := s.toks + 1) (fun b o e => e), ⟨_, rfl⟩, q⟩
end
end Ls
namespace Ls
open PySem PySem.Spec PyProof.Rows L2
/-! ### short steps -/
local macro_rules | `(tactic| walk_at "ls_ne") => `(tactic| first | assumption | exact Ne.symm (by assumption) | exact ne_of_none (by assumption) (by assumption) | exact Ne.symm (ne_of_none (by assumption) (by assumption)))
local macro_rules | `(tactic| walk_at "ls_hp") => `(tactic| first
  | with_reducible assumption
  | exact upd_same
  | exact Eq.trans (upd_ne (by walk_at "ls_ne")) (by walk_at "ls_hp"))
local macro_rules | `(tactic| walk_at "ls_st") => `(tactic| first
  | with_reducible assumption
  | exact Stm.upd (by walk_at "ls_st") (by first | walk_at "ls_ne" | exact (Stm.noneS (by assumption) (by assumption)).1) (by first | walk_at "ls_ne" | exact (Stm.noneS (by assumption) (by assumption)).2))
local macro_rules | `(tactic| walk_at "ls1") => `(tactic| first
  | refine ⟨_, rfl, ?_⟩
  | refine ⟨_, _, rfl, rfl, ?_⟩
  | refine ⟨_, _, _, _, rfl, rfl, .inl (.inl (by walk_at "ls_hp")), rfl, ?_⟩
  | refine ⟨_, _, _, _, rfl, rfl, (by walk_at "ls_hp"), rfl, ?_⟩
  | refine ⟨rfl, _, rfl, ?_⟩
  | refine ⟨.inl ⟨rfl, _, .inl (.inl (by walk_at "ls_hp"))⟩, ?_⟩)
local macro_rules | `(tactic| walk_at "ls") => `(tactic| repeat (walk_at "ls1"))

section
variable {P : Program} {w : World} {K : PySem.W.Frag} {mg : Str → Option Value} {base : Heap}
/-! ### want_question, is_paper -/
abbrev s_want_question : Stmt := topS 50
theorem sc_want_question : FnScope ["book", "question"] ["book", "question"] (defScope s_want_question) := ⟨rfl, rfl, rfl, by decide +kernel, rfl, by decide +kernel, by decide +kernel⟩
abbrev N_want_question : List Str := ["book", "question"]
def spWantQ (C : Addr) : Sp := fun vs H Q _ => ∃ (o : Addr) (z : Str) (B : Shp) (ck : List Str), vs = [.ref o, .str z] ∧ BookS C H o B ck ∧ B.Ok ∧ z ∈ questB B ∧ z.length ≤ 1000 ∧ ∀ H', Same H H' → Q .non H'
theorem ok_wantQ {C : Addr} {f : Addr} {fd : FuncData} (F : Fun K "want_question" "want_question" s_want_question f fd) (T : Bt mg) (O_Book_questions : OwnM P w K mg base CX0 1 C "questions" ["self"] (spQuest C)) (O_is_word_of : Own P w K mg base CX0 1 "is_word_of" ["thing", "words"] (spWord K)) : FnOk P w K mg base CX0 2 f fd ["book", "question"] (spWantQ C) := by
  refine F.ok sc_want_question (fun vs H Q E h => ?_) (fun cdv A outer s H vs Q E hr h => ?_)
  · obtain ⟨o, z, B, ck, rfl, _⟩ := h
    rfl
  · obtain ⟨o, z, B, ck, rfl, hb, hB, hz, lz, q⟩ := h
    have hu := hu_of hr
    refine ⟨_, (pss_one (ps_if (pt_not (pt_val (own_call O_is_word_of hr (by first | decide | omega) (pa_cons (pv 1) (pa_cons (own_meth0 O_Book_questions hr (by first | decide | omega) (pv 0)) pa_nil))))) (pss_one ps_dead) pss_nil)), ?_⟩
    walk_at "ls"
    have no : ∀ {k c m x : Addr} {fl : Str}, ¬ fl = "_checks" → ¬ fl = "_menu" → ¬ fl = "_columns" → ¬ fl = "_kinds" → (bookF k c m x).lookup fl = none := fun h1 h2 h3 h4 => bookF_no h1 h2 h3 h4
    obtain ⟨dx, kk, c0, m0, x0, ho⟩ := hb.ins
    refine ⟨o, _, _, rfl, ho, no (by decide +kernel) (by decide +kernel) (by decide +kernel) (by decide +kernel), ?_⟩
    refine ⟨o, B, ck, rfl, hb, hB, fun H1 p hp h1 s1 => ?_⟩
    refine ⟨_, p, _, rfl, .inl ⟨_, rfl, lz⟩, .inl (.inl (.inl h1)), _, rfl, ?_⟩
    rw [show isWordV (questB B) (.str z) = true from decide_eq_true hz]
    refine iteF ?_
    exact q _ s1
theorem stuck_in (B : Shp) : ("stuck" : Str) ∈ questB B := List.mem_append_right _ (.head _)
abbrev s_is_paper : Stmt := topS 49
theorem sc_is_paper : FnScope ["book", "question", "paper"] ["book", "question", "paper"] (defScope s_is_paper) := ⟨rfl, rfl, rfl, by decide +kernel, rfl, by decide +kernel, by decide +kernel⟩
abbrev N_is_paper : List Str := ["book", "question", "paper"]
def spIsPap (C : Addr) : Sp := fun vs H Q _ => ∃ (o pp : Addr) (B : Shp) (ck : List Str) (ps : List (Str × V)), vs = [.ref o, .str "stuck", .ref pp] ∧ BookS C H o B ck ∧ B.Ok ∧ PapAt H pp ps ∧ ps.length ≤ 10 ∧ (∀ p ∈ ps, okB 100 p.1 = true ∧ ValAt H p.2) ∧ ∀ H', Same H H' → Q (.bl (paperOk B ck ps)) H'
theorem ok_isPap {C : Addr} {f : Addr} {fd : FuncData} (F : Fun K "is_paper" "is_paper" s_is_paper f fd) (T : Bt mg) (O_want_question : Own P w K mg base CX0 2 "want_question" ["book", "question"] (spWantQ C)) (O_is_row : Own P w K mg base CX0 1 "is_row" ["thing"] spRow) (O__is_paper_of_ranks : Own P w K mg base CX0 5 "_is_paper_of_ranks" ["book", "paper"] (spPapR C)) : FnOk P w K mg base CX0 6 f fd ["book", "question", "paper"] (spIsPap C) := by
  refine F.ok sc_is_paper (fun vs H Q E h => ?_) (fun cdv A outer s H vs Q E hr h => ?_)
  · obtain ⟨o, pp, B, ck, ps, rfl, _⟩ := h
    rfl
  · obtain ⟨o, pp, B, ck, ps, rfl, hb, hB, hpp, lps, hv, q⟩ := h
    have hu := hu_of hr
    refine ⟨_, (pss_cons (ps_expr (own_call O_want_question hr (by first | decide | omega) (pa_cons (pv 0) (pa_cons (pv 1) pa_nil))))
      (pss_cons (ps_if (pt_not (pt_val (own_call O_is_row hr (by first | decide | omega) (pa_cons (pv 2) pa_nil)))) (pss_one (ps_ret pe_bl)) pss_nil)
      (pss_cons (ps_if (pt_cmpR op_eq (pv 1) pe_str (nomark _)) (pss_one (ps_ret (own_call O__is_paper_of_ranks hr (by first | decide | omega) (pa_cons (pv 0) (pa_cons (pv 2) pa_nil))))) pss_nil)
      (pss_one ps_dead)))), ?_⟩
    walk_at "ls"
    refine ⟨o, _, B, ck, rfl, hb, hB, stuck_in B, by decide, fun H1 s1 => ?_⟩
    walk_at "ls"
    have h1 := hpp.same s1
    obtain ⟨xs, hx, _⟩ := id h1
    refine ⟨pp, xs, rfl, hx, fun H2 s2 => ⟨_, rfl, iteF ?_⟩⟩
    walk_at "ls"
    refine iteT (B := False) ?_
    walk_at "ls"
    refine ⟨o, pp, B, ck, ps, rfl, hb.same (s1.trans s2), hB, h1.same s2, lps, fun p hp => ⟨(hv p hp).1, (hv p hp).2.same (s1.trans s2)⟩, fun H3 s3 => ?_⟩
    exact q _ ((s1.trans s2).trans s3)
/-! ### _law_same of bools -/
def spSameB : Sp := fun vs H Q _ => ∃ b : Bool, vs = [.bl b, .bl b] ∧ Q (.bl true) H
theorem ok_sameB {f : Addr} {fd : FuncData} (F : Fun K "_law_same" "_law_same" s__law_same f fd) (T : Bt mg) : FnG P w K mg base CX0 1 f fd ["_law_found", "_law_due"] spSameB := by
  refine fun_okG F sc__law_same (fun vs H Q E h => ?_) (fun cdv A outer s H vs Q E hgd hr h => ?_)
  · obtain ⟨b, rfl, _⟩ := h
    rfl
  · obtain ⟨b, rfl, q⟩ := h
    have hu := hu_of hr
    refine ⟨_, (pss_one (ps_ret (pe_cmpR op_eq (pe_callB (call_repr_B hgd hr) (by rfl) T.m_repr (by decide +kernel) (pa_cons (pv 0) pa_nil)) (pe_callB (call_repr_B hgd hr) (by rfl) T.m_repr (by decide +kernel) (pa_cons (pv 1) pa_nil)) (nomark _)))), ?_⟩
    walk_at "ls"
    refine .inr ⟨b, rfl, ?_⟩
    walk_at "ls"
    refine .inr ⟨b, rfl, ?_⟩
    refine ⟨rfl, ?_⟩
    rw [decide_eq_true rfl]
    exact q
end
end Ls
namespace Ls
open PySem PySem.Spec PyProof.Rows L2
/-! ### short steps -/
local macro_rules | `(tactic| walk_at "ls_ne") => `(tactic| first | assumption | exact Ne.symm (by assumption) | exact ne_of_none (by assumption) (by assumption) | exact Ne.symm (ne_of_none (by assumption) (by assumption)))
local macro_rules | `(tactic| walk_at "ls_hp") => `(tactic| first
  | with_reducible assumption
  | exact upd_same
  | exact Eq.trans (upd_ne (by walk_at "ls_ne")) (by walk_at "ls_hp"))
local macro_rules | `(tactic| walk_at "ls_st") => `(tactic| first
  | with_reducible assumption
  | exact Stm.upd (by walk_at "ls_st") (by first | walk_at "ls_ne" | exact (Stm.noneS (by assumption) (by assumption)).1) (by first | walk_at "ls_ne" | exact (Stm.noneS (by assumption) (by assumption)).2))
local macro_rules | `(tactic| walk_at "ls1") => `(tactic| first
  | refine ⟨_, rfl, ?_⟩
  | refine ⟨_, _, rfl, rfl, ?_⟩
  | refine ⟨_, _, _, _, rfl, rfl, .inl (.inl (by walk_at "ls_hp")), rfl, ?_⟩
  | refine ⟨_, _, _, _, rfl, rfl, (by walk_at "ls_hp"), rfl, ?_⟩
  | refine ⟨rfl, _, rfl, ?_⟩
  | refine ⟨.inl ⟨rfl, _, .inl (.inl (by walk_at "ls_hp"))⟩, ?_⟩)
local macro_rules | `(tactic| walk_at "ls") => `(tactic| repeat (walk_at "ls1"))

theorem tabP_nd {ps : List (Str × V)} (h : (ps.map (·.1)).Nodup) : ((tabP ps).map (·.1)).Nodup := by
  unfold tabP
  rw [List.map_map]
  exact List.pairwise_map.mpr ((List.pairwise_map.mp h).imp fun n e => n (Sum.inr.inj e))
theorem filt_empty {α : Type} (f : α → Bool) : ∀ l : List α, (l.filter fun z => !f z).isEmpty = l.all f
  | [] => rfl
  | z :: l => by
    rw [List.filter_cons, List.all_cons]
    cases h : f z
    · rfl
    · exact filt_empty f l
theorem map_empty {α β : Type} (g : α → β) (l : List α) : (l.map g).isEmpty = l.isEmpty := by cases l <;> rfl
def prV (p : Str × V) : List V := [.str p.1, p.2]
theorem pr_tups {K : PySem.W.Frag} {H : Hp} : ∀ {kx : List V} {ps : List (Str × V)}, TupsAt H kx (ps.map prV) → ∃ as : List Addr, kx = as.map V.ref ∧ Paired (fun (p : Addr) (kv : Key × V) => SqT K H p [kV kv.1, kv.2]) as (tabP ps)
  | [], [], _ => ⟨[], rfl, .nil⟩
  | x :: xs, k :: ks, h => by
    cases h with
    | cons h1 h2 =>
      obtain ⟨t, rfl, ht⟩ := h1
      obtain ⟨as, rfl, h3⟩ := pr_tups (K := K) h2
      exact ⟨t :: as, rfl, .cons (.inl (.inl ht)) h3⟩
  | [], _ :: _, h => by cases h
  | _ :: _, [], h => by cases h
def kinT (ks : List (Str × Bool)) : List (Str × V) := ks.map fun k => (k.1, V.bl k.2)
theorem kinT_keys (ks : List (Str × Bool)) : (kinT ks).map (·.1) = ks.map (·.1) := by
  unfold kinT
  rw [List.map_map]
  rfl
theorem kin_pairs {K : PySem.W.Frag} {H : Hp} {kx : List V} {ks : List (Str × Bool)} (h : TupsAt H kx (ks.map kindV)) : ∃ as : List Addr, kx = as.map V.ref ∧ Paired (fun (p : Addr) (kv : Key × V) => SqT K H p [kV kv.1, kv.2]) as (tabP (kinT ks)) := by
  refine pr_tups (ps := kinT ks) ?_
  unfold kinT
  rw [List.map_map]
  exact h
section
variable {P : Program} {w : World} {K : PySem.W.Frag} {mg : Str → Option Value} {base : Heap}
/-! ### _law_falls -/
abbrev s__law_falls : Stmt := topS 74
theorem sc__law_falls : FnScope ["_law_b", "_law_paper", "_law_kinds", "_law_kind", "_law_number", "_law_found", "_law_pair", "_law_tie"] ["_law_b", "_law_paper"] (defScope s__law_falls) := ⟨rfl, rfl, rfl, by decide +kernel, rfl, by decide +kernel, by decide +kernel⟩
abbrev N__law_falls : List Str := ["_law_b", "_law_paper", "_law_kinds", "_law_kind", "_law_number", "_law_found", "_law_pair", "_law_tie"]
def spFalls (K : PySem.W.Frag) : Sp := fun vs H Q _ => ∃ (S L b pp : Addr) (B : Shp) (ck : List Str) (xs : List V) (ps : List (Str × V)), vs = [.ref b, .ref pp] ∧ ShpAt S L H b B ck ∧ B.Ok ∧ SqL K H pp xs ∧ PairsAt H xs ps ∧ ps.length ≤ 10 ∧ (∀ p ∈ ps, okB 100 p.1 = true ∧ ValAt H p.2) ∧ ∀ H', Same H H' → Q (.bl (paperOk B ck ps)) H'
theorem ok_falls {f : Addr} {fd : FuncData} (F : Fun K "_law_falls" "_law_falls" s__law_falls f fd) (T : Bt mg) (T4 : Bt4 mg) (O__law_tight : Own P w K mg base CX0 2 "_law_tight" ["_law_b"] spTightL) (O__law_ties : Own P w K mg base CX0 3 "_law_ties" ["_law_b"] spTiesL) : FnOk P w K mg base CX0 4 f fd ["_law_b", "_law_paper"] (spFalls K) := by
  refine F.ok sc__law_falls (fun vs H Q E h => ?_) (fun cdv A outer s H vs Q E hr h => ?_)
  · obtain ⟨S, L, b, pp, B, ck, xs, ps, rfl, _⟩ := h
    rfl
  · obtain ⟨S, L, b, pp, B, ck, xs, ps, rfl, hs, hB, hpp, hps, lps, hv, q⟩ := h
    have hu := hu_of hr
    refine ⟨_, (pss_cons (ps_set (i := 2) sc__law_falls.nd rfl (Or.inr rfl) (pe_lc (own := [("_law_pair", 6)]) (g := gName 6) (by rfl) sc__law_falls.nd (pi_list (pv 1)) (blkOk_by (own := [("_law_pair", 6)]) (N := N__law_falls) (sc := defScope s__law_falls) (by decide +kernel)) (fun _ _ _ _ _ => (pg_name (i := 6) sc__law_falls.nd rfl (Or.inl rfl) (Or.inr rfl))) (fun _ _ _ _ _ => pts_nil) (fun _ _ _ _ _ => (pe_ix (ixU K) (pv 6) pe_int (fun _ _ => rfl)))))
      (pss_cons (ps_if (PW.pt (pw_or (pt_cmpR op_lt (pe_lenSetS rfl (by rfl) T.m_len (by rfl) T4.m_set (pv 2)) (pe_callB (len_seq K) (by rfl) T.m_len (by decide +kernel) (pa_cons (pv 2) pa_nil)) (nomark _)) (pw_or1 (pt_cmpR (neE K hr) (pe_lc (own := [("_law_kind", 3)]) (g := gName 3) (by rfl) sc__law_falls.nd (pi_list (pv 2)) (blkOk_by (own := [("_law_kind", 3)]) (N := N__law_falls) (sc := defScope s__law_falls) (by decide +kernel)) (fun _ _ _ _ _ => (pg_name (i := 3) sc__law_falls.nd rfl (Or.inl rfl) (Or.inr rfl))) (fun _ _ _ _ _ => (pts_one (pt_cmp (pc_dnotin hu (pv 3) (pe_callTy (dict_of K) (by rfl) T.m_dict (by decide +kernel) (pa_cons (pe_dget hu (pv 0) pe_str (fun _ _ => rfl)) pa_nil)))))) (fun _ _ _ _ _ => (pv 3))) (pe_lst pa_nil) (nomark _))))) (pss_one (ps_ret pe_bl)) pss_nil)
      (pss_cons (ps_for PassesOwn.never rfl (pi_list (pv 1)) (pg_seq rfl (pgs_cons (pg_name (i := 3) sc__law_falls.nd rfl (Or.inl rfl)) (pgs_cons (pg_name (i := 4) sc__law_falls.nd rfl (Or.inl rfl)) pgs_nil))) (pss_one (ps_if (PW.pt (pw_or (pt_not (pt_val (pe_callB call_isi (by rfl) T.m_isinstance (by decide +kernel) (pa_cons (pv 4) (pa_cons (pe_bltn (v := V.ty "int") (by rfl) T.m_int boot_int rfl) pa_nil))))) (pw_or (pt_val (pe_callB call_isi (by rfl) T.m_isinstance (by decide +kernel) (pa_cons (pv 4) (pa_cons (pe_bltn (v := V.ty "bool") (by rfl) T4.m_bool boot_bool rfl) pa_nil)))) (pw_or1 (pt_cmpR op_lt (pv 4) pe_int (nomark _)))))) (pss_one (ps_ret pe_bl)) pss_nil)))
      (pss_cons (ps_if (pt_cmpR (neE K hr) (pe_lc (own := [("_law_kind", 3)]) (g := gName 3) (by rfl) sc__law_falls.nd (pi_list (own_call O__law_tight hr (by first | decide | omega) (pa_cons (pv 0) pa_nil))) (blkOk_by (own := [("_law_kind", 3)]) (N := N__law_falls) (sc := defScope s__law_falls) (by decide +kernel)) (fun _ _ _ _ _ => (pg_name (i := 3) sc__law_falls.nd rfl (Or.inl rfl) (Or.inr rfl))) (fun _ _ _ _ _ => (pts_one (pt_cmpR (notIn_seq K) (pv 3) (pv 2) (by rfl)))) (fun _ _ _ _ _ => (pv 3))) (pe_lst pa_nil) (nomark _)) (pss_one (ps_ret pe_bl)) pss_nil)
      (pss_cons (ps_set (i := 5) sc__law_falls.nd rfl (Or.inr rfl) (pe_callTy (call_dictP rfl) (by rfl) T.m_dict (by decide +kernel) (pa_cons (pe_lc (own := [("_law_pair", 6)]) (g := gName 6) (by rfl) sc__law_falls.nd (pi_list (pv 1)) (blkOk_by (own := [("_law_pair", 6)]) (N := N__law_falls) (sc := defScope s__law_falls) (by decide +kernel)) (fun _ _ _ _ _ => (pg_name (i := 6) sc__law_falls.nd rfl (Or.inl rfl) (Or.inr rfl))) (fun _ _ _ _ _ => pts_nil) (fun _ _ _ _ _ => (pe_tup (pa_cons (pe_ix (ixU K) (pv 6) pe_int (fun _ _ => rfl)) (pa_cons (pe_ix (ixU K) (pv 6) pe_int (fun _ _ => rfl)) pa_nil))))) pa_nil)))
      (pss_one (ps_ret (pe_cmpR (eqE K hr) (pe_lc (own := [("_law_tie", 7)]) (g := gName 7) (by rfl) sc__law_falls.nd (pi_list (own_call O__law_ties hr (by first | decide | omega) (pa_cons (pv 0) pa_nil))) (blkOk_by (own := [("_law_tie", 7)]) (N := N__law_falls) (sc := defScope s__law_falls) (by decide +kernel)) (fun _ _ _ _ _ => (pg_name (i := 7) sc__law_falls.nd rfl (Or.inl rfl) (Or.inr rfl))) (fun _ _ _ _ _ => (pts_one (pt_cmpR op_le (pe_dget hu (pv 5) (pe_ix (ixT K) (pv 7) pe_int (fun _ _ => rfl)) (fun _ _ => rfl)) (pe_dget hu (pv 5) (pe_ix (ixT K) (pv 7) pe_int (fun _ _ => rfl)) (fun _ _ => rfl)) (nomark _)))) (fun _ _ _ _ _ => (pv 7))) (pe_lst pa_nil) (nomark _))))))))), ?_⟩
    walk_at "ls"
    have lx := hps.len
    refine ⟨⟨_, hpp⟩, fun D hD => ?_⟩
    refine lc_rows (walk_list (xs := xs)) xs ps (fun p => some (V.str p.1)) lx.symm (fun i H x H' hi hy => hy) (Nat.lt_of_le_of_lt (show xs.length ≤ 10 by omega) (by decide)) (fun acc => Same.seq (same_new hD) hpp) (fun j y p hj hy hp => ?_) ?_
    · have sD := same_new (o := .lst (madeR ps (fun p => some (V.str p.1)) j)) hD
      obtain ⟨p2, hp2, t, rfl, ht⟩ := PairsAt.get (hps.same sD) hy
      rw [hp] at hp2
      cases hp2
      have sqt : SqU K (upd H D (.lst (madeR ps (fun p => some (V.str p.1)) j))) t [.str p.1, p.2] := ht.elim (fun h => .inr (.inl (.inl h))) (fun h => .inl (.inl (.inl h)))
      refine ⟨rfl, ?_⟩
      walk_at "ls"
      exact lr_yes hp hj (Nat.lt_of_le_of_lt (show xs.length ≤ 10 by omega) (by decide)) rfl
    rw [filterMap_some (fun k : Str × V => V.str k.1) ps]
    have s1 : Same H (upd H D (.lst (ps.map fun k => V.str k.1))) := same_new hD
    have h1 : (upd H D (.lst (ps.map fun k => V.str k.1))) D = some (.lst ((ps.map (·.1)).map V.str)) := by
      rw [upd_same, List.map_map]
      rfl
    generalize upd H D (.lst (ps.map fun k => V.str k.1)) = H1 at *
    walk_at "ls"
    refine ⟨D, ps.map (·.1), rfl, .inl (.inl h1), by rw [List.length_map]; omega, ?_⟩
    walk_at "ls"
    refine ⟨D, _, rfl, .inl (.inl (.inl h1)), _, _, rfl, rfl, _, rfl, ?_⟩
    have e0 : decide (((manyS (ps.map (·.1)) : Nat) : Int) < ((((ps.map (·.1)).map V.str).length : Nat) : Int)) = !decide ((ps.map (·.1)).Nodup) := by
      rw [← manyS_lt, List.length_map]
      exact decide_eq_decide.mpr Int.ofNat_lt
    rw [e0]
    refine ite2 (fun e => ?_) (fun e => ?_)
    · walk_at "ls"
      have n : goodP B ps = false := by
        unfold goodP
        rw [(Bool.not_eq_true' _).mp e, Bool.false_and]
      rw [paper_no n] at q
      exact q _ s1
    have nd : (ps.map (·.1)).Nodup := by
      refine of_decide_eq_true ?_
      cases h : decide ((ps.map (·.1)).Nodup)
      · exact absurd (by rw [h]; rfl) e
      · rfl
    clear e e0
    walk_at "ls"
    refine ⟨⟨_, .inl (.inl h1)⟩, fun D1 hD1 => ?_⟩
    refine lc_it (walk_list (xs := (ps.map (·.1)).map V.str)) (fun j H3 => H3 D1 = some (.lst ((((ps.map (·.1)).take j).filter fun z => !decide (z ∈ knB B)).map V.str)) ∧ Same H1 H3) ⟨upd_same, same_new hD1⟩ (fun j H3 _ ⟨_, s3⟩ => .inl (.inl (s3 _ _ h1))) ?_ ?_
    · rintro j y Hy H3 hj ⟨h3, s3⟩ ⟨rfl, hy⟩
      obtain ⟨z, hz, rfl⟩ := map_get hy
      have hs3 := hs.same (s1.trans s3)
      obtain ⟨ka, ca, ea, kx, cx, hb, hk, hkt, hc, hct, he, n1, n2, n3⟩ := hs3
      obtain ⟨as, rfl, has⟩ := kin_pairs (K := K) hkt
      refine ⟨rfl, ?_⟩
      walk_at "ls"
      refine ⟨b, _, rfl, dg_kinds hb, ka, as, tabP (kinT B.ks), rfl, .inl (.inl hk), has, fun nd2 hn2 => ?_⟩
      rw [merge_nd (tabP_nd (by rw [kinT_keys]; exact ks_nd hB))]
      refine ⟨nd2, _, rfl, DGet.k (k := .inr z) upd_same, _, rfl, ?_⟩
      rw [tabP_no, kinT_keys, ← show knB B = B.ks.map (·.1) from rfl]
      have n2 : D1 ≠ nd2 := ne_of_none h3 hn2
      have h4 : (upd H3 nd2 (.dK (tabP (kinT B.ks)))) D1 = _ := (upd_ne n2).trans h3
      have s4 := s3.trans (same_new (o := .dK (tabP (kinT B.ks))) hn2)
      have tk := take_snoc hz
      refine ite2 (fun e => ?_) (fun e => ?_)
      · walk_at "ls"
        refine ⟨_, h4, ?_, ?_, ?_⟩
        · rw [List.length_map]
          refine Nat.lt_of_le_of_lt (List.length_filter_le _ _) ?_
          rw [List.length_take, List.length_map]
          exact Nat.lt_of_le_of_lt (show min j ps.length ≤ 10 by omega) (by decide)
        · rw [upd_same, tk, List.filter_append, List.map_append, List.filter_cons, if_pos e]
          rfl
        · exact Same.set s4 hD1
      · refine ⟨?_, s4⟩
        rw [h4, tk, List.filter_append, List.filter_cons, if_neg e, List.filter_nil, List.append_nil]
    · rintro H3 ⟨h3, s3⟩
      rw [List.length_map, List.take_length] at h3
      walk_at "ls"
      refine ⟨(by show 0 ≤ sizeLine; decide), fun le hle => ?_⟩
      have s4 := (s1.trans s3).trans (same_new (o := .lst []) hle)
      have n2 : D1 ≠ le := ne_of_none h3 hle
      refine ⟨D1, le, _, rfl, rfl, .inl (.inl (by rw [upd_ne n2]; exact h3)), .inl (.inl upd_same), _, rfl, ?_⟩
      have hp4 := Same.seq s4 hpp
      have h4D := (s3.trans (same_new (o := .lst []) hle)) _ _ h1
      generalize upd H3 le (.lst []) = H4 at *
      clear h3 n2 hle s3 h1 s1 hD1 hD
      rw [show (!(((ps.map (·.1)).filter fun z => !decide (z ∈ knB B)).map V.str).isEmpty) = !((ps.map (·.1)).all fun z => decide (z ∈ knB B)) from ?_]
      · refine ite2 (fun e => ?_) (fun e => ?_)
        · walk_at "ls"
          have n : goodP B ps = false := by
            obtain ⟨z, hz, e2⟩ := List.all_eq_false.mp ((Bool.not_eq_true' _).mp e)
            obtain ⟨p, hp, rfl⟩ := List.mem_map.mp hz
            exact good_no hp (by rw [eq_false_of_ne_true e2, Bool.false_and])
          rw [paper_no n] at q
          exact q _ s4
        have kn : ∀ p ∈ ps, p.1 ∈ knB B := fun p hp => by
          have h : ((ps.map (·.1)).all fun z => decide (z ∈ knB B)) = true := by
            cases h : ((ps.map (·.1)).all fun z => decide (z ∈ knB B))
            · exact absurd (by rw [h]; rfl) e
            · rfl
          exact of_decide_eq_true (List.all_eq_true.mp h _ (List.mem_map_of_mem hp))
        clear e
        walk_at "ls"
        refine ⟨⟨_, hp4⟩, ?_⟩
        refine for_it (walk_list (xs := xs)) (fun i σ H5 => ∃ v3 v4 : Option V, σ = [some (.ref b), some (.ref pp), some (.ref D), v3, v4, none, none, none] ∧ Same H H5 ∧ H5 D = some (.lst ((ps.map (·.1)).map V.str)) ∧ ∀ p ∈ ps.take i, isNumV p.2 = true) ⟨none, none, rfl, s4, h4D, fun p hp => by rw [List.take_zero] at hp; cases hp⟩ (fun i σ H5 _ ⟨_, _, _, s5, _⟩ => Same.seq s5 hpp) ?_ ?_
        · rintro i y σ Hy H5 hi ⟨v3, v4, rfl, s5, h5D, nums⟩ ⟨rfl, hy⟩
          obtain ⟨p, hp, t, rfl, ht⟩ := PairsAt.get hps hy
          obtain ⟨op, vp⟩ := hv p (List.mem_of_getElem? hp)
          have ht5 : H5 t = some (.tup [.str p.1, p.2]) ∨ H5 t = some (.lst [.str p.1, p.2]) := ht.elim (fun h => .inl (s5 _ _ h)) (fun h => .inr (s5 _ _ h))
          have v5 := vp.same s5
          obtain ⟨k, v⟩ := p
          refine ⟨t, [.str k, v], rfl, ht5.elim (fun h => .inr (.inl (.inl h))) (fun h => .inl (.inl (.inl h))), rfl, ?_⟩
          refine ⟨_, _, rfl, _, _, rfl, rfl, ?_⟩
          have nx : isNumV v = true → ∃ w3 w4 : Option V, [some (V.ref b), some (.ref pp), some (.ref D), some (.str k), some v, none, none, none] = [some (V.ref b), some (.ref pp), some (.ref D), w3, w4, none, none, none] ∧ Same H H5 ∧ H5 D = some (.lst ((ps.map (·.1)).map V.str)) ∧ ∀ p ∈ ps.take (i + 1), isNumV p.2 = true := fun e => ⟨_, _, rfl, s5, h5D, fun p hm => by
            rw [take_snoc hp] at hm
            rcases List.mem_append.mp hm with hm | hm
            · exact nums p hm
            · cases List.mem_singleton.mp hm
              exact e⟩
          have rt : isNumV v = false → Q (.bl false) H5 := fun e => by
            rw [paper_no (good_no (List.mem_of_getElem? hp) (by rw [show isNumV v = false from e, Bool.and_false]))] at q
            exact q _ s5
          rcases v5 with ⟨n, rfl, n0, n1⟩ | rfl | rfl | rfl | ⟨t2, rfl, ht2⟩
          · walk_at "ls"
            refine ⟨_, _, .type "int", .type "int", true, rfl, .ty _, .base (.int _), by kernel_rfl, _, rfl, iteF ?_⟩
            walk_at "ls"
            refine ⟨_, _, .type "int", .type "bool", false, rfl, .ty _, .base (.int _), by kernel_rfl, _, rfl, iteF ?_⟩
            walk_at "ls"
            refine ite2 (fun e => ?_) (fun e => ?_)
            · exact rt (decide_eq_false (by have := of_decide_eq_true e; omega))
            · exact nx (decide_eq_true (by have := of_decide_eq_false (eq_false_of_ne_true e); omega))
          · walk_at "ls"
            refine ⟨_, _, .type "bool", .type "int", true, rfl, .ty _, .base (.bl _), by kernel_rfl, _, rfl, iteF ?_⟩
            walk_at "ls"
            exact ⟨_, _, .type "bool", .type "bool", true, rfl, .ty _, .base (.bl _), by kernel_rfl, _, rfl, iteT (iteT (rt rfl))⟩
          · walk_at "ls"
            exact ⟨_, _, .type "NoneType", .type "int", false, rfl, .ty _, .base .non, by kernel_rfl, _, rfl, iteT (iteT (rt rfl))⟩
          · walk_at "ls"
            exact ⟨_, _, .type "str", .type "int", false, rfl, .ty _, .base (.str _), by kernel_rfl, _, rfl, iteT (iteT (rt rfl))⟩
          · walk_at "ls"
            exact ⟨_, _, .type "tuple", .type "int", false, rfl, .ty _, .base (.tup ht2), by kernel_rfl, _, rfl, iteT (iteT (rt rfl))⟩
        · rintro σ H5 ⟨v3, v4, rfl, s5, h5D, nums⟩
          rw [lx, List.take_length] at nums
          have gd : goodP B ps = true := by
            unfold goodP
            rw [decide_eq_true nd, Bool.true_and]
            exact List.all_eq_true.mpr fun p hp => by rw [decide_eq_true (kn p hp), nums p hp]; rfl
          walk_at "ls"
          refine ⟨S, L, b, B, ck, rfl, hs.same s5, hB, fun H6 p hp h6 s6 => ?_⟩
          have h6D := s6 _ _ h5D
          have ltk := tight_len hB ck
          refine ⟨p, rfl, ⟨_, .inl (.inl h6)⟩, fun D2 hD2 => ?_⟩
          have npD : p ≠ D2 := ne_of_none h6 hD2
          have nnD : D ≠ D2 := ne_of_none h6D hD2
          refine lc_rows (walk_list (xs := (tightL B ck).map V.str)) ((tightL B ck).map V.str) (tightL B ck) (fun k => if (!decide (k ∈ ps.map (·.1))) = true then some (V.str k) else none) (by rw [List.length_map]) (fun i H x H' hi hy => hy) (by rw [List.length_map]; exact Nat.lt_of_le_of_lt ltk (by decide)) (fun acc => .inl (.inl (by rw [upd_ne npD]; exact h6))) (fun j y z hj hyj hz => ?_) ?_
          · rw [List.getElem?_map, hz] at hyj
            cases hyj
            rw [List.length_map] at hj
            have h6D2 : (upd H6 D2 (.lst (madeR (tightL B ck) (fun k => if (!decide (k ∈ ps.map (·.1))) = true then some (V.str k) else none) j))) D = _ := (upd_ne nnD).trans h6D
            refine ⟨rfl, ?_⟩
            walk_at "ls"
            refine ⟨D, _, rfl, .inl (.inl (.inl h6D2)), rfl, all_flat _, _, rfl, ?_⟩
            rw [in_strs]
            refine ite2 (fun e => ?_) (fun e => ?_)
            · walk_at "ls"
              exact lr_yes hz hj (Nat.lt_of_le_of_lt ltk (by decide)) (if_pos e)
            · exact lr_no hz (if_neg e)
          rw [filterMap_if (fun k => !decide (k ∈ ps.map (·.1))) V.str]
          have s7 := (s5.trans s6).trans (same_new (o := .lst (((tightL B ck).filter fun k => !decide (k ∈ ps.map (·.1))).map V.str)) hD2)
          have h7 := upd_same (H := H6) (a := D2) (o := .lst (((tightL B ck).filter fun k => !decide (k ∈ ps.map (·.1))).map V.str))
          generalize upd H6 D2 (.lst (((tightL B ck).filter fun k => !decide (k ∈ ps.map (·.1))).map V.str)) = H7 at *
          walk_at "ls"
          refine ⟨(by show 0 ≤ sizeLine; decide), fun le hle => ?_⟩
          have s8 := s7.trans (same_new (o := .lst []) hle)
          have n2 : D2 ≠ le := ne_of_none h7 hle
          refine ⟨D2, le, _, rfl, rfl, .inl (.inl (by rw [upd_ne n2]; exact h7)), .inl (.inl upd_same), _, rfl, ?_⟩
          generalize upd H7 le (.lst []) = H8 at *
          clear h7 n2 hle s7 h6 h6D s6 npD nnD hD2 h5D s5
          rw [map_empty, filt_empty]
          refine ite2 (fun e => ?_) (fun e => ?_)
          · walk_at "ls"
            rw [show paperOk B ck ps = false by unfold paperOk; rw [(Bool.not_eq_true' _).mp e, Bool.false_and, Bool.and_false]] at q
            exact q _ s8
          have tk : ((tightL B ck).all fun k => decide (k ∈ ps.map (·.1))) = true := by
            cases h : ((tightL B ck).all fun k => decide (k ∈ ps.map (·.1)))
            · exact absurd (by rw [h]; rfl) e
            · rfl
          clear e
          walk_at "ls"
          refine ⟨⟨_, Same.seq s8 hpp⟩, fun D3 hD3 => ?_⟩
          refine lc_it (walk_list (xs := xs)) (fun j H9 => ∃ ys : List V, H9 D3 = some (.lst ys) ∧ TupsAt H9 ys ((ps.take j).map prV) ∧ Same H8 H9) ⟨[], upd_same, .nil, same_new hD3⟩ (fun j H9 _ ⟨_, _, _, s9⟩ => Same.seq (s8.trans s9) hpp) ?_ ?_
          · rintro j y Hy H9 hj ⟨ys, h9, h9t, s9⟩ ⟨rfl, hy⟩
            have s89 := s8.trans s9
            obtain ⟨p2, hp2, t, rfl, ht⟩ := PairsAt.get (hps.same s89) hy
            have sqt : SqU K H9 t [.str p2.1, p2.2] := ht.elim (fun h => .inr (.inl (.inl h))) (fun h => .inl (.inl (.inl h)))
            have ly : ys.length ≤ 10 := by
              rw [h9t.len, List.length_map, List.length_take]
              omega
            refine ⟨rfl, ?_⟩
            walk_at "ls"
            refine ⟨(by show 2 ≤ sizeLine; decide), fun tp htp => ?_⟩
            have n3 : D3 ≠ tp := ne_of_none h9 htp
            have h10 : (upd H9 tp (.tup [.str p2.1, p2.2])) D3 = some (.lst ys) := (upd_ne n3).trans h9
            refine ⟨ys, h10, small1000 (by omega), ys ++ [.ref tp], upd_same, ?_, Same.set (s9.trans (same_new htp)) hD3⟩
            rw [take_snoc hp2, List.map_append]
            exact ((h9t.keep (.new htp)).keep (.lst h10)).snoc ⟨tp, rfl, by rw [upd_ne n3.symm, upd_same]; rfl⟩
          · rintro H9 ⟨ys, h9, h9t, s9⟩
            rw [lx, List.take_length] at h9t
            obtain ⟨as, rfl, has⟩ := pr_tups (K := K) h9t
            walk_at "ls"
            refine ⟨D3, as, tabP ps, rfl, .inl (.inl h9), has, fun nd2 hn2 => ?_⟩
            rw [merge_nd (tabP_nd nd)]
            have s10 := (s8.trans s9).trans (same_new (o := .dK (tabP ps)) hn2)
            have h10 := upd_same (H := H9) (a := nd2) (o := .dK (tabP ps))
            generalize upd H9 nd2 (.dK (tabP ps)) = H10 at *
            clear h9 h9t has s9 hn2 s8 hD3
            walk_at "ls"
            refine ⟨S, L, b, B, ck, rfl, hs.same s10, hB, fun H11 p tx hp h11 h11t s11 => ?_⟩
            have h11n := s11 _ _ h10
            have ltx : tx.length = (tightE B ck).length := by rw [h11t.len, List.length_map]
            have lE : (tightE B ck).length ≤ 8 := by
              unfold tightE
              rw [List.length_map]
              exact tightC_len hB ck
            refine ⟨p, rfl, ⟨_, .inl (.inl h11)⟩, fun D4 hD4 => ?_⟩
            refine lc_it (walk_list (xs := tx)) (fun j H12 => ∃ zs : List V, H12 D4 = some (.lst zs) ∧ zs.length = (((tightE B ck).take j).filter fun e => !gtTie ps e).length ∧ Same H11 H12) ⟨[], upd_same, rfl, same_new hD4⟩ (fun j H12 _ ⟨_, _, _, s12⟩ => .inl (.inl (s12 _ _ h11))) ?_ ?_
            · rintro j y Hy H12 hj ⟨zs, h12, hz, s12⟩ ⟨rfl, hy⟩
              obtain ⟨ys, hys, t, rfl, ht⟩ := TupsAt.get (h11t.keep (.same s12)) hy
              obtain ⟨ed, hed, rfl⟩ := map_get hys
              have h12n := s12 _ _ h11n
              have lzs : zs.length ≤ 8 := by
                rw [hz]
                refine Nat.le_trans (List.length_filter_le _ _) ?_
                rw [List.length_take]
                omega
              obtain ⟨m1, m2⟩ := tightE_mem (List.mem_of_getElem? hed)
              obtain ⟨k1, e1⟩ := tabP_num gd (of_decide_eq_true (List.all_eq_true.mp tk _ m1))
              obtain ⟨k2, e2⟩ := tabP_num gd (of_decide_eq_true (List.all_eq_true.mp tk _ m2))
              refine ⟨rfl, ?_⟩
              walk_at "ls"
              refine ⟨nd2, _, rfl, by rw [← e1]; exact DGet.k (k := .inr ed.1) h12n, ?_⟩
              walk_at "ls"
              refine ⟨nd2, _, rfl, by rw [← e2]; exact DGet.k (k := .inr ed.2) h12n, ?_⟩
              refine ⟨k1, k2, rfl, rfl, _, rfl, ?_⟩
              rw [show decide (k1 ≤ k2) = !gtTie ps ed by unfold gtTie numAt; rw [e1, e2, ← decide_not]; exact decide_eq_decide.mpr (by show k1 ≤ k2 ↔ ¬ k2 < k1; omega)]
              refine ite2 (fun e => ?_) (fun e => ?_)
              · walk_at "ls"
                refine ⟨zs, h12, small1000 (by omega), zs ++ [.ref t], upd_same, ?_, Same.set s12 hD4⟩
                rw [List.length_append, hz, take_snoc hed, List.filter_append, List.length_append, List.filter_cons, if_pos e]
                rfl
              · refine ⟨zs, h12, ?_, s12⟩
                rw [hz, take_snoc hed, List.filter_append, List.filter_cons, if_neg e, List.filter_nil, List.append_nil]
            · rintro H12 ⟨zs, h12, hz, s12⟩
              rw [ltx, List.take_length] at hz
              walk_at "ls"
              refine ⟨(by show 0 ≤ sizeLine; decide), fun le hle => ?_⟩
              have s13 := (s10.trans (s11.trans s12)).trans (same_new (o := .lst []) hle)
              have n2 : D4 ≠ le := ne_of_none h12 hle
              refine ⟨D4, le, _, rfl, rfl, .inl (.inl (by rw [upd_ne n2]; exact h12)), .inl (.inl upd_same), ?_⟩
              have ez : zs.isEmpty = (tightE B ck).all (gtTie ps) := by
                rw [← filt_empty, Bool.eq_iff_iff, List.isEmpty_iff_length_eq_zero, List.isEmpty_iff_length_eq_zero, hz]
              rw [ez]
              rw [show paperOk B ck ps = (tightE B ck).all (gtTie ps) by unfold paperOk; rw [gd, tk, Bool.true_and, Bool.true_and]] at q
              exact q _ s13
      · rw [map_empty, filt_empty]
end
end Ls
namespace Ls
open PySem PySem.Spec PyProof.Rows L2
/-! ### short steps -/
local macro_rules | `(tactic| walk_at "ls_ne") => `(tactic| first | assumption | exact Ne.symm (by assumption) | exact ne_of_none (by assumption) (by assumption) | exact Ne.symm (ne_of_none (by assumption) (by assumption)))
local macro_rules | `(tactic| walk_at "ls_hp") => `(tactic| first
  | with_reducible assumption
  | exact upd_same
  | exact Eq.trans (upd_ne (by walk_at "ls_ne")) (by walk_at "ls_hp"))
local macro_rules | `(tactic| walk_at "ls_st") => `(tactic| first
  | with_reducible assumption
  | exact Stm.upd (by walk_at "ls_st") (by first | walk_at "ls_ne" | exact (Stm.noneS (by assumption) (by assumption)).1) (by first | walk_at "ls_ne" | exact (Stm.noneS (by assumption) (by assumption)).2))
local macro_rules | `(tactic| walk_at "ls1") => `(tactic| first
  | refine ⟨_, rfl, ?_⟩
  | refine ⟨_, _, rfl, rfl, ?_⟩
  | refine ⟨_, _, _, _, rfl, rfl, .inl (.inl (by walk_at "ls_hp")), rfl, ?_⟩
  | refine ⟨_, _, _, _, rfl, rfl, (by walk_at "ls_hp"), rfl, ?_⟩
  | refine ⟨rfl, _, rfl, ?_⟩
  | refine ⟨.inl ⟨rfl, _, .inl (.inl (by walk_at "ls_hp"))⟩, ?_⟩)
local macro_rules | `(tactic| walk_at "ls") => `(tactic| repeat (walk_at "ls1"))

theorem relax_small {f : Str → Nat} {M : Nat} (h : ∀ z, f z ≤ M) (e : Ed) (z : Str) : relax f e z ≤ M + 1 := by
  unfold relax
  split
  · show (if z = e.1 then f e.2 + 1 else f z) ≤ M + 1
    have h1 := h e.2
    have h2 := h z
    split <;> omega
  · exact Nat.le_succ_of_le (h z)
theorem fold_small : ∀ (es : List Ed) {f : Str → Nat} {M : Nat}, (∀ z, f z ≤ M) → ∀ z, es.foldl relax f z ≤ M + es.length
  | [], _, _, h, z => h z
  | e :: es, f, M, h, z => by
    have := fold_small es (relax_small h e) z
    rw [List.length_cons]
    show es.foldl relax (relax f e) z ≤ _
    omega
theorem rounds_small (es : List Ed) : ∀ (n : Nat) (z : Str), roundsR es n z ≤ n * es.length
  | 0, _ => Nat.zero_le _
  | n + 1, z => by
    have := fold_small es (rounds_small es n) z
    rw [Nat.succ_mul]
    exact this
theorem rk_form {B : Shp} (hB : B.Ok) {ck : List Str} {l : List (Str × Nat)} (h : ranksL (tightL B ck) (tightE B ck) = some l) : ∃ g : Str → Nat, l = (tightL B ck).map (fun k => (k, g k)) ∧ (∀ z, g z ≤ 24) ∧ ∀ e ∈ tightE B ck, g e.2 < g e.1 := by
  have hTn : (tightL B ck).length ≤ B.ks.length := by
    refine Nat.le_trans (List.length_filter_le _ _) ?_
    unfold markList
    rw [List.length_map]
    exact List.length_filter_le _ _
  have hE : (tightE B ck).length ≤ 8 := by
    unfold tightE
    rw [List.length_map]
    exact tightC_len hB ck
  rw [ranks_same (fun e he => tightE_mem he) hTn] at h
  unfold ranksP at h
  by_cases a : ((tightE B ck).any fun e => decide (roundsR (tightE B ck) B.ks.length e.1 ≤ roundsR (tightE B ck) B.ks.length e.2)) = true
  · rw [if_pos a] at h
    cases h
  · rw [if_neg a] at h
    cases h
    refine ⟨_, rfl, fun z => Nat.le_trans (rounds_small _ _ z) (Nat.le_trans (Nat.mul_le_mul hB.nk3 hE) (by decide)), fun e he => ?_⟩
    have := List.any_eq_false.mp (eq_false_of_ne_true a) e he
    rw [decide_eq_true_eq] at this
    omega
theorem rk_small {B : Shp} (hB : B.Ok) {ck : List Str} {l : List (Str × Nat)} (h : ranksL (tightL B ck) (tightE B ck) = some l) : l.length ≤ 3 ∧ (∀ p ∈ l, Nm p.1 ∧ p.2 ≤ 24) ∧ l.map (·.1) = tightL B ck := by
  obtain ⟨g, rfl, h1, _⟩ := rk_form hB h
  refine ⟨by rw [List.length_map]; exact tight_len hB ck, fun p hp => ?_, ?_⟩
  · obtain ⟨k, hk, rfl⟩ := List.mem_map.mp hp
    exact ⟨mark_nm hB _ (List.mem_filter.mp hk).1, h1 k⟩
  · rw [List.map_map]
    exact List.map_id _
def rkP (l : List (Str × Nat)) : List (Str × V) := l.map fun p => (p.1, V.int ((p.2 : Nat) : Int))
theorem mark_kn {B : Shp} {z : Str} (h : z ∈ markList B) : z ∈ knB B := by
  unfold markList at h
  obtain ⟨k, hk, rfl⟩ := List.mem_map.mp h
  exact List.mem_map_of_mem (List.mem_filter.mp hk).1
/-- the ranks are a paper -/
theorem rk_paper {B : Shp} (hB : B.Ok) {ck : List Str} {l : List (Str × Nat)} (h : ranksL (tightL B ck) (tightE B ck) = some l) : paperOk B ck (rkP l) = true := by
  obtain ⟨g, rfl, h1, h2⟩ := rk_form hB h
  have keys : (rkP ((tightL B ck).map fun k => (k, g k))).map (·.1) = tightL B ck := by
    unfold rkP
    rw [List.map_map, List.map_map]
    exact List.map_id _
  have tab : tabP (rkP ((tightL B ck).map fun k => (k, g k))) = tabV (tightL B ck) g := by
    unfold tabP rkP tabV
    rw [List.map_map, List.map_map]
    rfl
  unfold paperOk goodP
  rw [keys, decide_eq_true (tight_nd hB ck), Bool.true_and, Bool.and_eq_true, Bool.and_eq_true]
  refine ⟨List.all_eq_true.mpr fun p hp => ?_, List.all_eq_true.mpr fun k hk => decide_eq_true hk, List.all_eq_true.mpr fun e he => ?_⟩
  · have hk : p.1 ∈ tightL B ck := by
      rw [← keys]
      exact List.mem_map_of_mem hp
    unfold rkP at hp
    obtain ⟨q, hq, rfl⟩ := List.mem_map.mp hp
    rw [Bool.and_eq_true]
    exact ⟨decide_eq_true (mark_kn (List.mem_filter.mp hk).1), decide_eq_true (show (0 : Int) ≤ ((q.2 : Nat) : Int) from Int.natCast_nonneg _)⟩
  · obtain ⟨m1, m2⟩ := tightE_mem he
    unfold gtTie numAt
    rw [tab, tabV_val m1, tabV_val m2]
    exact decide_eq_true (Int.ofNat_lt.mpr (h2 e he))
section
variable {P : Program} {w : World} {K : PySem.W.Frag} {mg : Str → Option Value} {base : Heap}
theorem ranksL_or {K' : PySem.W.Frag} {S L b : Addr} {H : Hp} {B : Shp} {ck : List Str} {E : XK} {σ : L2.St} {Q : V → Hp → Prop} (hs : ShpAt S L H b B ck) (hB : B.Ok)
    (q : ∀ (H' : Hp) (p : Addr) (xs : List V) (l : List (Str × Nat)), H' p = some (.lst xs) → TupsAt H' xs (l.map rkV) → (l = [] ∨ ranksL (tightL B ck) (tightE B ck) = some l) → Same H H' → Q (.ref p) H') :
    spRanksL [.ref b] H (fun x H1 => ∃ k, TruV K' x H1 k ∧ if k = true then Q x H1 else tLst tNil σ H1 Q) E := by
  refine ⟨S, L, b, B, ck, rfl, hs, hB, ?_⟩
  cases hR : ranksL (tightL B ck) (tightE B ck) with
  | none =>
    intro H' s1
    exact ⟨false, rfl, iteF ⟨Nat.zero_le _, fun p hp => q _ p [] [] upd_same .nil (.inl rfl) (s1.trans (same_new hp))⟩⟩
  | some l =>
    intro H' p xs hp h ht s1
    refine ⟨!xs.isEmpty, .inl ⟨xs, .inl (.inl h), rfl⟩, ?_⟩
    refine ite2 (fun e => q _ p xs l h ht (.inr hR) s1) (fun e => ?_)
    exact ⟨Nat.zero_le _, fun p hp => q _ p [] [] upd_same .nil (.inl rfl) (s1.trans (same_new hp))⟩
theorem rk_prs {l : List (Str × Nat)} {H : Hp} {xs : List V} (h : TupsAt H xs (l.map rkV)) : TupsAt H xs ((rkP l).map prV) := by
  unfold rkP
  rw [List.map_map]
  exact h
theorem intV_eq (a b : Int) : decide (V.int a = V.int b) = decide (a = b) := decide_eq_decide.mpr ⟨V.int.inj, fun e => by rw [e]⟩
theorem ValAt.old {S L : Addr} {H H' : Hp} {v : V} {n : Nat} (h : ValAt H v) (st : Stm H S L n) (od : Old S L H H') : ValAt H' v := by
  rcases h with h | h | h | h | ⟨t, e, h⟩
  · exact .inl h
  · exact .inr (.inl h)
  · exact .inr (.inr (.inl h))
  · exact .inr (.inr (.inr (.inl h)))
  · exact .inr (.inr (.inr (.inr ⟨t, e, TK.old st od _ _ h⟩)))
theorem ValAt.tk {H H' : Hp} {v : V} (h : ValAt H v) (k : TK H H') : ValAt H' v := by
  rcases h with h | h | h | h | ⟨t, e, h⟩
  · exact .inl h
  · exact .inr (.inl h)
  · exact .inr (.inr (.inl h))
  · exact .inr (.inr (.inr (.inl h)))
  · exact .inr (.inr (.inr (.inr ⟨t, e, k _ _ h⟩)))
theorem rk_get {l : List (Str × Nat)} {z : Str} {v : V} (h : valV (tabP (rkP l)) (Sum.inr z) = some v) (b : ∀ p ∈ l, p.2 ≤ 24) : ∃ m : Nat, v = .int (m : Int) ∧ m ≤ 24 := by
  induction l with
  | nil => cases h
  | cons p l ih =>
    rw [show tabP (rkP (p :: l)) = (Sum.inr p.1, V.int ((p.2 : Nat) : Int)) :: tabP (rkP l) from rfl] at h
    by_cases e : p.1 = z
    · rw [valV_pos (by rw [e])] at h
      cases h
      exact ⟨_, rfl, b p (.head _)⟩
    · rw [valV_neg (fun h => e (Sum.inr.inj h))] at h
      exact ih h (fun p hp => b p (.tail _ hp))
theorem PairAt.old {S L : Addr} {H H' : Hp} {v : V} {p : Str × V} {n : Nat} (h : PairAt H v p) (st : Stm H S L n) (od : Old S L H H') : PairAt H' v p := by
  obtain ⟨t, e, h⟩ := h
  obtain ⟨ns, d, c, k, g1, g2, _⟩ := st
  have a : t ≠ S := by
    rintro rfl
    rcases h with h | h
    · rw [h] at g1
      cases g1
    · rw [h] at g1
      cases g1
  have b : t ≠ L := by
    rintro rfl
    rcases h with h | h
    · rw [h] at g2
      cases g2
    · rw [h] at g2
      have g3 := HO.lst.inj (Option.some.inj g2)
      cases ns with
      | nil => cases g3
      | cons a ns =>
        rw [List.map_cons] at g3
        cases (List.cons.inj g3).1
  exact ⟨t, e, h.elim (fun h => .inl (od _ _ a b h)) (fun h => .inr (od _ _ a b h))⟩
theorem PairsAt.old {S L : Addr} {H H' : Hp} {n : Nat} (st : Stm H S L n) (od : Old S L H H') : ∀ {xs : List V} {ps : List (Str × V)}, PairsAt H xs ps → PairsAt H' xs ps
  | _, _, .nil => .nil
  | _, _, .cons r t => .cons (r.old st od) (PairsAt.old st od t)
/-- a pair beside the stream, its cells and a list -/
def PrN (S L D : Addr) (H : Hp) (v : V) (p : Str × V) : Prop := ∃ t, v = .ref t ∧ t ≠ S ∧ t ≠ L ∧ t ≠ D ∧ (H t = some (.tup [.str p.1, p.2]) ∨ H t = some (.lst [.str p.1, p.2]))
theorem PrN.to {S L D : Addr} {H H' : Hp} {v : V} {p : Str × V} (h : PrN S L D H v p) (k : ∀ t o, t ≠ S → t ≠ L → t ≠ D → H t = some o → H' t = some o) : PrN S L D H' v p := by
  obtain ⟨t, e, a, b, c, h⟩ := h
  exact ⟨t, e, a, b, c, h.elim (fun h => .inl (k _ _ a b c h)) (fun h => .inr (k _ _ a b c h))⟩
theorem prs_to {S L D : Addr} {H H' : Hp} (k : ∀ t o, t ≠ S → t ≠ L → t ≠ D → H t = some o → H' t = some o) : ∀ {xs : List V} {ps : List (Str × V)}, Paired (PrN S L D H) xs ps → Paired (PrN S L D H') xs ps
  | _, _, .nil => .nil
  | _, _, .cons r t => .cons (r.to k) (prs_to k t)
theorem prs_snoc {S L D : Addr} {H : Hp} {v : V} {p : Str × V} : ∀ {xs : List V} {ps : List (Str × V)}, Paired (PrN S L D H) xs ps → PrN S L D H v p → Paired (PrN S L D H) (xs ++ [v]) (ps ++ [p])
  | _, _, .nil, r => .cons r .nil
  | _, _, .cons a t, r => .cons a (prs_snoc t r)
theorem prs_pairs {S L D : Addr} {H : Hp} : ∀ {xs : List V} {ps : List (Str × V)}, Paired (PrN S L D H) xs ps → PairsAt H xs ps
  | _, _, .nil => .nil
  | _, _, .cons ⟨t, e, _, _, _, h⟩ r => .cons ⟨t, e, h⟩ (prs_pairs r)
/-! ### _law_pairs -/
abbrev s__law_pairs : Stmt := topS 75
theorem sc__law_pairs : FnScope ["_law_stream", "_law_b", "_law_told", "_law_found", "_law_kind", "_law_is_open", "_law_way", "_law_number", "_law_pair"] ["_law_stream", "_law_b"] (defScope s__law_pairs) := ⟨rfl, rfl, rfl, by decide +kernel, rfl, by decide +kernel, by decide +kernel⟩
abbrev N__law_pairs : List Str := ["_law_stream", "_law_b", "_law_told", "_law_found", "_law_kind", "_law_is_open", "_law_way", "_law_number", "_law_pair"]
def spPairs (K : PySem.W.Frag) : Sp := fun vs H Q _ => ∃ (S L b : Addr) (n : Nat) (B : Shp) (ck : List Str), vs = [.ref S, .ref b] ∧ Stm H S L n ∧ n ≤ 9900000 ∧ ShpAt S L H b B ck ∧ B.Ok ∧
  ∀ (H' : Hp) (pp : Addr) (xs : List V) (ps : List (Str × V)), H' pp = some (.lst xs) → (pp ≠ S ∧ pp ≠ L) → PairsAt H' xs ps → ps.length ≤ 10 → (∀ p ∈ ps, okB 100 p.1 = true ∧ ValAt H' p.2) → Stm H' S L (n + 30) → Old S L H H' → Q (.ref pp) H'
theorem ok_pairs {f : Addr} {fd : FuncData} (F : Fun K "_law_pairs" "_law_pairs" s__law_pairs f fd) (T : Bt mg) (T4 : Bt4 mg) (O__law_draw : Own P w K mg base CX0 1 "_law_draw" ["_law_stream", "_law_many"] spDraw) (O__law_pick : Own P w K mg base CX0 2 "_law_pick" ["_law_stream", "_law_things"] (spPick K)) (O__law_mixed : Own P w K mg base CX0 2 "_law_mixed" ["_law_stream", "_law_things"] (spMixed K)) (O__law_ranks : Own P w K mg base CX0 4 "_law_ranks" ["_law_b"] spRanksL) : FnOk P w K mg base CX0 5 f fd ["_law_stream", "_law_b"] (spPairs K) := by
  refine F.ok sc__law_pairs (fun vs H Q E h => ?_) (fun cdv A outer s H vs Q E hr h => ?_)
  · obtain ⟨S, L, b, n, B, ck, rfl, _⟩ := h
    rfl
  · obtain ⟨S, L, b, n, B, ck, rfl, st, hn, hs, hB, q⟩ := h
    have hu := hu_of hr
    refine ⟨_, (pss_cons (ps_par (i := 2) (j := 3) (by rfl) sc__law_pairs.nd rfl rfl (by decide) rfl rfl (pa_cons (pe_callTy (call_dictP rfl) (by rfl) T.m_dict (by decide +kernel) (pa_cons (pe_orT (own_call O__law_ranks hr (by first | decide | omega) (pa_cons (pv 1) pa_nil)) (pe_one (pe_lst pa_nil))) pa_nil)) (pa_cons (pe_lst pa_nil) pa_nil)) (by rfl))
      (pss_cons (ps_for PassesOwn.never rfl (pi_list (own_call O__law_mixed hr (by first | decide | omega) (pa_cons (pv 0) (pa_cons (pe_dget hu (pv 1) pe_str (fun _ _ => rfl)) pa_nil)))) (pg_tup rfl (pgs_cons (pg_name (i := 4) sc__law_pairs.nd rfl (Or.inl rfl)) (pgs_cons (pg_name (i := 5) sc__law_pairs.nd rfl (Or.inl rfl)) pgs_nil))) (pss_cons (ps_set (i := 6) sc__law_pairs.nd rfl (Or.inl rfl) (own_call O__law_draw hr (by first | decide | omega) (pa_cons (pv 0) (pa_cons pe_int pa_nil))))
      (pss_cons (ps_set (i := 7) sc__law_pairs.nd rfl (Or.inl rfl) (pe_op op_add (pe_op op_mul (pe_dget2 hu (pv 2) (pv 4) (own_call O__law_draw hr (by first | decide | omega) (pa_cons (pv 0) (pa_cons pe_int pa_nil))) ⟨rfl, by rfl, by rfl, by rfl⟩) pe_int) (pe_op op_mul (pe_op op_pow pe_int pe_int) (pe_callTy call_int1 (by rfl) T.m_int (by decide +kernel) (pa_cons (pe_cmpR op_eq (pv 6) pe_int (nomark _)) pa_nil)))))
      (pss_cons (ps_if (pt_cmpR op_eq (pv 6) pe_int (nomark _)) (pss_one (ps_set (i := 7) sc__law_pairs.nd rfl (Or.inl rfl) (own_call O__law_pick hr (by first | decide | omega) (pa_cons (pv 0) (pa_cons (pe_lst (pa_cons (pe_un un_neg pe_int) (pa_cons pe_bl (pa_cons pe_non (pa_cons pe_str (pa_cons (pe_tup (pa_cons pe_int pa_nil)) (pa_cons pe_int pa_nil))))))) pa_nil))))) pss_nil)
      (pss_one (ps_if (PW.pt (pw_or (pt_cmpR op_lt (pv 6) pe_int (nomark _)) (pw_or1 (PW.pt (pw_and (pt_cmp (pc_din hu (pv 4) (pv 2))) (pw_and1 (pt_cmpR op_eq (pv 6) pe_int (nomark _)))))))) (pss_one (ps_expr (pe_bm PySem.F.plainAttrs_list PySem.F.slot_list_append PySem.F.type_list_append mt_append (pv 3) (pa_cons (pe_tup (pa_cons (pv 4) (pa_cons (pv 7) pa_nil))) pa_nil)))) pss_nil))))))
      (pss_cons (ps_if (pt_cmpR op_eq (own_call O__law_draw hr (by first | decide | omega) (pa_cons (pv 0) (pa_cons pe_int pa_nil))) pe_int (nomark _)) (pss_one (ps_expr (pe_bm PySem.F.plainAttrs_list PySem.F.slot_list_append PySem.F.type_list_append mt_append (pv 3) (pa_cons (pe_tup (pa_cons (own_call O__law_pick hr (by first | decide | omega) (pa_cons (pv 0) (pa_cons (pe_lst (pa_cons (pe_ix (ixT K) (pe_ix (ixL K) (pe_dget hu (pv 1) pe_str (fun _ _ => rfl)) pe_int (fun _ _ => rfl)) pe_int (fun _ _ => rfl)) (pa_cons (pe_ix (ixT K) (pe_ix (ixL K) (pe_dget hu (pv 1) pe_str (fun _ _ => rfl)) pe_int (fun _ _ => rfl)) pe_int (fun _ _ => rfl)) (pa_cons pe_str pa_nil)))) pa_nil))) (pa_cons pe_int pa_nil))) pa_nil)))) pss_nil)
      (pss_one (ps_ret (pe_lc (own := [("_law_pair", 8)]) (g := gName 8) (by rfl) sc__law_pairs.nd (pi_list (pv 3)) (blkOk_by (own := [("_law_pair", 8)]) (N := N__law_pairs) (sc := defScope s__law_pairs) (by decide +kernel)) (fun _ _ _ _ _ => (pg_name (i := 8) sc__law_pairs.nd rfl (Or.inl rfl) (Or.inr rfl))) (fun _ _ _ _ _ => pts_nil) (fun _ _ _ _ _ => (pe_ifExp (pt_cmpR op_eq (own_call O__law_draw hr (by first | decide | omega) (pa_cons (pv 0) (pa_cons pe_int pa_nil))) pe_int (nomark _)) (pe_callTy (list_of K) (by rfl) T.m_list (by decide +kernel) (pa_cons (pv 8) pa_nil)) (pv 8))))))))), ?_⟩
    walk_at "ls"
    refine ranksL_or (E := E0) hs hB (fun H1 p xs l hp ht hl s1 => ?_)
    obtain ⟨as, rfl, has⟩ := pr_tups (K := K) (rk_prs ht)
    walk_at "ls"
    refine ⟨p, as, _, rfl, .inl (.inl hp), has, fun td htd => ?_⟩
    have bl : l.length ≤ 3 ∧ (∀ p ∈ l, p.2 ≤ 24) ∧ (l.map (·.1)).Nodup := by
      rcases hl with rfl | hl
      · exact ⟨by decide, (fun _ h => nomatch h), .nil⟩
      · obtain ⟨h1, h2, h3⟩ := rk_small hB hl
        exact ⟨h1, fun p hp => (h2 p hp).2, by rw [h3]; exact tight_nd hB ck⟩
    obtain ⟨ll, lb, ln⟩ := bl
    rw [merge_nd (tabP_nd (by unfold rkP; rw [List.map_map]; exact ln))]
    have s2 := s1.trans (same_new (o := .dK (tabP (rkP l))) htd)
    have h2d := upd_same (H := H1) (a := td) (o := .dK (tabP (rkP l)))
    generalize upd H1 td (.dK (tabP (rkP l))) = H2 at *
    clear htd hp ht has s1
    walk_at "ls"
    refine ⟨Nat.zero_le _, fun fd hfd => ⟨_, _, rfl, ?_⟩⟩
    have s3 := s2.trans (same_new (o := .lst []) hfd)
    have hfd0 : H fd = none := s2.free hfd
    have h3d := same_new (o := .lst []) hfd _ _ h2d
    have h3f := upd_same (H := H2) (a := fd) (o := .lst [])
    have nfS : fd ≠ S ∧ fd ≠ L := by
      obtain ⟨_, _, _, _, g1, g2, _⟩ := st
      exact ⟨(ne_of_none (s2 _ _ g1) hfd).symm, (ne_of_none (s2 _ _ g2) hfd).symm⟩
    generalize upd H2 fd (.lst []) = H3 at *
    have st3 := st.keep s3
    have hs3 := hs.same s3
    clear s2 h2d hfd
    obtain ⟨ka, ca, ea, kx, cx, hb, hk, hkt, hc, hct, he, n1, n2, n3⟩ := id hs3
    have lkx : kx.length = B.ks.length := by rw [hkt.len, List.length_map]
    have bk3 := hB.nk3
    walk_at "ls"
    refine ⟨b, _, rfl, dg_kinds hb, ?_⟩
    refine ⟨S, L, ka, n, kx, rfl, st3, by omega, .inl (.inl hk), by omega, fun H4 p ys hp4 hperm h4 np4 st4 od4 => ?_⟩
    refine ⟨p, rfl, ⟨_, .inl (.inl h4)⟩, ?_⟩
    have hk4 := hkt.keep (.old st3 od4)
    have lys := hperm.length_eq
    have h4d : H4 td = some (.dK (tabP (rkP l))) := by
      obtain ⟨_, _, _, _, g1, g2, _⟩ := id st3
      exact od4 _ _ (ne_of h3d g1 fun z => nomatch z) (ne_of h3d g2 fun z => nomatch z) h3d
    have h4f := od4 _ _ nfS.1 nfS.2 h3f
    have hs4 := hs3.old st3 od4
    have ofS : Old S L H H4 := (Old.same s3).trans od4
    refine for_it (walk_list (xs := ys)) (fun i σ H5 => ∃ (v4 v5 v6 v7 : Option V) (xs : List V) (ps : List (Str × V)), σ = [some (.ref S), some (.ref b), some (.ref td), some (.ref fd), v4, v5, v6, v7, none] ∧ H5 fd = some (.lst xs) ∧ TupsAt H5 xs (ps.map prV) ∧ ps.length ≤ i ∧ (∀ p ∈ ps, okB 100 p.1 = true ∧ ValAt H5 p.2) ∧ Stm H5 S L (n + 3 + 3 * i) ∧ (∀ a o, H4 a = some o → a ≠ S → a ≠ L → a ≠ fd → H5 a = some o) ∧ Old S L H H5)
      ⟨none, none, none, none, [], [], rfl, h4f, .nil, Nat.le_refl _, (fun _ h => nomatch h), st4.mono (by omega), (fun a o h _ _ _ => h), ofS⟩ (fun i σ H5 _ ⟨_, _, _, _, _, _, _, h5f, _, _, _, _, k5, _⟩ => .inl (.inl (k5 _ _ h4 np4.1 np4.2 ?_))) ?_ ?_
    · exact (ne_of_none h3f hp4).symm
    · rintro i y σ Hy H5 hi ⟨v4, v5, v6, v7, xs, ps, rfl, h5f, h5t, lps, hv, st5, k5, od5⟩ ⟨rfl, hy⟩
      have hym : y ∈ kx := hperm.mem_iff.mp (List.mem_of_getElem? hy)
      obtain ⟨iy, hiy⟩ := List.getElem?_of_mem hym
      obtain ⟨zs, hzs, t, rfl, ht⟩ := TupsAt.get hk4 hiy
      obtain ⟨kd, hkd, rfl⟩ := map_get hzs
      have nkd : Nm kd.1 := hB.nm _ (List.mem_append_left _ (List.mem_map_of_mem (List.mem_of_getElem? hkd)))
      have tS : ∀ {t : Addr} {ys : List V}, H4 t = some (.tup ys) → t ≠ S ∧ t ≠ L ∧ t ≠ fd := fun {t ys} h => by
        obtain ⟨_, _, _, _, g1, g2, _⟩ := id st4
        exact ⟨ne_of h g1 (fun z => nomatch z), ne_of h g2 (fun z => nomatch z), ne_of h h4f (fun z => nomatch z)⟩
      have dS : td ≠ S ∧ td ≠ L ∧ td ≠ fd := by
        obtain ⟨_, _, _, _, g1, g2, _⟩ := id st4
        exact ⟨ne_of h4d g1 (fun z => nomatch z), ne_of h4d g2 (fun z => nomatch z), ne_of h4d h4f (fun z => nomatch z)⟩
      have ht5 := k5 _ _ ht (tS ht).1 (tS ht).2.1 (tS ht).2.2
      have bi : i < 3 := by omega
      refine ⟨t, _, rfl, .inl (.inl ht5), rfl, _, _, rfl, _, _, rfl, rfl, ?_⟩
      walk_at "ls"
      refine ⟨S, L, _, _, rfl, st5, by omega, by decide, by decide, fun H6 r r0 r1 st6 od6 => ?_⟩
      have h5d := k5 _ _ h4d dS.1 dS.2.1 dS.2.2
      have h6d := od6 _ _ dS.1 dS.2.1 h5d
      walk_at "ls"
      refine ⟨.inl ⟨_, .inl h6d⟩, ?_⟩
      walk_at "ls"
      refine ⟨S, L, _, _, rfl, st6, by omega, by decide, by decide, fun H7 r2 r20 r21 st7 od7 => ?_⟩
      have h7d := od7 _ _ dS.1 dS.2.1 h6d
      refine ⟨_, DGet.k (k := .inr kd.1) h7d, ?_⟩
      obtain ⟨m, em, bm⟩ : ∃ m : Nat, (valV (tabP (rkP l)) (Sum.inr kd.1)).getD (.int r2) = .int (m : Int) ∧ m ≤ 24 := by
        cases hv : valV (tabP (rkP l)) (Sum.inr kd.1) with
        | none => exact ⟨r2.toNat, by show V.int r2 = _; rw [Int.toNat_of_nonneg r20], by omega⟩
        | some v => exact rk_get hv lb
      rw [em]
      clear em
      walk_at "ls"
      refine ⟨.inr ⟨by decide, by decide⟩, ?_⟩
      walk_at "ls"
      refine ⟨⟨by decide, by decide, by decide⟩, ?_⟩
      walk_at "ls"
      refine ⟨rfl, ?_⟩
      refine .inr ⟨_, rfl, ?_⟩
      rw [intV_eq]
      refine ⟨_, _, rfl, rfl, .inr (by cases decide (r = 5) <;> exact ⟨by decide, by decide⟩), ?_⟩
      refine ⟨_, _, rfl, rfl, ?_⟩
      obtain ⟨N, hN, N0, N1⟩ : ∃ N : Int, (m : Int) * 2 + 10 ^ (29 : Int).toNat * (if decide (r = 5) = true then 1 else 0) = N ∧ -1 ≤ N ∧ N < 10 ^ 30 := by
        refine ⟨_, rfl, ?_⟩
        rw [show (10 : Int) ^ (29 : Int).toNat = 100000000000000000000000000000 by decide, show (10 : Int) ^ 30 = 1000000000000000000000000000000 by decide]
        cases decide (r = 5)
        · rw [if_neg (by decide)]
          omega
        · rw [if_pos rfl]
          omega
      simp only []
      rw [hN]
      clear hN
      walk_at "ls"
      have k7 : ∀ a o, H4 a = some o → a ≠ S → a ≠ L → a ≠ fd → H7 a = some o := fun a o h x y z => od7 _ _ x y (od6 _ _ x y (k5 a o h x y z))
      have h7f := od7 _ _ nfS.1 nfS.2 (od6 _ _ nfS.1 nfS.2 h5f)
      have h7t := (h5t.keep (.old st5 od6)).keep (.old st6 od7)
      have hv7 : ∀ p ∈ ps, okB 100 p.1 = true ∧ ValAt H7 p.2 := fun p hp => ⟨(hv p hp).1, ((hv p hp).2.old st5 od6).old st6 od7⟩
      have od57 := od5.trans (od6.trans od7)
      clear h5f h5t hv k5 od5 od6 od7 st5 st6 h5d h6d ht5
      refine ite2 (fun e => ?_) (fun e => ?_)
      rotate_left
      obtain ⟨vn, hvn, en⟩ : ∃ vn : V, ValAt H7 vn ∧ V.int N = vn := ⟨_, .inl ⟨N, rfl, N0, N1⟩, rfl⟩
      rw [en]
      have st8 : Stm H7 S L (n + 3 + 3 * i + 1 + 1 + 1) := st7.mono (by omega)
      clear st7 en
      generalize H7 = H8 at *
      rotate_left
      walk_at "ls"
      refine ⟨(by show 1 ≤ sizeLine; decide), fun p1 hp1 => ?_⟩
      refine ⟨(by show 6 ≤ sizeLine; decide), fun p2 hp2 => ?_⟩
      have s78 : Same H7 (upd (upd H7 p1 (.tup [.int 1])) p2 (.lst [.int (-1), .bl true, .non, .str "1", .ref p1, .int 0])) := (same_new hp1).trans (same_new hp2)
      have g2 : (upd (upd H7 p1 (.tup [.int 1])) p2 (.lst [.int (-1), .bl true, .non, .str "1", .ref p1, .int 0])) p2 = some (.lst [.int (-1), .bl true, .non, .str "1", .ref p1, .int 0]) := upd_same
      have g1 : (upd (upd H7 p1 (.tup [.int 1])) p2 (.lst [.int (-1), .bl true, .non, .str "1", .ref p1, .int 0])) p1 = some (.tup [.int 1]) := by rw [upd_ne (ne_of_none upd_same hp2), upd_same]
      have nw : p2 ≠ S ∧ p2 ≠ L := by
        obtain ⟨_, _, _, _, a1, a2, _⟩ := id (st7.keep (same_new (o := .tup [.int 1]) hp1))
        exact ⟨(ne_of_none a1 hp2).symm, (ne_of_none a2 hp2).symm⟩
      have st7b := st7.keep s78
      have h7f2 := s78 _ _ h7f
      have h7d2 := s78 _ _ h7d
      have h7t2 := h7t.keep (.same s78)
      have hv72 : ∀ p ∈ ps, okB 100 p.1 = true ∧ ValAt _ p.2 := fun p hp => ⟨(hv7 p hp).1, (hv7 p hp).2.same s78⟩
      have k72 : ∀ a o, H4 a = some o → a ≠ S → a ≠ L → a ≠ fd → _ = some o := fun a o h x y z => s78 _ _ (k7 a o h x y z)
      have od72 := od57.trans (.same s78)
      generalize upd (upd H7 p1 (.tup [.int 1])) p2 (.lst [.int (-1), .bl true, .non, .str "1", .ref p1, .int 0]) = H7b at *
      refine ⟨S, L, p2, _, _, rfl, st7b, by omega, .inl (.inl g2), nw.1, nw.2, (by show 0 < 6; decide), (by show 6 ≤ 1000000; decide), fun H8 vn hm st8 od8 => ?_⟩
      have hvn : ValAt H8 vn := by
        have g1b := TK.old st7b od8 _ _ g1
        simp only [List.mem_cons, List.not_mem_nil, or_false] at hm
        rcases hm with rfl | rfl | rfl | rfl | rfl | rfl
        · exact .inl ⟨-1, rfl, by decide, by decide⟩
        · exact .inr (.inl rfl)
        · exact .inr (.inr (.inl rfl))
        · exact .inr (.inr (.inr (.inl rfl)))
        · exact .inr (.inr (.inr (.inr ⟨p1, rfl, g1b⟩)))
        · exact .inl ⟨0, rfl, by decide, by decide⟩
      replace h7f := od8 _ _ nfS.1 nfS.2 h7f2
      replace h7d := od8 _ _ dS.1 dS.2.1 h7d2
      replace h7t := h7t2.keep (.old st7b od8)
      replace hv7 : ∀ p ∈ ps, okB 100 p.1 = true ∧ ValAt H8 p.2 := fun p hp => ⟨(hv72 p hp).1, (hv72 p hp).2.old st7b od8⟩
      replace k7 : ∀ a o, H4 a = some o → a ≠ S → a ≠ L → a ≠ fd → H8 a = some o := fun a o h x y z => od8 _ _ x y (k72 a o h x y z)
      replace od57 := od72.trans od8
      clear hv72 h7t2 h7f2 h7d2 od8 st7b hm g1 g2 nw s78 k72 od72 hp1 hp2 st7
      all_goals
        have ap : ∀ tp : Addr, H8 tp = none → ∀ (w4 w5 w6 w7 : Option V), ∃ (v4 v5 v6 v7 : Option V) (xs' : List V) (ps' : List (Str × V)), [some (V.ref S), some (.ref b), some (.ref td), some (.ref fd), w4, w5, w6, w7, none] = [some (.ref S), some (.ref b), some (.ref td), some (.ref fd), v4, v5, v6, v7, none] ∧ (upd (upd H8 tp (.tup [.str kd.1, vn])) fd (.lst (xs ++ [.ref tp]))) fd = some (.lst xs') ∧ TupsAt (upd (upd H8 tp (.tup [.str kd.1, vn])) fd (.lst (xs ++ [.ref tp]))) xs' (ps'.map prV) ∧ ps'.length ≤ i + 1 ∧ (∀ p ∈ ps', okB 100 p.1 = true ∧ ValAt (upd (upd H8 tp (.tup [.str kd.1, vn])) fd (.lst (xs ++ [.ref tp]))) p.2) ∧ Stm (upd (upd H8 tp (.tup [.str kd.1, vn])) fd (.lst (xs ++ [.ref tp]))) S L (n + 3 + 3 * (i + 1)) ∧ (∀ a o, H4 a = some o → a ≠ S → a ≠ L → a ≠ fd → (upd (upd H8 tp (.tup [.str kd.1, vn])) fd (.lst (xs ++ [.ref tp]))) a = some o) ∧ Old S L H (upd (upd H8 tp (.tup [.str kd.1, vn])) fd (.lst (xs ++ [.ref tp]))) := by
          intro tp htp w4 w5 w6 w7
          have sn := same_new (o := .tup [.str kd.1, vn]) htp
          have h9f := sn _ _ h7f
          have nft : fd ≠ tp := ne_of_none h7f htp
          have tkk : TK H8 (upd (upd H8 tp (.tup [.str kd.1, vn])) fd (.lst (xs ++ [.ref tp]))) := (TK.same sn).trans (.lst h9f)
          refine ⟨w4, w5, w6, w7, xs ++ [.ref tp], ps ++ [(kd.1, vn)], rfl, upd_same, ?_, ?_, ?_, ?_, ?_, ?_⟩
          · rw [List.map_append]
            exact (h7t.keep tkk).snoc ⟨tp, rfl, by rw [upd_ne nft.symm, upd_same]; rfl⟩
          · rw [List.length_append]
            show ps.length + 1 ≤ i + 1
            omega
          · intro p hp
            rcases List.mem_append.mp hp with hp | hp
            · exact ⟨(hv7 p hp).1, (hv7 p hp).2.tk tkk⟩
            · cases List.mem_singleton.mp hp
              exact ⟨nm_ok nkd |> okB_mono <| by decide, hvn.tk tkk⟩
          · exact ((Stm.mono st8 (m := n + 3 + 3 * (i + 1)) (by omega)).keep sn).upd nfS.1 nfS.2
          · intro a o h x y z
            rw [upd_ne z]
            exact sn _ _ (k7 a o h x y z)
          · exact (od57.trans (.same sn)).set (hfd0)
        walk_at "ls"
      all_goals
        refine ite2 (fun e => ?_) (fun e => ?_)
        · walk_at "ls"
          refine ⟨(by show 2 ≤ sizeLine; decide), fun tp htp => ?_⟩
          refine ⟨fd, xs, .ref tp, rfl, rfl, same_new htp _ _ h7f, small1000 (by rw [h7t.len, List.length_map]; omega), ?_⟩
          exact ap tp htp _ _ _ _
        · walk_at "ls"
          refine ⟨td, _, rfl, DGet.k (k := .inr kd.1) h7d, _, rfl, ?_⟩
          refine ite2 (fun e => ?_) (fun e => ?_)
          · walk_at "ls"
            refine ite2 (fun e => ?_) (fun e => ?_)
            · walk_at "ls"
              refine ⟨(by show 2 ≤ sizeLine; decide), fun tp htp => ?_⟩
              refine ⟨fd, xs, .ref tp, rfl, rfl, same_new htp _ _ h7f, small1000 (by rw [h7t.len, List.length_map]; omega), ?_⟩
              exact ap tp htp _ _ _ _
            · exact ⟨_, _, _, _, xs, ps, rfl, h7f, h7t, by omega, hv7, st8.mono (by omega), k7, od57⟩
          · exact ⟨_, _, _, _, xs, ps, rfl, h7f, h7t, by omega, hv7, st8.mono (by omega), k7, od57⟩
    · rintro σ H5 ⟨v4, v5, v6, v7, xs, ps, rfl, h5f, h5t, lps, hv, st5, k5, od5⟩
      walk_at "ls"
      refine ⟨S, L, _, _, rfl, st5, by omega, by decide, by decide, fun H6 r r0 r1 st6 od6 => ?_⟩
      have h6f := od6 _ _ nfS.1 nfS.2 h5f
      have h6t := h5t.keep (.old st5 od6)
      have hv6 : ∀ p ∈ ps, okB 100 p.1 = true ∧ ValAt H6 p.2 := fun p hp => ⟨(hv p hp).1, (hv p hp).2.old st5 od6⟩
      have od56 := od5.trans od6
      have hs6 := hs.old st od56
      clear h5f h5t hv k5 od5 od6 st5
      walk_at "ls"
      refine ite2 (fun e => ?_) (fun e => ?_)
      rotate_left
      obtain ⟨xs8, ps8, g9f, g9t, l9, g9v⟩ : ∃ (xs8 : List V) (ps8 : List (Str × V)), H6 fd = some (.lst xs8) ∧ TupsAt H6 xs8 (ps8.map prV) ∧ ps8.length ≤ 4 ∧ ∀ p ∈ ps8, okB 100 p.1 = true ∧ ValAt H6 p.2 := ⟨xs, ps, h6f, h6t, by omega, hv6⟩
      have st9 : Stm H6 S L (n + 3 + 3 * ys.length + 1 + 1) := st6.mono (by omega)
      have od9 := od56
      clear h6f h6t hv6 st6
      generalize H6 = H9 at *
      rotate_left
      obtain ⟨ka6, ca6, ea6, kx6, cx6, hb6, hk6, hkt6, hc6, hct6, he6, n16, n26, n36⟩ := id hs6
      obtain ⟨k0, hk0⟩ : ∃ k0, B.ks[0]? = some k0 := ⟨_, List.getElem?_eq_getElem hB.nk⟩
      obtain ⟨c0, hc0⟩ : ∃ c0, B.cs[0]? = some c0 := ⟨_, List.getElem?_eq_getElem hB.nc0⟩
      have lk6 : kx6.length = B.ks.length := by rw [hkt6.len, List.length_map]
      have lc6 : cx6.length = B.cs.length := by rw [hct6.len, List.length_map]
      have nk0 := hB.nk
      have nc0 := hB.nc0
      obtain ⟨zs, hzs, tk, ek, htk⟩ := TupsAt.get hkt6 (List.getElem?_eq_getElem (show 0 < kx6.length by omega))
      rw [List.getElem?_map, hk0] at hzs
      cases hzs
      obtain ⟨zs, hzs, tc, ec, htc⟩ := TupsAt.get hct6 (List.getElem?_eq_getElem (show 0 < cx6.length by omega))
      rw [List.getElem?_map, hc0] at hzs
      cases hzs
      have ik : kx6[0]? = some (.ref tk) := by rw [← ek]; exact List.getElem?_eq_getElem (show 0 < kx6.length by omega)
      have ic : cx6[0]? = some (.ref tc) := by rw [← ec]; exact List.getElem?_eq_getElem (show 0 < cx6.length by omega)
      walk_at "ls"
      refine ⟨b, _, rfl, dg_kinds hb6, ?_⟩
      walk_at "ls"
      refine ⟨ka6, kx6, 0, .ref tk, rfl, rfl, .inl (.inl hk6), atI_nat ik, ?_⟩
      walk_at "ls"
      refine ⟨b, _, rfl, dg_columns hb6, ?_⟩
      walk_at "ls"
      refine ⟨ca6, cx6, 0, .ref tc, rfl, rfl, .inl (.inl hc6), atI_nat ic, ?_⟩
      walk_at "ls"
      refine ⟨(by show 3 ≤ sizeLine; decide), fun p2 hp2 => ?_⟩
      have s67 := same_new (o := .lst [.str k0.1, .str c0.1, .str "zz"]) hp2
      have g2 := upd_same (H := H6) (a := p2) (o := .lst [.str k0.1, .str c0.1, .str "zz"])
      have nw := st6.noneS hp2
      have st7 := st6.keep s67
      have h7f := s67 _ _ h6f
      have h7t := h6t.keep (.same s67)
      have hv7 : ∀ p ∈ ps, okB 100 p.1 = true ∧ ValAt _ p.2 := fun p hp => ⟨(hv6 p hp).1, (hv6 p hp).2.same s67⟩
      have od7 := od56.trans (.same s67)
      generalize upd H6 p2 (.lst [.str k0.1, .str c0.1, .str "zz"]) = H7 at *
      walk_at "ls"
      refine ⟨S, L, p2, _, _, rfl, st7, by omega, .inl (.inl g2), nw.1, nw.2, (by show 0 < 3; decide), (by show 3 ≤ 1000000; decide), fun H8 vn hm st8 od8 => ?_⟩
      obtain ⟨z, hz, oz⟩ : ∃ z : Str, vn = .str z ∧ okB 100 z = true := by
        simp only [List.mem_cons, List.not_mem_nil, or_false] at hm
        rcases hm with rfl | rfl | rfl
        · exact ⟨_, rfl, okB_mono (nm_ok (hB.nm _ (List.mem_append_left _ (List.mem_map_of_mem (List.mem_of_getElem? hk0))))) (by decide)⟩
        · exact ⟨_, rfl, okB_mono (nm_ok (hB.nm _ (List.mem_append_right _ (List.mem_map_of_mem (List.mem_of_getElem? hc0))))) (by decide)⟩
        · exact ⟨_, rfl, by decide +kernel⟩
      subst hz
      have g8f := od8 _ _ nfS.1 nfS.2 h7f
      have g8t := h7t.keep (.old st7 od8)
      walk_at "ls"
      refine ⟨(by show 2 ≤ sizeLine; decide), fun tp htp => ?_⟩
      refine ⟨fd, xs, .ref tp, rfl, rfl, same_new htp _ _ g8f, small1000 (by rw [g8t.len, List.length_map]; omega), ?_⟩
      have sn := same_new (o := .tup [.str z, .int 7]) htp
      have h9f := sn _ _ g8f
      have nft : fd ≠ tp := ne_of_none g8f htp
      have tkk : TK H8 (upd (upd H8 tp (.tup [.str z, .int 7])) fd (.lst (xs ++ [.ref tp]))) := (TK.same sn).trans (.lst h9f)
      have g9f := upd_same (H := upd H8 tp (.tup [.str z, .int 7])) (a := fd) (o := .lst (xs ++ [.ref tp]))
      have g9t : TupsAt (upd (upd H8 tp (.tup [.str z, .int 7])) fd (.lst (xs ++ [.ref tp]))) (xs ++ [.ref tp]) ((ps ++ [(z, V.int 7)]).map prV) := by
        rw [List.map_append]
        exact (g8t.keep tkk).snoc ⟨tp, rfl, by rw [upd_ne nft.symm, upd_same]; rfl⟩
      have g9v : ∀ p ∈ ps ++ [(z, V.int 7)], okB 100 p.1 = true ∧ ValAt (upd (upd H8 tp (.tup [.str z, .int 7])) fd (.lst (xs ++ [.ref tp]))) p.2 := by
        intro p hp
        rcases List.mem_append.mp hp with hp | hp
        · exact ⟨(hv7 p hp).1, ((hv7 p hp).2.old st7 od8).tk tkk⟩
        · cases List.mem_singleton.mp hp
          exact ⟨oz, .inl ⟨7, rfl, by decide, by decide⟩⟩
      have st9 := (st8.keep sn).upd (o := .lst (xs ++ [.ref tp])) nfS.1 nfS.2
      have od9 := ((od7.trans od8).trans (.same sn)).set (o := .lst (xs ++ [.ref tp])) hfd0
      have l9 : (ps ++ [(z, V.int 7)]).length ≤ 4 := by
        rw [List.length_append]
        show ps.length + 1 ≤ 4
        omega
      clear sn tkk g8t g8f od8 st8 h7f h7t hv7 od7 st7 nw g2 s67 hp2 h6f h6t hv6 od56 st6 hs6
      generalize ps ++ [(z, V.int 7)] = ps8 at *
      generalize upd (upd H8 tp (.tup [.str z, .int 7])) fd (.lst (xs ++ [.ref tp])) = H9 at *
      generalize xs ++ [.ref tp] = xs8 at *
      all_goals
        have lx8 : xs8.length = ps8.length := by rw [g9t.len, List.length_map]
        have lz : xs8.length < sizeLine := Nat.lt_of_le_of_lt (show xs8.length ≤ 4 by omega) (by decide)
        walk_at "ls"
        refine ⟨⟨_, .inl (.inl g9f)⟩, fun D hD => ?_⟩
        have nDf : fd ≠ D := ne_of_none g9f hD
        have nwD := st9.noneS hD
        have hD0 := od9.none hD nwD
        refine lc_it (walk_list (xs := xs8)) (fun j Hj => ∃ ys' : List V, Hj D = some (.lst ys') ∧ Paired (PrN S L D Hj) ys' (ps8.take j) ∧ Hj fd = some (.lst xs8) ∧ TK H9 Hj ∧ Stm Hj S L (n + 3 + 3 * ys.length + 1 + 1 + j) ∧ Old S L H Hj) ⟨[], upd_same, .nil, by rw [upd_ne nDf]; exact g9f, .new hD, st9.keep (same_new hD), od9.trans (.new hD)⟩ (fun j Hj _ ⟨_, _, _, hf, _⟩ => .inl (.inl hf)) ?_ ?_
        · rintro j y Hy Hj hj ⟨ys', hjD, hjp, hjf, tkj, stj, odj⟩ ⟨rfl, hy⟩
          obtain ⟨zs, hzs, t, rfl, ht⟩ := TupsAt.get (g9t.keep tkj) hy
          obtain ⟨p8, hp8, rfl⟩ := map_get hzs
          refine ⟨rfl, ?_⟩
          walk_at "ls"
          refine ⟨S, L, _, _, rfl, stj, by omega, by decide, by decide, fun Hk r r0 r1 stk odk => ?_⟩
          have hkD := odk _ _ nwD.1 nwD.2 hjD
          have hkf := odk _ _ nfS.1 nfS.2 hjf
          have tkk := tkj.trans (.old stj odk)
          have hkp := prs_to (fun t o a b _ e => odk t o a b e) hjp
          have htk := TK.old stj odk _ _ ht
          have odk2 := odj.trans odk
          have lys : ys'.length ≤ 4 := by
            rw [hjp.length, List.length_take]
            omega
          have tn : t ≠ S ∧ t ≠ L ∧ t ≠ D := by
            obtain ⟨_, _, _, _, a1, a2, _⟩ := id stj
            exact ⟨ne_of ht a1 (fun z => nomatch z), ne_of ht a2 (fun z => nomatch z), ne_of ht hjD (fun z => nomatch z)⟩
          clear hjD hjf hjp stj odj odk tkj ht
          walk_at "ls"
          refine ite2 (fun e => ?_) (fun e => ?_)
          · walk_at "ls"
            refine ⟨t, _, rfl, .inr (.inl (.inl htk)), fun l2 hl2 => ?_⟩
            have sn := same_new (o := .lst (prV p8)) hl2
            have nDl : D ≠ l2 := ne_of_none hkD hl2
            have nl := stk.noneS hl2
            refine ⟨ys', sn _ _ hkD, small1000 (by omega), ys' ++ [.ref l2], upd_same, ?_, ?_, ?_, ?_, ?_⟩
            · rw [take_snoc hp8]
              refine prs_snoc (prs_to (fun t o a b c e => by rw [upd_ne c]; exact sn _ _ e) hkp) ⟨l2, rfl, nl.1, nl.2, nDl.symm, .inr ?_⟩
              rw [upd_ne nDl.symm, upd_same]
              rfl
            · rw [upd_ne nDf]
              exact sn _ _ hkf
            · exact tkk.trans ((TK.same sn).trans (.lst (sn _ _ hkD)))
            · exact (stk.keep sn).upd nwD.1 nwD.2
            · exact (odk2.trans (.same sn)).set hD0
          · walk_at "ls"
            refine ⟨ys', hkD, small1000 (by omega), ys' ++ [.ref t], upd_same, ?_, ?_, ?_, ?_, ?_⟩
            · rw [take_snoc hp8]
              refine prs_snoc (prs_to (fun t o a b c e => by rw [upd_ne c]; exact e) hkp) ⟨t, rfl, tn.1, tn.2.1, tn.2.2, .inl ?_⟩
              rw [upd_ne tn.2.2]
              exact htk
            · rw [upd_ne nDf]
              exact hkf
            · exact tkk.trans (.lst hkD)
            · exact stk.upd nwD.1 nwD.2
            · exact odk2.set hD0
        · rintro Hj ⟨ys', hjD, hjp, hjf, tkj, stj, odj⟩
          rw [lx8, List.take_length] at hjp
          exact q _ _ _ _ hjD nwD (prs_pairs hjp) (by omega) (fun p hp => ⟨(g9v p hp).1, (g9v p hp).2.tk tkj⟩) (stj.mono (by omega)) odj
end
end Ls
namespace Ls
open PySem PySem.Spec PyProof.Rows L2
/-! ### short steps -/
local macro_rules | `(tactic| walk_at "ls_ne") => `(tactic| first | assumption | exact Ne.symm (by assumption) | exact ne_of_none (by assumption) (by assumption) | exact Ne.symm (ne_of_none (by assumption) (by assumption)))
local macro_rules | `(tactic| walk_at "ls_hp") => `(tactic| first
  | with_reducible assumption
  | exact upd_same
  | exact Eq.trans (upd_ne (by walk_at "ls_ne")) (by walk_at "ls_hp"))
local macro_rules | `(tactic| walk_at "ls_st") => `(tactic| first
  | with_reducible assumption
  | exact Stm.upd (by walk_at "ls_st") (by first | walk_at "ls_ne" | exact (Stm.noneS (by assumption) (by assumption)).1) (by first | walk_at "ls_ne" | exact (Stm.noneS (by assumption) (by assumption)).2))
local macro_rules | `(tactic| walk_at "ls1") => `(tactic| first
  | refine ⟨_, rfl, ?_⟩
  | refine ⟨_, _, rfl, rfl, ?_⟩
  | refine ⟨_, _, _, _, rfl, rfl, .inl (.inl (by walk_at "ls_hp")), rfl, ?_⟩
  | refine ⟨_, _, _, _, rfl, rfl, (by walk_at "ls_hp"), rfl, ?_⟩
  | refine ⟨rfl, _, rfl, ?_⟩
  | refine ⟨.inl ⟨rfl, _, .inl (.inl (by walk_at "ls_hp"))⟩, ?_⟩)
local macro_rules | `(tactic| walk_at "ls") => `(tactic| repeat (walk_at "ls1"))

theorem BookU.old {C S L o : Addr} {n : Nat} {H H' : Hp} {ks : List (V × V)} {cs : List Col} {ck : List Str} (h : BookU C H o ks cs ck) (st : Stm H S L n) (od : Old S L H H') : BookU C H' o ks cs ck := by
  obtain ⟨d2, k, c, m, x, kx, cx, h1, h2, h3, h4, h5, h6, h7⟩ := h
  have tk := TK.old st od
  obtain ⟨ns, d, c', k', g1, g2, _⟩ := st
  exact ⟨d2, k, c, m, x, kx, cx, od _ _ (ne_of h1 g1 fun z => nomatch z) (ne_of h1 g2 fun z => nomatch z) h1, tk _ _ h2, h3.keep tk, tk _ _ h4, h5.keep tk, tk _ _ h6, tk _ _ h7⟩
theorem paper_congr {B : Shp} {ck ck' : List Str} (h : ∀ z, z ∈ ck ↔ z ∈ ck') (ps : List (Str × V)) : paperOk B ck ps = paperOk B ck' ps := by
  unfold paperOk
  rw [tightL_congr h, tightE_congr h]
theorem rk_pairs : ∀ {l : List (Str × Nat)} {H : Hp} {xs : List V}, TupsAt H xs (l.map rkV) → PairsAt H xs (rkP l)
  | [], _, [], _ => .nil
  | p :: l, _, x :: xs, h => by
    cases h with
    | cons h1 h2 =>
      obtain ⟨t, rfl, ht⟩ := h1
      exact .cons ⟨t, rfl, .inl ht⟩ (rk_pairs h2)
  | [], _, _ :: _, h => by cases h
  | _ :: _, _, [], h => by cases h
section
variable {P : Program} {w : World} {K : PySem.W.Frag} {mg : Str → Option Value} {base : Heap}
abbrev s_law : Stmt := topS 76
theorem sc_law : FnScope ["_law_script", "_law_stream", "_law_turn", "_law_b", "_law_book", "_law_due", "_law_k", "_law_paper", "_law_given"] ["_law_script"] (defScope s_law) := ⟨rfl, rfl, rfl, by decide +kernel, rfl, by decide +kernel, by decide +kernel⟩
abbrev N_law : List Str := ["_law_script", "_law_stream", "_law_turn", "_law_b", "_law_book", "_law_due", "_law_k", "_law_paper", "_law_given"]
def spLaw (K : PySem.W.Frag) : Sp := fun vs H Q _ => ∃ (a : Addr) (ns : List Int), vs = [.ref a] ∧ SqL K H a (ns.map V.int) ∧ ns.length ≤ 63 ∧ ∀ H', Q (.bl true) H'
theorem ok_law {C : Addr} {f : Addr} {fd : FuncData} (F : Fun K "law" "law" s_law f fd) (T : Bt mg) (O__law_rules : Own P w K mg base CX0 5 "_law_rules" ["_law_stream", "_law_many", "_law_most"] spRules) (O__law_bared : Own P w K mg base CX0 2 "_law_bared" ["_law_stream", "_law_b"] spBared)
    (O__law_made : Own P w K mg base CX0 7 "_law_made" ["_law_b"] (spMadeL C)) (O__law_ranks : Own P w K mg base CX0 4 "_law_ranks" ["_law_b"] spRanksL) (O_is_paper : Own P w K mg base CX0 6 "is_paper" ["book", "question", "paper"] (spIsPap C))
    (O__law_draw : Own P w K mg base CX0 1 "_law_draw" ["_law_stream", "_law_many"] spDraw) (O__law_pairs : Own P w K mg base CX0 5 "_law_pairs" ["_law_stream", "_law_b"] (spPairs K)) (O__law_falls : Own P w K mg base CX0 4 "_law_falls" ["_law_b", "_law_paper"] (spFalls K))
    (O__law_same : OwnG P w K mg base CX0 1 "_law_same" ["_law_found", "_law_due"] spSameB) : FnG P w K mg base CX0 8 f fd ["_law_script"] (spLaw K) := by
  refine fun_okG F sc_law (fun vs H Q E h => ?_) (fun cdv A' outer s H vs Q E hgd hr h => ?_)
  · obtain ⟨a, ns, rfl, _⟩ := h
    rfl
  · obtain ⟨a, ns, rfl, ha, hl, q⟩ := h
    have hu := hu_of hr
    refine ⟨_, (pss_cons (ps_set (i := 1) sc_law.nd rfl (Or.inl rfl) (pe_lst (pa_cons (pe_callTy (list_of K) (by rfl) T.m_list (by decide +kernel) (pa_cons (pv 0) pa_nil)) (pa_cons pe_int (pa_cons pe_int (pa_cons pe_int pa_nil))))))
      (pss_cons (ps_for PassesOwn.never rfl (pi_range1 rfl T.m_range (pa_cons pe_int pa_nil)) (pg_name (i := 2) sc_law.nd rfl (Or.inl rfl)) (pss_cons (ps_set (i := 3) sc_law.nd rfl (Or.inl rfl) (own_call O__law_bared hr (by first | decide | omega) (pa_cons (pv 1) (pa_cons (own_call O__law_rules hr (by first | decide | omega) (pa_cons (pv 1) (pa_cons pe_int (pa_cons pe_int pa_nil)))) pa_nil))))
      (pss_cons (ps_par (i := 4) (j := 5) (by rfl) sc_law.nd rfl rfl (by decide) rfl rfl (pa_cons (own_call O__law_made hr (by first | decide | omega) (pa_cons (pv 3) pa_nil)) (pa_cons (own_call O__law_ranks hr (by first | decide | omega) (pa_cons (pv 3) pa_nil)) pa_nil)) (by rfl))
      (pss_cons (ps_if (PW.pt (pw_and (pt_cmpR op_notN (pv 5) pe_non (nomark _)) (pw_and1 (pt_not (pt_val (own_callG O__law_same hgd hr (by first | decide | omega) (pa_cons (own_call O_is_paper hr (by first | decide | omega) (pa_cons (pv 4) (pa_cons pe_str (pa_cons (pv 5) pa_nil)))) (pa_cons pe_bl pa_nil)))))))) (pss_one (ps_ret pe_bl)) pss_nil)
      (pss_one (ps_for PassesOwn.never rfl (pi_range1 rfl T.m_range (pa_cons pe_int pa_nil)) (pg_name (i := 6) sc_law.nd rfl (Or.inl rfl)) (pss_cons (ps_set (i := 7) sc_law.nd rfl (Or.inl rfl) (own_call O__law_pairs hr (by first | decide | omega) (pa_cons (pv 1) (pa_cons (pv 3) pa_nil))))
      (pss_cons (ps_set (i := 8) sc_law.nd rfl (Or.inl rfl) (pe_ifExp (pt_cmpR op_eq (own_call O__law_draw hr (by first | decide | omega) (pa_cons (pv 1) (pa_cons pe_int pa_nil))) pe_int (nomark _)) (pe_callTy (tuple_of K) (by rfl) T.m_tuple (by decide +kernel) (pa_cons (pv 7) pa_nil)) (pv 7)))
      (pss_one (ps_if (pt_not (pt_val (own_callG O__law_same hgd hr (by first | decide | omega) (pa_cons (own_call O_is_paper hr (by first | decide | omega) (pa_cons (pv 4) (pa_cons pe_str (pa_cons (pv 8) pa_nil)))) (pa_cons (own_call O__law_falls hr (by first | decide | omega) (pa_cons (pv 3) (pa_cons (pv 7) pa_nil))) pa_nil))))) (pss_one (ps_ret pe_bl)) pss_nil))))))))))
      (pss_one (ps_ret pe_bl)))), ?_⟩
    walk_at "ls"
    refine ⟨a, _, rfl, .inl ha, fun L hL => ⟨(by show 4 ≤ sizeLine; decide), fun S hS => ?_⟩⟩
    have nSL : S ≠ L := fun e => by rw [e, upd_same] at hS; cases hS
    refine at_heap (φ := fun H1 => Stm H1 S L 0) ⟨ns, 0, 0, 0, upd_same, (by rw [upd_ne nSL.symm]; exact upd_same), by decide, by decide, by decide, by decide, by decide⟩ ?_
    intro H1 st1
    refine ⟨2, rfl, by decide, by decide, ?_⟩
    refine for_it (walk_range (n := 2)) (fun i σ H2 => ∃ v2 v3 v4 v5 v6 v7 v8 : Option V, σ = [some (.ref a), some (.ref S), v2, v3, v4, v5, v6, v7, v8] ∧ Stm H2 S L (1000 * i)) ⟨none, none, none, none, none, none, none, rfl, st1⟩ (fun _ _ _ _ _ => trivial) ?_ ?_
    · rintro i x σ Hz H2 hi ⟨v2, v3, v4, v5, v6, v7, v8, rfl, st2⟩ ⟨rfl, rfl⟩
      walk_at "ls"
      refine ⟨S, L, _, 3, 4, rfl, st2, by omega, by decide, by decide, by decide, by decide, fun H3 b B ck hB hBk hBc hb hck hs3 st3 od3 => ?_⟩
      have lck : ck.length ≤ 51 := Nat.le_trans hck.length_le (menu_small hB)
      refine ⟨S, L, b, _, B, ck, rfl, st3, by omega, hs3, hB, fun z hz => hck.subset hz, by omega, fun H4 b4 ck4 hs4 hck4 lck4 st4 od4 => ?_⟩
      walk_at "ls"
      refine ⟨S, L, b4, B, ck4, rfl, hs4, hB, hck4, by omega, fun H5 o hb5 s5 => ?_⟩
      walk_at "ls"
      have hs5 := hs4.same s5
      have st5 := st4.keep s5
      have hmem : ∀ z, z ∈ (menu B).filter (fun z => decide (z ∈ ck4)) ↔ z ∈ ck4 := fun z => by
        rw [List.mem_filter, decide_eq_true_eq]
        exact ⟨fun h => h.2, fun h => ⟨hck4 z h, h⟩⟩
      have hpc := paper_congr (B := B) hmem
      generalize (menu B).filter (fun z => decide (z ∈ ck4)) = ckp at *
      refine ⟨S, L, b4, B, ck4, rfl, hs5, hB, ?_⟩
      rcases hR : ranksL (tightL B ck4) (tightE B ck4) with _ | l
      intro H6 s6
      walk_at "ls"
      refine ⟨_, _, rfl, ?_⟩
      walk_at "ls"
      have s56 : Same H5 H6 := s6
      clear s6
      generalize H6 = HA at *
      rotate_left
      intro H6 pd dx hpd h6 h6t s6
      have hps := rk_paper hB hR
      obtain ⟨r1, r2, _⟩ := rk_small hB hR
      walk_at "ls"
      refine ⟨_, _, rfl, ?_⟩
      walk_at "ls"
      refine ⟨o, pd, B, ckp, rkP l, rfl, BookS.same hb5 s6, hB, ⟨dx, .inr h6, rk_pairs h6t⟩, by unfold rkP; rw [List.length_map]; omega, fun p hp => ?_, fun H7 s7 => ?_⟩
      · unfold rkP at hp
        obtain ⟨q2, hq2, rfl⟩ := List.mem_map.mp hp
        obtain ⟨g1, g2⟩ := r2 q2 hq2
        refine ⟨okB_mono (nm_ok g1) (by decide), .inl ⟨_, rfl, ?_, ?_⟩⟩
        · show (-1 : Int) ≤ ((q2.2 : Nat) : Int)
          omega
        · show ((q2.2 : Nat) : Int) < 10 ^ 30
          rw [show (10 : Int) ^ 30 = 1000000000000000000000000000000 by decide]
          omega
      rw [hpc, hps]
      walk_at "ls"
      have s56 : Same H5 H7 := s6.trans s7
      clear s6 s7 h6 h6t hpd r1 r2
      generalize H7 = HA at *
      all_goals
        refine ⟨by decide, by decide, ?_⟩
        refine for_it (walk_range (n := 6)) (fun k σ Hk => ∃ w5 v6 v7 v8 : Option V, σ = [some (.ref a), some (.ref S), some (.int (0 + (i : Int))), some (.ref b4), some (.ref o), w5, v6, v7, v8] ∧ Stm Hk S L (1000 * i + 400 + 40 * k) ∧ ShpAt S L Hk b4 B ck4 ∧ BookS C Hk o B ckp) ⟨_, _, _, _, rfl, (st5.keep s56).mono (by omega), hs5.same s56, BookS.same hb5 s56⟩ (fun _ _ _ _ _ => trivial) ?_ ?_
        · rintro k x2 σ Hz Hk hk ⟨w5, v6, v7, v8, rfl, stk, hsk, hbk⟩ ⟨rfl, rfl⟩
          walk_at "ls"
          refine ⟨S, L, b4, _, B, ck4, rfl, stk, by omega, hsk, hB, fun Hm pp xs ps hpp npp hps2 lps hv stm odm => ?_⟩
          walk_at "ls"
          refine ⟨S, L, _, _, rfl, stm, by omega, by decide, by decide, fun Hn r r0 r1 stn odn => ?_⟩
          have hppn := odn _ _ npp.1 npp.2 hpp
          have hpsn := hps2.old stm odn
          have hvn : ∀ p ∈ ps, okB 100 p.1 = true ∧ ValAt Hn p.2 := fun p hp => ⟨(hv p hp).1, (hv p hp).2.old stm odn⟩
          have hsn := (hsk.old stk odm).old stm odn
          have hbn : BookS C Hn o B ckp := BookU.old (BookU.old hbk stk odm) stm odn
          walk_at "ls"
          refine ite2 (fun e => ?_) (fun e => ?_)
          · walk_at "ls"
            refine ⟨pp, xs, rfl, .inl ⟨.inl (.inl hppn), fun tp htp => ?_⟩⟩
            have sn := same_new (o := .tup xs) htp
            walk_at "ls"
            refine ⟨o, tp, B, ckp, ps, rfl, BookS.same hbn sn, hB, ⟨xs, .inl upd_same, hpsn.same sn⟩, lps, fun p hp => ⟨(hvn p hp).1, (hvn p hp).2.same sn⟩, fun Ho so => ?_⟩
            have sno := sn.trans so
            walk_at "ls"
            refine ⟨S, L, b4, pp, B, ck4, xs, ps, rfl, hsn.same sno, hB, .inl (.inl (sno _ _ hppn)), hpsn.same sno, lps, fun p hp => ⟨(hvn p hp).1, (hvn p hp).2.same sno⟩, fun Hq sq => ?_⟩
            have snq := sno.trans sq
            rw [hpc]
            walk_at "ls"
            exact ⟨_, _, _, _, rfl, (stn.keep snq).mono (by omega), hsn.same snq, BookS.same hbn snq⟩
          · walk_at "ls"
            refine ⟨o, pp, B, ckp, ps, rfl, hbn, hB, ⟨xs, .inr hppn, hpsn⟩, lps, hvn, fun Ho sno => ?_⟩
            walk_at "ls"
            refine ⟨S, L, b4, pp, B, ck4, xs, ps, rfl, hsn.same sno, hB, .inl (.inl (sno _ _ hppn)), hpsn.same sno, lps, fun p hp => ⟨(hvn p hp).1, (hvn p hp).2.same sno⟩, fun Hq sq => ?_⟩
            have snq := sno.trans sq
            rw [hpc]
            walk_at "ls"
            exact ⟨_, _, _, _, rfl, (stn.keep snq).mono (by omega), hsn.same snq, BookS.same hbn snq⟩
        · rintro σ Hk ⟨w5, v6, v7, v8, rfl, stk, hsk, hbk⟩
          exact ⟨_, _, _, _, _, _, _, rfl, stk.mono (by omega)⟩
    · rintro σ H2 ⟨v2, v3, v4, v5, v6, v7, v8, rfl, st2⟩
      walk_at "ls"
      exact q H2
end
end Ls
namespace Ls
open PySem PySem.Spec PyProof.Rows L2 NdefX
/-! ### the texts of the own errors -/
abbrev s_BadName_init : Stmt := inClass (topS 3) 0
theorem tx_BadName : ErrTx s_BadName_init "BadName.__init__" [("name" : Str)] where
  nsc := nscope_by (by decide +kernel)
  hsup := rfl
  par := ⟨_, rfl, rfl⟩
  body := ⟨_, _, _, _, _, _, _, _, _, rfl, ⟨⟨⟨_, _, _, _, rfl⟩, by decide, by decide⟩, trivial⟩, fun f cc cda L => ⟨_, rfl⟩⟩
  bind := fun cc cda doc pm ct us hl => match us, hl with | [_, _], _ => rfl
abbrev s_NameInUse_init : Stmt := inClass (topS 4) 0
theorem tx_NameInUse : ErrTx s_NameInUse_init "NameInUse.__init__" [("name" : Str)] where
  nsc := nscope_by (by decide +kernel)
  hsup := rfl
  par := ⟨_, rfl, rfl⟩
  body := ⟨_, _, _, _, _, _, _, _, _, rfl, ⟨⟨⟨_, _, _, _, rfl⟩, by decide, by decide⟩, trivial⟩, fun f cc cda L => ⟨_, rfl⟩⟩
  bind := fun cc cda doc pm ct us hl => match us, hl with | [_, _], _ => rfl
abbrev s_UnknownKind_init : Stmt := inClass (topS 5) 0
theorem tx_UnknownKind : ErrTx s_UnknownKind_init "UnknownKind.__init__" [("kind" : Str)] where
  nsc := nscope_by (by decide +kernel)
  hsup := rfl
  par := ⟨_, rfl, rfl⟩
  body := ⟨_, _, _, _, _, _, _, _, _, rfl, ⟨⟨⟨_, _, _, _, rfl⟩, by decide, by decide⟩, trivial⟩, fun f cc cda L => ⟨_, rfl⟩⟩
  bind := fun cc cda doc pm ct us hl => match us, hl with | [_, _], _ => rfl
abbrev s_BadRule_init : Stmt := inClass (topS 6) 0
theorem tx_BadRule : ErrTx s_BadRule_init "BadRule.__init__" [("rule" : Str)] where
  nsc := nscope_by (by decide +kernel)
  hsup := rfl
  par := ⟨_, rfl, rfl⟩
  body := ⟨_, _, _, _, _, _, _, _, _, rfl, ⟨⟨⟨_, _, _, _, rfl⟩, by decide, by decide⟩, trivial⟩, fun f cc cda L => ⟨_, rfl⟩⟩
  bind := fun cc cda doc pm ct us hl => match us, hl with | [_, _], _ => rfl
abbrev s_UnknownCheck_init : Stmt := inClass (topS 7) 0
theorem tx_UnknownCheck : ErrTx s_UnknownCheck_init "UnknownCheck.__init__" [("check" : Str)] where
  nsc := nscope_by (by decide +kernel)
  hsup := rfl
  par := ⟨_, rfl, rfl⟩
  body := ⟨_, _, _, _, _, _, _, _, _, rfl, ⟨⟨⟨_, _, _, _, rfl⟩, by decide, by decide⟩, trivial⟩, fun f cc cda L => ⟨_, rfl⟩⟩
  bind := fun cc cda doc pm ct us hl => match us, hl with | [_, _], _ => rfl
abbrev s_UnlikeBooks_init : Stmt := inClass (topS 8) 0
theorem tx_UnlikeBooks : ErrTx s_UnlikeBooks_init "UnlikeBooks.__init__" [] where
  nsc := nscope_by (by decide +kernel)
  hsup := rfl
  par := ⟨_, rfl, rfl⟩
  body := ⟨_, _, _, _, _, _, _, _, _, rfl, trivial, fun f cc cda L => ⟨_, rfl⟩⟩
  bind := fun cc cda doc pm ct us hl => match us, hl with | [_], _ => rfl
abbrev s_BadQuestion_init : Stmt := inClass (topS 9) 0
theorem tx_BadQuestion : ErrTx s_BadQuestion_init "BadQuestion.__init__" [("question" : Str)] where
  nsc := nscope_by (by decide +kernel)
  hsup := rfl
  par := ⟨_, rfl, rfl⟩
  body := ⟨_, _, _, _, _, _, _, _, _, rfl, ⟨⟨⟨_, _, _, _, rfl⟩, by decide, by decide⟩, trivial⟩, fun f cc cda L => ⟨_, rfl⟩⟩
  bind := fun cc cda doc pm ct us hl => match us, hl with | [_, _], _ => rfl
end Ls
namespace Ls
open PySem PySem.Spec PyProof.Rows L2
/-- classes apart, as one test -/
def exmB (K : PySem.W.Frag) (l : List Addr) : Bool := (l.all fun a => l.all fun b => decide (PySem.W.exmOne K (.ref a) (.ref b) = some (decide (a = b)))) && decide l.Nodup
theorem exmB_ok {K : PySem.W.Frag} {l : List Addr} (h : exmB K l = true) : (∀ a ∈ l, ∀ b ∈ l, PySem.W.exmOne K (.ref a) (.ref b) = some (decide (a = b))) ∧ l.Nodup := by
  unfold exmB at h
  obtain ⟨h1, h2⟩ := Bool.and_eq_true_iff.mp h
  exact ⟨fun a ha b hb => of_decide_eq_true (List.all_eq_true.mp (List.all_eq_true.mp h1 a ha) b hb), of_decide_eq_true h2⟩
theorem exm_self {K : PySem.W.Frag} {a : Addr} {l : List Addr} (h : exmB K l = true) (m : a ∈ l) : PySem.W.exmOne K (.ref a) (.ref a) = some true := by
  have := (exmB_ok h).1 a m a m
  rw [decide_eq_true rfl] at this
  exact this
end Ls
namespace Ls
open PySem PySem.Spec PyProof.Rows L2 NdefX
/-! ### what the top has written -/
set_option maxHeartbeats 16000000 in
theorem all_mk {l : PySem.W.OpenLaw} {w : World} {K : PySem.W.Frag} {h : Heap} {mg : Str → Option Value} {fa : Addr} (X : K.In h) (G : h.Ns mainGlobals mg) (hfa : mg "law" = some (.ref fa))
    {f0 : Addr} {oc0 kV0 dc0 pm0 cd0 ct0 : Value} {od0 an0 : Option Addr} {sl0 : Array (Option Value)}
    {f1 : Addr} {oc1 kV1 dc1 pm1 cd1 ct1 : Value} {od1 an1 : Option Addr} {sl1 : Array (Option Value)}
    {f2 : Addr} {oc2 kV2 dc2 pm2 cd2 ct2 : Value} {od2 an2 : Option Addr} {sl2 : Array (Option Value)}
    {f3 : Addr} {oc3 kV3 dc3 pm3 cd3 ct3 : Value} {od3 an3 : Option Addr} {sl3 : Array (Option Value)}
    {f4 : Addr} {oc4 kV4 dc4 pm4 cd4 ct4 : Value} {od4 an4 : Option Addr} {sl4 : Array (Option Value)}
    {f5 : Addr} {oc5 kV5 dc5 pm5 cd5 ct5 : Value} {od5 an5 : Option Addr} {sl5 : Array (Option Value)}
    {f6 : Addr} {oc6 kV6 dc6 pm6 cd6 ct6 : Value} {od6 an6 : Option Addr} {sl6 : Array (Option Value)}
    {f7 : Addr} {oc7 kV7 dc7 pm7 cd7 ct7 : Value} {od7 an7 : Option Addr} {sl7 : Array (Option Value)}
    {f8 : Addr} {oc8 kV8 dc8 pm8 cd8 ct8 : Value} {od8 an8 : Option Addr} {sl8 : Array (Option Value)}
    {f9 : Addr} {oc9 kV9 dc9 pm9 cd9 ct9 : Value} {od9 an9 : Option Addr} {sl9 : Array (Option Value)}
    {f10 : Addr} {oc10 kV10 dc10 pm10 cd10 ct10 : Value} {od10 an10 : Option Addr} {sl10 : Array (Option Value)}
    {f11 : Addr} {oc11 kV11 dc11 pm11 cd11 ct11 : Value} {od11 an11 : Option Addr} {sl11 : Array (Option Value)}
    {f12 : Addr} {oc12 kV12 dc12 pm12 cd12 ct12 : Value} {od12 an12 : Option Addr} {sl12 : Array (Option Value)}
    {f13 : Addr} {oc13 kV13 dc13 pm13 cd13 ct13 : Value} {od13 an13 : Option Addr} {sl13 : Array (Option Value)}
    {f14 : Addr} {oc14 kV14 dc14 pm14 cd14 ct14 : Value} {od14 an14 : Option Addr} {sl14 : Array (Option Value)}
    {f15 : Addr} {oc15 kV15 dc15 pm15 cd15 ct15 : Value} {od15 an15 : Option Addr} {sl15 : Array (Option Value)}
    {f16 : Addr} {oc16 kV16 dc16 pm16 cd16 ct16 : Value} {od16 an16 : Option Addr} {sl16 : Array (Option Value)}
    {f17 : Addr} {oc17 kV17 dc17 pm17 cd17 ct17 : Value} {od17 an17 : Option Addr} {sl17 : Array (Option Value)}
    {f18 : Addr} {oc18 kV18 dc18 pm18 cd18 ct18 : Value} {od18 an18 : Option Addr} {sl18 : Array (Option Value)}
    {f19 : Addr} {oc19 kV19 dc19 pm19 cd19 ct19 : Value} {od19 an19 : Option Addr} {sl19 : Array (Option Value)}
    {f20 : Addr} {oc20 kV20 dc20 pm20 cd20 ct20 : Value} {od20 an20 : Option Addr} {sl20 : Array (Option Value)}
    {f21 : Addr} {oc21 kV21 dc21 pm21 cd21 ct21 : Value} {od21 an21 : Option Addr} {sl21 : Array (Option Value)}
    {f22 : Addr} {oc22 kV22 dc22 pm22 cd22 ct22 : Value} {od22 an22 : Option Addr} {sl22 : Array (Option Value)}
    {f23 : Addr} {oc23 kV23 dc23 pm23 cd23 ct23 : Value} {od23 an23 : Option Addr} {sl23 : Array (Option Value)}
    {f24 : Addr} {oc24 kV24 dc24 pm24 cd24 ct24 : Value} {od24 an24 : Option Addr} {sl24 : Array (Option Value)}
    {f25 : Addr} {oc25 kV25 dc25 pm25 cd25 ct25 : Value} {od25 an25 : Option Addr} {sl25 : Array (Option Value)}
    {f26 : Addr} {oc26 kV26 dc26 pm26 cd26 ct26 : Value} {od26 an26 : Option Addr} {sl26 : Array (Option Value)}
    {f27 : Addr} {oc27 kV27 dc27 pm27 cd27 ct27 : Value} {od27 an27 : Option Addr} {sl27 : Array (Option Value)}
    {f28 : Addr} {oc28 kV28 dc28 pm28 cd28 ct28 : Value} {od28 an28 : Option Addr} {sl28 : Array (Option Value)}
    {f29 : Addr} {oc29 kV29 dc29 pm29 cd29 ct29 : Value} {od29 an29 : Option Addr} {sl29 : Array (Option Value)}
    {f30 : Addr} {oc30 kV30 dc30 pm30 cd30 ct30 : Value} {od30 an30 : Option Addr} {sl30 : Array (Option Value)}
    {f31 : Addr} {oc31 kV31 dc31 pm31 cd31 ct31 : Value} {od31 an31 : Option Addr} {sl31 : Array (Option Value)}
    {f32 : Addr} {oc32 kV32 dc32 pm32 cd32 ct32 : Value} {od32 an32 : Option Addr} {sl32 : Array (Option Value)}
    {f33 : Addr} {oc33 kV33 dc33 pm33 cd33 ct33 : Value} {od33 an33 : Option Addr} {sl33 : Array (Option Value)}
    {f34 : Addr} {oc34 kV34 dc34 pm34 cd34 ct34 : Value} {od34 an34 : Option Addr} {sl34 : Array (Option Value)}
    {C_Book : Addr}
    {f35 : Addr} {oc35 kV35 dc35 pm35 cd35 ct35 : Value} {od35 an35 : Option Addr} {sl35 : Array (Option Value)}
    {T35 : Addr} {nT35 : Nat} {dv35_0 dv35_1 : Value}
    {de35_0 : Addr}
    {de35_1 : Addr}
    {f36 : Addr} {oc36 kV36 dc36 pm36 cd36 ct36 : Value} {od36 an36 : Option Addr} {sl36 : Array (Option Value)}
    {f37 : Addr} {oc37 kV37 dc37 pm37 cd37 ct37 : Value} {od37 an37 : Option Addr} {sl37 : Array (Option Value)}
    {f38 : Addr} {oc38 kV38 dc38 pm38 cd38 ct38 : Value} {od38 an38 : Option Addr} {sl38 : Array (Option Value)}
    {f39 : Addr} {oc39 kV39 dc39 pm39 cd39 ct39 : Value} {od39 an39 : Option Addr} {sl39 : Array (Option Value)}
    {f40 : Addr} {oc40 kV40 dc40 pm40 cd40 ct40 : Value} {od40 an40 : Option Addr} {sl40 : Array (Option Value)}
    {C_BadName fIBadName ccBadName cdaBadName : Addr} {ocBadName dcBadName pmBadName ctBadName : Value} {odBadName : Option Addr} {slBadName : Array (Option Value)}
    {C_NameInUse fINameInUse ccNameInUse cdaNameInUse : Addr} {ocNameInUse dcNameInUse pmNameInUse ctNameInUse : Value} {odNameInUse : Option Addr} {slNameInUse : Array (Option Value)}
    {C_UnknownKind fIUnknownKind ccUnknownKind cdaUnknownKind : Addr} {ocUnknownKind dcUnknownKind pmUnknownKind ctUnknownKind : Value} {odUnknownKind : Option Addr} {slUnknownKind : Array (Option Value)}
    {C_BadRule fIBadRule ccBadRule cdaBadRule : Addr} {ocBadRule dcBadRule pmBadRule ctBadRule : Value} {odBadRule : Option Addr} {slBadRule : Array (Option Value)}
    {C_UnknownCheck fIUnknownCheck ccUnknownCheck cdaUnknownCheck : Addr} {ocUnknownCheck dcUnknownCheck pmUnknownCheck ctUnknownCheck : Value} {odUnknownCheck : Option Addr} {slUnknownCheck : Array (Option Value)}
    {tk_STRIKE : Tok}
    {tk_LETTERS : Tok}
    {tk_LONGEST_NAME : Tok}
    {ad_RULES : Addr}
    {ad_COLUMN_CHECKS : Addr}
    {ad_KIND_CHECKS : Addr}
    {ad_BOOK_CHECKS : Addr}
    (a0 : PySem.W.nsIn K mainGlobals "_law_draw" = some (some (.ref f0)))
    (l0 : K.lookup f0 = some ⟨oc0, od0, .func (PySem.W.fnOf "_law_draw" "_law_draw" (defArgs s__law_draw) (defBody s__law_draw) (defScope s__law_draw) .none kV0 dc0 pm0 an0 cd0 ct0), sl0⟩)
    (c0 : PySem.W.codeIn K cd0 "_law_draw" = true)
    (k0 : PySem.W.keepIn K (.ref f0) = true)
    (a1 : PySem.W.nsIn K mainGlobals "_law_pick" = some (some (.ref f1)))
    (l1 : K.lookup f1 = some ⟨oc1, od1, .func (PySem.W.fnOf "_law_pick" "_law_pick" (defArgs s__law_pick) (defBody s__law_pick) (defScope s__law_pick) .none kV1 dc1 pm1 an1 cd1 ct1), sl1⟩)
    (c1 : PySem.W.codeIn K cd1 "_law_pick" = true)
    (k1 : PySem.W.keepIn K (.ref f1) = true)
    (a2 : PySem.W.nsIn K mainGlobals "_law_mixed" = some (some (.ref f2)))
    (l2 : K.lookup f2 = some ⟨oc2, od2, .func (PySem.W.fnOf "_law_mixed" "_law_mixed" (defArgs s__law_mixed) (defBody s__law_mixed) (defScope s__law_mixed) .none kV2 dc2 pm2 an2 cd2 ct2), sl2⟩)
    (c2 : PySem.W.codeIn K cd2 "_law_mixed" = true)
    (k2 : PySem.W.keepIn K (.ref f2) = true)
    (a3 : PySem.W.nsIn K mainGlobals "_law_same" = some (some (.ref f3)))
    (l3 : K.lookup f3 = some ⟨oc3, od3, .func (PySem.W.fnOf "_law_same" "_law_same" (defArgs s__law_same) (defBody s__law_same) (defScope s__law_same) .none kV3 dc3 pm3 an3 cd3 ct3), sl3⟩)
    (c3 : PySem.W.codeIn K cd3 "_law_same" = true)
    (k3 : PySem.W.keepIn K (.ref f3) = true)
    (a4 : PySem.W.nsIn K mainGlobals "_law_fresh" = some (some (.ref f4)))
    (l4 : K.lookup f4 = some ⟨oc4, od4, .func (PySem.W.fnOf "_law_fresh" "_law_fresh" (defArgs s__law_fresh) (defBody s__law_fresh) (defScope s__law_fresh) .none kV4 dc4 pm4 an4 cd4 ct4), sl4⟩)
    (c4 : PySem.W.codeIn K cd4 "_law_fresh" = true)
    (k4 : PySem.W.keepIn K (.ref f4) = true)
    (a5 : PySem.W.nsIn K mainGlobals "_law_names" = some (some (.ref f5)))
    (l5 : K.lookup f5 = some ⟨oc5, od5, .func (PySem.W.fnOf "_law_names" "_law_names" (defArgs s__law_names) (defBody s__law_names) (defScope s__law_names) .none kV5 dc5 pm5 an5 cd5 ct5), sl5⟩)
    (c5 : PySem.W.codeIn K cd5 "_law_names" = true)
    (k5 : PySem.W.keepIn K (.ref f5) = true)
    (a6 : PySem.W.nsIn K mainGlobals "_law_shape" = some (some (.ref f6)))
    (l6 : K.lookup f6 = some ⟨oc6, od6, .func (PySem.W.fnOf "_law_shape" "_law_shape" (defArgs s__law_shape) (defBody s__law_shape) (defScope s__law_shape) .none kV6 dc6 pm6 an6 cd6 ct6), sl6⟩)
    (c6 : PySem.W.codeIn K cd6 "_law_shape" = true)
    (k6 : PySem.W.keepIn K (.ref f6) = true)
    (a7 : PySem.W.nsIn K mainGlobals "_law_all_checks" = some (some (.ref f7)))
    (l7 : K.lookup f7 = some ⟨oc7, od7, .func (PySem.W.fnOf "_law_all_checks" "_law_all_checks" (defArgs s__law_all_checks) (defBody s__law_all_checks) (defScope s__law_all_checks) .none kV7 dc7 pm7 an7 cd7 ct7), sl7⟩)
    (c7 : PySem.W.codeIn K cd7 "_law_all_checks" = true)
    (k7 : PySem.W.keepIn K (.ref f7) = true)
    (a8 : PySem.W.nsIn K mainGlobals "_law_checked" = some (some (.ref f8)))
    (l8 : K.lookup f8 = some ⟨oc8, od8, .func (PySem.W.fnOf "_law_checked" "_law_checked" (defArgs s__law_checked) (defBody s__law_checked) (defScope s__law_checked) .none kV8 dc8 pm8 an8 cd8 ct8), sl8⟩)
    (c8 : PySem.W.codeIn K cd8 "_law_checked" = true)
    (k8 : PySem.W.keepIn K (.ref f8) = true)
    (a9 : PySem.W.nsIn K mainGlobals "_law_rules" = some (some (.ref f9)))
    (l9 : K.lookup f9 = some ⟨oc9, od9, .func (PySem.W.fnOf "_law_rules" "_law_rules" (defArgs s__law_rules) (defBody s__law_rules) (defScope s__law_rules) .none kV9 dc9 pm9 an9 cd9 ct9), sl9⟩)
    (c9 : PySem.W.codeIn K cd9 "_law_rules" = true)
    (k9 : PySem.W.keepIn K (.ref f9) = true)
    (a10 : PySem.W.nsIn K mainGlobals "_law_made" = some (some (.ref f10)))
    (l10 : K.lookup f10 = some ⟨oc10, od10, .func (PySem.W.fnOf "_law_made" "_law_made" (defArgs s__law_made) (defBody s__law_made) (defScope s__law_made) .none kV10 dc10 pm10 an10 cd10 ct10), sl10⟩)
    (c10 : PySem.W.codeIn K cd10 "_law_made" = true)
    (k10 : PySem.W.keepIn K (.ref f10) = true)
    (a11 : PySem.W.nsIn K mainGlobals "_law_markable" = some (some (.ref f11)))
    (l11 : K.lookup f11 = some ⟨oc11, od11, .func (PySem.W.fnOf "_law_markable" "_law_markable" (defArgs s__law_markable) (defBody s__law_markable) (defScope s__law_markable) .none kV11 dc11 pm11 an11 cd11 ct11), sl11⟩)
    (c11 : PySem.W.codeIn K cd11 "_law_markable" = true)
    (k11 : PySem.W.keepIn K (.ref f11) = true)
    (a12 : PySem.W.nsIn K mainGlobals "_law_checks" = some (some (.ref f12)))
    (l12 : K.lookup f12 = some ⟨oc12, od12, .func (PySem.W.fnOf "_law_checks" "_law_checks" (defArgs s__law_checks) (defBody s__law_checks) (defScope s__law_checks) .none kV12 dc12 pm12 an12 cd12 ct12), sl12⟩)
    (c12 : PySem.W.codeIn K cd12 "_law_checks" = true)
    (k12 : PySem.W.keepIn K (.ref f12) = true)
    (a13 : PySem.W.nsIn K mainGlobals "_law_tight" = some (some (.ref f13)))
    (l13 : K.lookup f13 = some ⟨oc13, od13, .func (PySem.W.fnOf "_law_tight" "_law_tight" (defArgs s__law_tight) (defBody s__law_tight) (defScope s__law_tight) .none kV13 dc13 pm13 an13 cd13 ct13), sl13⟩)
    (c13 : PySem.W.codeIn K cd13 "_law_tight" = true)
    (k13 : PySem.W.keepIn K (.ref f13) = true)
    (a14 : PySem.W.nsIn K mainGlobals "_law_ties" = some (some (.ref f14)))
    (l14 : K.lookup f14 = some ⟨oc14, od14, .func (PySem.W.fnOf "_law_ties" "_law_ties" (defArgs s__law_ties) (defBody s__law_ties) (defScope s__law_ties) .none kV14 dc14 pm14 an14 cd14 ct14), sl14⟩)
    (c14 : PySem.W.codeIn K cd14 "_law_ties" = true)
    (k14 : PySem.W.keepIn K (.ref f14) = true)
    (a15 : PySem.W.nsIn K mainGlobals "_law_ranks" = some (some (.ref f15)))
    (l15 : K.lookup f15 = some ⟨oc15, od15, .func (PySem.W.fnOf "_law_ranks" "_law_ranks" (defArgs s__law_ranks) (defBody s__law_ranks) (defScope s__law_ranks) .none kV15 dc15 pm15 an15 cd15 ct15), sl15⟩)
    (c15 : PySem.W.codeIn K cd15 "_law_ranks" = true)
    (k15 : PySem.W.keepIn K (.ref f15) = true)
    (a16 : PySem.W.nsIn K mainGlobals "_law_with" = some (some (.ref f16)))
    (l16 : K.lookup f16 = some ⟨oc16, od16, .func (PySem.W.fnOf "_law_with" "_law_with" (defArgs s__law_with) (defBody s__law_with) (defScope s__law_with) .none kV16 dc16 pm16 an16 cd16 ct16), sl16⟩)
    (c16 : PySem.W.codeIn K cd16 "_law_with" = true)
    (k16 : PySem.W.keepIn K (.ref f16) = true)
    (a17 : PySem.W.nsIn K mainGlobals "_law_bared" = some (some (.ref f17)))
    (l17 : K.lookup f17 = some ⟨oc17, od17, .func (PySem.W.fnOf "_law_bared" "_law_bared" (defArgs s__law_bared) (defBody s__law_bared) (defScope s__law_bared) .none kV17 dc17 pm17 an17 cd17 ct17), sl17⟩)
    (c17 : PySem.W.codeIn K cd17 "_law_bared" = true)
    (k17 : PySem.W.keepIn K (.ref f17) = true)
    (a18 : PySem.W.nsIn K mainGlobals "_law_falls" = some (some (.ref f18)))
    (l18 : K.lookup f18 = some ⟨oc18, od18, .func (PySem.W.fnOf "_law_falls" "_law_falls" (defArgs s__law_falls) (defBody s__law_falls) (defScope s__law_falls) .none kV18 dc18 pm18 an18 cd18 ct18), sl18⟩)
    (c18 : PySem.W.codeIn K cd18 "_law_falls" = true)
    (k18 : PySem.W.keepIn K (.ref f18) = true)
    (a19 : PySem.W.nsIn K mainGlobals "_law_pairs" = some (some (.ref f19)))
    (l19 : K.lookup f19 = some ⟨oc19, od19, .func (PySem.W.fnOf "_law_pairs" "_law_pairs" (defArgs s__law_pairs) (defBody s__law_pairs) (defScope s__law_pairs) .none kV19 dc19 pm19 an19 cd19 ct19), sl19⟩)
    (c19 : PySem.W.codeIn K cd19 "_law_pairs" = true)
    (k19 : PySem.W.keepIn K (.ref f19) = true)
    (a20 : PySem.W.nsIn K mainGlobals "law" = some (some (.ref f20)))
    (l20 : K.lookup f20 = some ⟨oc20, od20, .func (PySem.W.fnOf "law" "law" (defArgs s_law) (defBody s_law) (defScope s_law) .none kV20 dc20 pm20 an20 cd20 ct20), sl20⟩)
    (c20 : PySem.W.codeIn K cd20 "law" = true)
    (k20 : PySem.W.keepIn K (.ref f20) = true)
    (a21 : PySem.W.nsIn K mainGlobals "is_name" = some (some (.ref f21)))
    (l21 : K.lookup f21 = some ⟨oc21, od21, .func (PySem.W.fnOf "is_name" "is_name" (defArgs s_is_name) (defBody s_is_name) (defScope s_is_name) .none kV21 dc21 pm21 an21 cd21 ct21), sl21⟩)
    (c21 : PySem.W.codeIn K cd21 "is_name" = true)
    (k21 : PySem.W.keepIn K (.ref f21) = true)
    (a22 : PySem.W.nsIn K mainGlobals "is_word_of" = some (some (.ref f22)))
    (l22 : K.lookup f22 = some ⟨oc22, od22, .func (PySem.W.fnOf "is_word_of" "is_word_of" (defArgs s_is_word_of) (defBody s_is_word_of) (defScope s_is_word_of) .none kV22 dc22 pm22 an22 cd22 ct22), sl22⟩)
    (c22 : PySem.W.codeIn K cd22 "is_word_of" = true)
    (k22 : PySem.W.keepIn K (.ref f22) = true)
    (a23 : PySem.W.nsIn K mainGlobals "is_number" = some (some (.ref f23)))
    (l23 : K.lookup f23 = some ⟨oc23, od23, .func (PySem.W.fnOf "is_number" "is_number" (defArgs s_is_number) (defBody s_is_number) (defScope s_is_number) .none kV23 dc23 pm23 an23 cd23 ct23), sl23⟩)
    (c23 : PySem.W.codeIn K cd23 "is_number" = true)
    (k23 : PySem.W.keepIn K (.ref f23) = true)
    (a24 : PySem.W.nsIn K mainGlobals "is_row" = some (some (.ref f24)))
    (l24 : K.lookup f24 = some ⟨oc24, od24, .func (PySem.W.fnOf "is_row" "is_row" (defArgs s_is_row) (defBody s_is_row) (defScope s_is_row) .none kV24 dc24 pm24 an24 cd24 ct24), sl24⟩)
    (c24 : PySem.W.codeIn K cd24 "is_row" = true)
    (k24 : PySem.W.keepIn K (.ref f24) = true)
    (a25 : PySem.W.nsIn K mainGlobals "_want_free_name" = some (some (.ref f25)))
    (l25 : K.lookup f25 = some ⟨oc25, od25, .func (PySem.W.fnOf "_want_free_name" "_want_free_name" (defArgs s__want_free_name) (defBody s__want_free_name) (defScope s__want_free_name) .none kV25 dc25 pm25 an25 cd25 ct25), sl25⟩)
    (c25 : PySem.W.codeIn K cd25 "_want_free_name" = true)
    (k25 : PySem.W.keepIn K (.ref f25) = true)
    (a26 : PySem.W.nsIn K mainGlobals "_read_kinds" = some (some (.ref f26)))
    (l26 : K.lookup f26 = some ⟨oc26, od26, .func (PySem.W.fnOf "_read_kinds" "_read_kinds" (defArgs s__read_kinds) (defBody s__read_kinds) (defScope s__read_kinds) .none kV26 dc26 pm26 an26 cd26 ct26), sl26⟩)
    (c26 : PySem.W.codeIn K cd26 "_read_kinds" = true)
    (k26 : PySem.W.keepIn K (.ref f26) = true)
    (a27 : PySem.W.nsIn K mainGlobals "_read_columns" = some (some (.ref f27)))
    (l27 : K.lookup f27 = some ⟨oc27, od27, .func (PySem.W.fnOf "_read_columns" "_read_columns" (defArgs s__read_columns) (defBody s__read_columns) (defScope s__read_columns) .none kV27 dc27 pm27 an27 cd27 ct27), sl27⟩)
    (c27 : PySem.W.codeIn K cd27 "_read_columns" = true)
    (k27 : PySem.W.keepIn K (.ref f27) = true)
    (a28 : PySem.W.nsIn K mainGlobals "_menu_of" = some (some (.ref f28)))
    (l28 : K.lookup f28 = some ⟨oc28, od28, .func (PySem.W.fnOf "_menu_of" "_menu_of" (defArgs s__menu_of) (defBody s__menu_of) (defScope s__menu_of) .none kV28 dc28 pm28 an28 cd28 ct28), sl28⟩)
    (c28 : PySem.W.codeIn K cd28 "_menu_of" = true)
    (k28 : PySem.W.keepIn K (.ref f28) = true)
    (a29 : PySem.W.nsIn K mainGlobals "_read_checks" = some (some (.ref f29)))
    (l29 : K.lookup f29 = some ⟨oc29, od29, .func (PySem.W.fnOf "_read_checks" "_read_checks" (defArgs s__read_checks) (defBody s__read_checks) (defScope s__read_checks) .none kV29 dc29 pm29 an29 cd29 ct29), sl29⟩)
    (c29 : PySem.W.codeIn K cd29 "_read_checks" = true)
    (k29 : PySem.W.keepIn K (.ref f29) = true)
    (a30 : PySem.W.nsIn K mainGlobals "tight_kinds" = some (some (.ref f30)))
    (l30 : K.lookup f30 = some ⟨oc30, od30, .func (PySem.W.fnOf "tight_kinds" "tight_kinds" (defArgs s_tight_kinds) (defBody s_tight_kinds) (defScope s_tight_kinds) .none kV30 dc30 pm30 an30 cd30 ct30), sl30⟩)
    (c30 : PySem.W.codeIn K cd30 "tight_kinds" = true)
    (k30 : PySem.W.keepIn K (.ref f30) = true)
    (a31 : PySem.W.nsIn K mainGlobals "tight_columns" = some (some (.ref f31)))
    (l31 : K.lookup f31 = some ⟨oc31, od31, .func (PySem.W.fnOf "tight_columns" "tight_columns" (defArgs s_tight_columns) (defBody s_tight_columns) (defScope s_tight_columns) .none kV31 dc31 pm31 an31 cd31 ct31), sl31⟩)
    (c31 : PySem.W.codeIn K cd31 "tight_columns" = true)
    (k31 : PySem.W.keepIn K (.ref f31) = true)
    (a32 : PySem.W.nsIn K mainGlobals "_is_paper_of_ranks" = some (some (.ref f32)))
    (l32 : K.lookup f32 = some ⟨oc32, od32, .func (PySem.W.fnOf "_is_paper_of_ranks" "_is_paper_of_ranks" (defArgs s__is_paper_of_ranks) (defBody s__is_paper_of_ranks) (defScope s__is_paper_of_ranks) .none kV32 dc32 pm32 an32 cd32 ct32), sl32⟩)
    (c32 : PySem.W.codeIn K cd32 "_is_paper_of_ranks" = true)
    (k32 : PySem.W.keepIn K (.ref f32) = true)
    (a33 : PySem.W.nsIn K mainGlobals "want_question" = some (some (.ref f33)))
    (l33 : K.lookup f33 = some ⟨oc33, od33, .func (PySem.W.fnOf "want_question" "want_question" (defArgs s_want_question) (defBody s_want_question) (defScope s_want_question) .none kV33 dc33 pm33 an33 cd33 ct33), sl33⟩)
    (c33 : PySem.W.codeIn K cd33 "want_question" = true)
    (k33 : PySem.W.keepIn K (.ref f33) = true)
    (a34 : PySem.W.nsIn K mainGlobals "is_paper" = some (some (.ref f34)))
    (l34 : K.lookup f34 = some ⟨oc34, od34, .func (PySem.W.fnOf "is_paper" "is_paper" (defArgs s_is_paper) (defBody s_is_paper) (defScope s_is_paper) .none kV34 dc34 pm34 an34 cd34 ct34), sl34⟩)
    (c34 : PySem.W.codeIn K cd34 "is_paper" = true)
    (k34 : PySem.W.keepIn K (.ref f34) = true)
    (aC_Book : PySem.W.nsIn K mainGlobals "Book" = some (some (.ref C_Book)))
    (pg_Book : PySem.W.plainGet K C_Book Str.empty = true)
    (hd_Book : PySem.W.hasDictIn K C_Book = true)
    (po_Book : PySem.W.plainOver K C_Book = true)
    (sa_Book : PySem.W.findIn K (.ref C_Book) "__setattr__" = some (some (.builtin "object.__setattr__")))
    (mk_Book : PySem.W.makesIn K C_Book = true)
    (kc_Book : PySem.W.keepIn K (.ref C_Book) = true)
    (n_Book_kinds : PySem.W.findIn K (.ref C_Book) "_kinds" = some none)
    (n_Book_columns : PySem.W.findIn K (.ref C_Book) "_columns" = some none)
    (n_Book_menu : PySem.W.findIn K (.ref C_Book) "_menu" = some none)
    (n_Book_checks : PySem.W.findIn K (.ref C_Book) "_checks" = some none)
    (a35 : PySem.W.findIn K (.ref C_Book) "__init__" = some (some (.ref f35)))
    (i35 : PySem.W.isFn K (.ref f35) = true)
    (l35 : K.lookup f35 = some ⟨oc35, od35, .func (PySem.W.fnOf "__init__" "Book.__init__" (defArgs s_Book_init) (defBody s_Book_init) (defScope s_Book_init) (.ref T35) kV35 dc35 pm35 an35 cd35 ct35), sl35⟩)
    (c35 : PySem.W.codeIn K cd35 "Book.__init__" = true)
    (k35 : PySem.W.keepIn K (.ref f35) = true)
    (lT35 : K.lookup T35 = some { cls := .type "tuple", dict := none, data := .seq #[dv35_0, dv35_1] nT35, slots := #[] })
    (ed35_0 : dv35_0 = .ref de35_0)
    (ed35_1 : dv35_1 = .ref de35_1)
    (a36 : PySem.W.findIn K (.ref C_Book) "kinds" = some (some (.ref f36)))
    (i36 : PySem.W.isFn K (.ref f36) = true)
    (l36 : K.lookup f36 = some ⟨oc36, od36, .func (PySem.W.fnOf "kinds" "Book.kinds" (defArgs s_Book_kinds) (defBody s_Book_kinds) (defScope s_Book_kinds) .none kV36 dc36 pm36 an36 cd36 ct36), sl36⟩)
    (c36 : PySem.W.codeIn K cd36 "Book.kinds" = true)
    (k36 : PySem.W.keepIn K (.ref f36) = true)
    (a37 : PySem.W.findIn K (.ref C_Book) "columns" = some (some (.ref f37)))
    (i37 : PySem.W.isFn K (.ref f37) = true)
    (l37 : K.lookup f37 = some ⟨oc37, od37, .func (PySem.W.fnOf "columns" "Book.columns" (defArgs s_Book_columns) (defBody s_Book_columns) (defScope s_Book_columns) .none kV37 dc37 pm37 an37 cd37 ct37), sl37⟩)
    (c37 : PySem.W.codeIn K cd37 "Book.columns" = true)
    (k37 : PySem.W.keepIn K (.ref f37) = true)
    (a38 : PySem.W.findIn K (.ref C_Book) "markable" = some (some (.ref f38)))
    (i38 : PySem.W.isFn K (.ref f38) = true)
    (l38 : K.lookup f38 = some ⟨oc38, od38, .func (PySem.W.fnOf "markable" "Book.markable" (defArgs s_Book_markable) (defBody s_Book_markable) (defScope s_Book_markable) .none kV38 dc38 pm38 an38 cd38 ct38), sl38⟩)
    (c38 : PySem.W.codeIn K cd38 "Book.markable" = true)
    (k38 : PySem.W.keepIn K (.ref f38) = true)
    (a39 : PySem.W.findIn K (.ref C_Book) "questions" = some (some (.ref f39)))
    (i39 : PySem.W.isFn K (.ref f39) = true)
    (l39 : K.lookup f39 = some ⟨oc39, od39, .func (PySem.W.fnOf "questions" "Book.questions" (defArgs s_Book_questions) (defBody s_Book_questions) (defScope s_Book_questions) .none kV39 dc39 pm39 an39 cd39 ct39), sl39⟩)
    (c39 : PySem.W.codeIn K cd39 "Book.questions" = true)
    (k39 : PySem.W.keepIn K (.ref f39) = true)
    (a40 : PySem.W.findIn K (.ref C_Book) "__contains__" = some (some (.ref f40)))
    (i40 : PySem.W.isFn K (.ref f40) = true)
    (l40 : K.lookup f40 = some ⟨oc40, od40, .func (PySem.W.fnOf "__contains__" "Book.__contains__" (defArgs s_Book_contains) (defBody s_Book_contains) (defScope s_Book_contains) .none kV40 dc40 pm40 an40 cd40 ct40), sl40⟩)
    (c40 : PySem.W.codeIn K cd40 "Book.__contains__" = true)
    (k40 : PySem.W.keepIn K (.ref f40) = true)
    (aE_BadName : PySem.W.nsIn K mainGlobals "BadName" = some (some (.ref C_BadName)))
    (iE_BadName : PySem.W.findIn K (.ref C_BadName) "__init__" = some (some (.ref fIBadName)))
    (lE_BadName : K.lookup fIBadName = some ⟨ocBadName, odBadName, .func (PySem.W.fnX "__init__" "BadName.__init__" (defArgs s_BadName_init) (defBody s_BadName_init) (defScope s_BadName_init) [("__class__", ccBadName)] .none .none dcBadName pmBadName none (.ref cdaBadName) ctBadName), slBadName⟩)
    (cE_BadName : PySem.W.codeIn K (.ref cdaBadName) "BadName.__init__" = true)
    (bE_BadName : errB l.prog K C_BadName fIBadName ccBadName cdaBadName ["name"] = true)
    (aE_NameInUse : PySem.W.nsIn K mainGlobals "NameInUse" = some (some (.ref C_NameInUse)))
    (iE_NameInUse : PySem.W.findIn K (.ref C_NameInUse) "__init__" = some (some (.ref fINameInUse)))
    (lE_NameInUse : K.lookup fINameInUse = some ⟨ocNameInUse, odNameInUse, .func (PySem.W.fnX "__init__" "NameInUse.__init__" (defArgs s_NameInUse_init) (defBody s_NameInUse_init) (defScope s_NameInUse_init) [("__class__", ccNameInUse)] .none .none dcNameInUse pmNameInUse none (.ref cdaNameInUse) ctNameInUse), slNameInUse⟩)
    (cE_NameInUse : PySem.W.codeIn K (.ref cdaNameInUse) "NameInUse.__init__" = true)
    (bE_NameInUse : errB l.prog K C_NameInUse fINameInUse ccNameInUse cdaNameInUse ["name"] = true)
    (aE_UnknownKind : PySem.W.nsIn K mainGlobals "UnknownKind" = some (some (.ref C_UnknownKind)))
    (iE_UnknownKind : PySem.W.findIn K (.ref C_UnknownKind) "__init__" = some (some (.ref fIUnknownKind)))
    (lE_UnknownKind : K.lookup fIUnknownKind = some ⟨ocUnknownKind, odUnknownKind, .func (PySem.W.fnX "__init__" "UnknownKind.__init__" (defArgs s_UnknownKind_init) (defBody s_UnknownKind_init) (defScope s_UnknownKind_init) [("__class__", ccUnknownKind)] .none .none dcUnknownKind pmUnknownKind none (.ref cdaUnknownKind) ctUnknownKind), slUnknownKind⟩)
    (cE_UnknownKind : PySem.W.codeIn K (.ref cdaUnknownKind) "UnknownKind.__init__" = true)
    (bE_UnknownKind : errB l.prog K C_UnknownKind fIUnknownKind ccUnknownKind cdaUnknownKind ["kind"] = true)
    (aE_BadRule : PySem.W.nsIn K mainGlobals "BadRule" = some (some (.ref C_BadRule)))
    (iE_BadRule : PySem.W.findIn K (.ref C_BadRule) "__init__" = some (some (.ref fIBadRule)))
    (lE_BadRule : K.lookup fIBadRule = some ⟨ocBadRule, odBadRule, .func (PySem.W.fnX "__init__" "BadRule.__init__" (defArgs s_BadRule_init) (defBody s_BadRule_init) (defScope s_BadRule_init) [("__class__", ccBadRule)] .none .none dcBadRule pmBadRule none (.ref cdaBadRule) ctBadRule), slBadRule⟩)
    (cE_BadRule : PySem.W.codeIn K (.ref cdaBadRule) "BadRule.__init__" = true)
    (bE_BadRule : errB l.prog K C_BadRule fIBadRule ccBadRule cdaBadRule ["rule"] = true)
    (aE_UnknownCheck : PySem.W.nsIn K mainGlobals "UnknownCheck" = some (some (.ref C_UnknownCheck)))
    (iE_UnknownCheck : PySem.W.findIn K (.ref C_UnknownCheck) "__init__" = some (some (.ref fIUnknownCheck)))
    (lE_UnknownCheck : K.lookup fIUnknownCheck = some ⟨ocUnknownCheck, odUnknownCheck, .func (PySem.W.fnX "__init__" "UnknownCheck.__init__" (defArgs s_UnknownCheck_init) (defBody s_UnknownCheck_init) (defScope s_UnknownCheck_init) [("__class__", ccUnknownCheck)] .none .none dcUnknownCheck pmUnknownCheck none (.ref cdaUnknownCheck) ctUnknownCheck), slUnknownCheck⟩)
    (cE_UnknownCheck : PySem.W.codeIn K (.ref cdaUnknownCheck) "UnknownCheck.__init__" = true)
    (bE_UnknownCheck : errB l.prog K C_UnknownCheck fIUnknownCheck ccUnknownCheck cdaUnknownCheck ["check"] = true)
    (z_int : PySem.W.nsIn K mainGlobals "int" = some none)
    (z_len : PySem.W.nsIn K mainGlobals "len" = some none)
    (z_range : PySem.W.nsIn K mainGlobals "range" = some none)
    (z_list : PySem.W.nsIn K mainGlobals "list" = some none)
    (z_tuple : PySem.W.nsIn K mainGlobals "tuple" = some none)
    (z_dict : PySem.W.nsIn K mainGlobals "dict" = some none)
    (z_isinstance : PySem.W.nsIn K mainGlobals "isinstance" = some none)
    (z_all : PySem.W.nsIn K mainGlobals "all" = some none)
    (z_any : PySem.W.nsIn K mainGlobals "any" = some none)
    (z_repr : PySem.W.nsIn K mainGlobals "repr" = some none)
    (z_str : PySem.W.nsIn K mainGlobals "str" = some none)
    (z_bool : PySem.W.nsIn K mainGlobals "bool" = some none)
    (z_set : PySem.W.nsIn K mainGlobals "set" = some none)
    (g_STRIKE : PySem.W.nsIn K mainGlobals "STRIKE" = some (some (.str "strike" tk_STRIKE)))
    (g_LETTERS : PySem.W.nsIn K mainGlobals "LETTERS" = some (some (.str "abcdefghijklmnopqrstuvwxyz" tk_LETTERS)))
    (g_LONGEST_NAME : PySem.W.nsIn K mainGlobals "LONGEST_NAME" = some (some (.int 8 tk_LONGEST_NAME)))
    (g_RULES : PySem.W.nsIn K mainGlobals "RULES" = some (some (.ref ad_RULES)))
    (kt_RULES : KTup K ad_RULES ([.str "fall", .str "clear"] : List V))
    (g_COLUMN_CHECKS : PySem.W.nsIn K mainGlobals "COLUMN_CHECKS" = some (some (.ref ad_COLUMN_CHECKS)))
    (kt_COLUMN_CHECKS : KTup K ad_COLUMN_CHECKS ([.str "put", .str "turn", .str "keep", .str "hold", .str "again"] : List V))
    (g_KIND_CHECKS : PySem.W.nsIn K mainGlobals "KIND_CHECKS" = some (some (.ref ad_KIND_CHECKS)))
    (kt_KIND_CHECKS : KTup K ad_KIND_CHECKS ([.str "bare", .str "calm", .str "again"] : List V))
    (g_BOOK_CHECKS : PySem.W.nsIn K mainGlobals "BOOK_CHECKS" = some (some (.ref ad_BOOK_CHECKS)))
    (kt_BOOK_CHECKS : KTup K ad_BOOK_CHECKS ([.str "lone", .str "fresh"] : List V)) :
    ∃ fd : FuncData, (∀ (s : Shared) (v : Value), BindsTo s fd ⟨[v], []⟩ [("_law_script", v)]) ∧ ∀ base : Heap, K.In base → base.Ns mainGlobals mg → FnG l.prog w K mg base CX0 8 fa fd ["_law_script"] (spLaw K) := by
  have e := hfa.symm.trans (PySem.W.mg_of X G a20)
  cases e
  have F0 := fun_mk (st := s__law_draw) l0 c0 k0
  have b0 := F0.binds (ps := ["_law_stream", "_law_many"]) fun _ _ _ _ _ _ us hl => match us, hl with | [_, _], _ => rfl
  have F1 := fun_mk (st := s__law_pick) l1 c1 k1
  have b1 := F1.binds (ps := ["_law_stream", "_law_things"]) fun _ _ _ _ _ _ us hl => match us, hl with | [_, _], _ => rfl
  have F2 := fun_mk (st := s__law_mixed) l2 c2 k2
  have b2 := F2.binds (ps := ["_law_stream", "_law_things"]) fun _ _ _ _ _ _ us hl => match us, hl with | [_, _], _ => rfl
  have F3 := fun_mk (st := s__law_same) l3 c3 k3
  have b3 := F3.binds (ps := ["_law_found", "_law_due"]) fun _ _ _ _ _ _ us hl => match us, hl with | [_, _], _ => rfl
  have F4 := fun_mk (st := s__law_fresh) l4 c4 k4
  have b4 := F4.binds (ps := ["_law_stream", "_law_taken"]) fun _ _ _ _ _ _ us hl => match us, hl with | [_, _], _ => rfl
  have F5 := fun_mk (st := s__law_names) l5 c5 k5
  have b5 := F5.binds (ps := ["_law_stream", "_law_many"]) fun _ _ _ _ _ _ us hl => match us, hl with | [_, _], _ => rfl
  have F6 := fun_mk (st := s__law_shape) l6 c6 k6
  have b6 := F6.binds (ps := ["_law_stream", "_law_many", "_law_most"]) fun _ _ _ _ _ _ us hl => match us, hl with | [_, _, _], _ => rfl
  have F7 := fun_mk (st := s__law_all_checks) l7 c7 k7
  have b7 := F7.binds (ps := ["_law_b"]) fun _ _ _ _ _ _ us hl => match us, hl with | [_], _ => rfl
  have F8 := fun_mk (st := s__law_checked) l8 c8 k8
  have b8 := F8.binds (ps := ["_law_stream", "_law_b"]) fun _ _ _ _ _ _ us hl => match us, hl with | [_, _], _ => rfl
  have F9 := fun_mk (st := s__law_rules) l9 c9 k9
  have b9 := F9.binds (ps := ["_law_stream", "_law_many", "_law_most"]) fun _ _ _ _ _ _ us hl => match us, hl with | [_, _, _], _ => rfl
  have F10 := fun_mk (st := s__law_made) l10 c10 k10
  have b10 := F10.binds (ps := ["_law_b"]) fun _ _ _ _ _ _ us hl => match us, hl with | [_], _ => rfl
  have F11 := fun_mk (st := s__law_markable) l11 c11 k11
  have b11 := F11.binds (ps := ["_law_b"]) fun _ _ _ _ _ _ us hl => match us, hl with | [_], _ => rfl
  have F12 := fun_mk (st := s__law_checks) l12 c12 k12
  have b12 := F12.binds (ps := ["_law_b", "_law_word", "_law_name"]) fun _ _ _ _ _ _ us hl => match us, hl with | [_, _, _], _ => rfl
  have F13 := fun_mk (st := s__law_tight) l13 c13 k13
  have b13 := F13.binds (ps := ["_law_b"]) fun _ _ _ _ _ _ us hl => match us, hl with | [_], _ => rfl
  have F14 := fun_mk (st := s__law_ties) l14 c14 k14
  have b14 := F14.binds (ps := ["_law_b"]) fun _ _ _ _ _ _ us hl => match us, hl with | [_], _ => rfl
  have F15 := fun_mk (st := s__law_ranks) l15 c15 k15
  have b15 := F15.binds (ps := ["_law_b"]) fun _ _ _ _ _ _ us hl => match us, hl with | [_], _ => rfl
  have F16 := fun_mk (st := s__law_with) l16 c16 k16
  have b16 := F16.binds (ps := ["_law_b", "_law_check"]) fun _ _ _ _ _ _ us hl => match us, hl with | [_, _], _ => rfl
  have F17 := fun_mk (st := s__law_bared) l17 c17 k17
  have b17 := F17.binds (ps := ["_law_stream", "_law_b"]) fun _ _ _ _ _ _ us hl => match us, hl with | [_, _], _ => rfl
  have F18 := fun_mk (st := s__law_falls) l18 c18 k18
  have b18 := F18.binds (ps := ["_law_b", "_law_paper"]) fun _ _ _ _ _ _ us hl => match us, hl with | [_, _], _ => rfl
  have F19 := fun_mk (st := s__law_pairs) l19 c19 k19
  have b19 := F19.binds (ps := ["_law_stream", "_law_b"]) fun _ _ _ _ _ _ us hl => match us, hl with | [_, _], _ => rfl
  have F20 := fun_mk (st := s_law) l20 c20 k20
  have b20 := F20.binds (ps := ["_law_script"]) fun _ _ _ _ _ _ us hl => match us, hl with | [_], _ => rfl
  have F21 := fun_mk (st := s_is_name) l21 c21 k21
  have b21 := F21.binds (ps := ["thing"]) fun _ _ _ _ _ _ us hl => match us, hl with | [_], _ => rfl
  have F22 := fun_mk (st := s_is_word_of) l22 c22 k22
  have b22 := F22.binds (ps := ["thing", "words"]) fun _ _ _ _ _ _ us hl => match us, hl with | [_, _], _ => rfl
  have F23 := fun_mk (st := s_is_number) l23 c23 k23
  have b23 := F23.binds (ps := ["thing"]) fun _ _ _ _ _ _ us hl => match us, hl with | [_], _ => rfl
  have F24 := fun_mk (st := s_is_row) l24 c24 k24
  have b24 := F24.binds (ps := ["thing"]) fun _ _ _ _ _ _ us hl => match us, hl with | [_], _ => rfl
  have F25 := fun_mk (st := s__want_free_name) l25 c25 k25
  have b25 := F25.binds (ps := ["name", "taken"]) fun _ _ _ _ _ _ us hl => match us, hl with | [_, _], _ => rfl
  have F26 := fun_mk (st := s__read_kinds) l26 c26 k26
  have b26 := F26.binds (ps := ["kinds"]) fun _ _ _ _ _ _ us hl => match us, hl with | [_], _ => rfl
  have F27 := fun_mk (st := s__read_columns) l27 c27 k27
  have b27 := F27.binds (ps := ["columns", "kinds"]) fun _ _ _ _ _ _ us hl => match us, hl with | [_, _], _ => rfl
  have F28 := fun_mk (st := s__menu_of) l28 c28 k28
  have b28 := F28.binds (ps := ["kinds", "columns"]) fun _ _ _ _ _ _ us hl => match us, hl with | [_, _], _ => rfl
  have F29 := fun_mk (st := s__read_checks) l29 c29 k29
  have b29 := F29.binds (ps := ["checks", "menu"]) fun _ _ _ _ _ _ us hl => match us, hl with | [_, _], _ => rfl
  have F30 := fun_mk (st := s_tight_kinds) l30 c30 k30
  have b30 := F30.binds (ps := ["book"]) fun _ _ _ _ _ _ us hl => match us, hl with | [_], _ => rfl
  have F31 := fun_mk (st := s_tight_columns) l31 c31 k31
  have b31 := F31.binds (ps := ["book"]) fun _ _ _ _ _ _ us hl => match us, hl with | [_], _ => rfl
  have F32 := fun_mk (st := s__is_paper_of_ranks) l32 c32 k32
  have b32 := F32.binds (ps := ["book", "paper"]) fun _ _ _ _ _ _ us hl => match us, hl with | [_, _], _ => rfl
  have F33 := fun_mk (st := s_want_question) l33 c33 k33
  have b33 := F33.binds (ps := ["book", "question"]) fun _ _ _ _ _ _ us hl => match us, hl with | [_, _], _ => rfl
  have F34 := fun_mk (st := s_is_paper) l34 c34 k34
  have b34 := F34.binds (ps := ["book", "question", "paper"]) fun _ _ _ _ _ _ us hl => match us, hl with | [_, _, _], _ => rfl
  subst ed35_0 ed35_1
  have FE35 := FunE.mk2 (st := s_Book_init) l35 c35
  have FD35 : FunD K "__init__" "Book.__init__" (defArgs s_Book_init) (defBody s_Book_init) (defScope s_Book_init) [V.ref de35_0, V.ref de35_1] [] f35 (PySem.W.fnOf "__init__" "Book.__init__" (defArgs s_Book_init) (defBody s_Book_init) (defScope s_Book_init) (.ref T35) kV35 dc35 pm35 an35 cd35 ct35) := ⟨⟨_, _, _, _, _, _, _, _, _, _, rfl, l35, c35, .inr ⟨by simp, T35, _, _, nT35, rfl, lT35, rfl, (.cons rfl (.cons rfl .nil))⟩, .inl rfl⟩, k35⟩
  have b35 : Binds K (PySem.W.fnOf "__init__" "Book.__init__" (defArgs s_Book_init) (defBody s_Book_init) (defScope s_Book_init) (.ref T35) kV35 dc35 pm35 an35 cd35 ct35) ["self", "kinds", "columns", "checks"] [] := by
    obtain ⟨ds, r, b⟩ := FD35.binds1 (ps := ["self", "kinds", "columns", "checks"]) 4 2 (by simp) rfl fun _ _ _ _ _ _ _ us its hl hl2 => match us, its, hl, hl2 with | [_, _, _, _], [_, _], _, _ => ⟨_, rfl, rfl⟩
    have e : ds = [] := by cases r; rfl
    rw [e] at b
    exact b
  have F36 := fun_mk (st := s_Book_kinds) l36 c36 k36
  have b36 := F36.binds (ps := ["self"]) fun _ _ _ _ _ _ us hl => match us, hl with | [_], _ => rfl
  have F37 := fun_mk (st := s_Book_columns) l37 c37 k37
  have b37 := F37.binds (ps := ["self"]) fun _ _ _ _ _ _ us hl => match us, hl with | [_], _ => rfl
  have F38 := fun_mk (st := s_Book_markable) l38 c38 k38
  have b38 := F38.binds (ps := ["self"]) fun _ _ _ _ _ _ us hl => match us, hl with | [_], _ => rfl
  have F39 := fun_mk (st := s_Book_questions) l39 c39 k39
  have b39 := F39.binds (ps := ["self"]) fun _ _ _ _ _ _ us hl => match us, hl with | [_], _ => rfl
  have F40 := fun_mk (st := s_Book_contains) l40 c40 k40
  have b40 := F40.binds (ps := ["self", "check"]) fun _ _ _ _ _ _ us hl => match us, hl with | [_, _], _ => rfl
  have TT : Bt mg := ⟨PySem.W.mg_none_of X G z_int, PySem.W.mg_none_of X G z_len, PySem.W.mg_none_of X G z_range, PySem.W.mg_none_of X G z_list, PySem.W.mg_none_of X G z_tuple, PySem.W.mg_none_of X G z_dict, PySem.W.mg_none_of X G z_isinstance, PySem.W.mg_none_of X G z_all, PySem.W.mg_none_of X G z_any, PySem.W.mg_none_of X G z_repr, PySem.W.mg_none_of X G z_str⟩
  have T2 : Bt4 mg := ⟨PySem.W.mg_none_of X G z_bool, PySem.W.mg_none_of X G z_set⟩
  have TB_Book : Cls K C_Book := ⟨pg_Book, hd_Book, po_Book, sa_Book⟩
  refine ⟨PySem.W.fnOf "law" "law" (defArgs s_law) (defBody s_law) (defScope s_law) .none kV20 dc20 pm20 an20 cd20 ct20, fun s v => .of_eq rfl, fun base _ _ => ?_⟩
  have GG : Gn K mg ad_RULES ad_COLUMN_CHECKS ad_KIND_CHECKS ad_BOOK_CHECKS tk_STRIKE tk_LETTERS tk_LONGEST_NAME := ⟨(PySem.W.mg_of X G g_STRIKE), (PySem.W.mg_of X G g_LETTERS), (PySem.W.mg_of X G g_LONGEST_NAME), (PySem.W.mg_of X G g_RULES), (PySem.W.mg_of X G g_COLUMN_CHECKS), (PySem.W.mg_of X G g_KIND_CHECKS), (PySem.W.mg_of X G g_BOOK_CHECKS), kt_RULES, kt_COLUMN_CHECKS, kt_KIND_CHECKS, kt_BOOK_CHECKS⟩
  have TB : BkT K C_Book := ⟨TB_Book, n_Book_kinds, n_Book_columns, n_Book_menu, n_Book_checks⟩
  have O__law_draw : Own l.prog w K mg base CX0 1 "_law_draw" ["_law_stream", "_law_many"] spDraw := ⟨f0, _, ok_draw F0 TT, PySem.W.mg_of X G a0, k0, b0⟩
  have O__law_pick : Own l.prog w K mg base CX0 2 "_law_pick" ["_law_stream", "_law_things"] (spPick K) := ⟨f1, _, ok_pick F1 TT O__law_draw, PySem.W.mg_of X G a1, k1, b1⟩
  have O__law_fresh : Own l.prog w K mg base CX0 2 "_law_fresh" ["_law_stream", "_law_taken"] spFresh := ⟨f4, _, ok_fresh F4 TT O__law_draw, PySem.W.mg_of X G a4, k4, b4⟩
  have O__law_names : Own l.prog w K mg base CX0 3 "_law_names" ["_law_stream", "_law_many"] spNames := ⟨f5, _, ok_names F5 TT O__law_fresh, PySem.W.mg_of X G a5, k5, b5⟩
  have O__law_shape : Own l.prog w K mg base CX0 4 "_law_shape" ["_law_stream", "_law_many", "_law_most"] spShape := ⟨f6, _, ok_shape F6 TT O__law_draw O__law_pick O__law_names, PySem.W.mg_of X G a6, k6, b6⟩
  have O__law_all_checks : Own l.prog w K mg base CX0 1 "_law_all_checks" ["_law_b"] spAll := ⟨f7, _, ok_all F7 TT, PySem.W.mg_of X G a7, k7, b7⟩
  have O__law_checked : Own l.prog w K mg base CX0 2 "_law_checked" ["_law_stream", "_law_b"] spChecked := ⟨f8, _, ok_checked F8 TT O__law_draw O__law_all_checks, PySem.W.mg_of X G a8, k8, b8⟩
  have O__law_rules : Own l.prog w K mg base CX0 5 "_law_rules" ["_law_stream", "_law_many", "_law_most"] spRules := ⟨f9, _, ok_rules F9 TT O__law_draw O__law_shape O__law_checked, PySem.W.mg_of X G a9, k9, b9⟩
  have O_BadName := own_x1 (P := l.prog) (w := w) (base := base) X G tx_BadName aE_BadName lE_BadName cE_BadName bE_BadName
  have O_NameInUse := own_x1 (P := l.prog) (w := w) (base := base) X G tx_NameInUse aE_NameInUse lE_NameInUse cE_NameInUse bE_NameInUse
  have O_UnknownKind := own_x1 (P := l.prog) (w := w) (base := base) X G tx_UnknownKind aE_UnknownKind lE_UnknownKind cE_UnknownKind bE_UnknownKind
  have O_BadRule := own_x1 (P := l.prog) (w := w) (base := base) X G tx_BadRule aE_BadRule lE_BadRule cE_BadRule bE_BadRule
  have O_UnknownCheck := own_x1 (P := l.prog) (w := w) (base := base) X G tx_UnknownCheck aE_UnknownCheck lE_UnknownCheck cE_UnknownCheck bE_UnknownCheck
  have O_is_name : Own l.prog w K mg base CX0 1 "is_name" ["thing"] (spIsName K) := ⟨f21, _, ok_is_name F21 TT GG, PySem.W.mg_of X G a21, k21, b21⟩
  have O_is_word_of : Own l.prog w K mg base CX0 1 "is_word_of" ["thing", "words"] (spWord K) := ⟨f22, _, ok_word F22 TT, PySem.W.mg_of X G a22, k22, b22⟩
  have O__want_free_name : OwnR l.prog w K mg base 3 "_want_free_name" ["name", "taken"] (spFree K C_BadName C_NameInUse) := ⟨f25, _, ok_free F25 O_is_name O_BadName O_NameInUse, PySem.W.mg_of X G a25, k25, b25⟩
  have O__read_kinds : OwnR l.prog w K mg base 4 "_read_kinds" ["kinds"] (spReadK K C_BadName C_NameInUse) := ⟨f26, _, ok_readK F26 TT O__want_free_name, PySem.W.mg_of X G a26, k26, b26⟩
  have O__read_columns : OwnR l.prog w K mg base 4 "_read_columns" ["columns", "kinds"] (spReadC K C_BadName C_NameInUse C_UnknownKind C_BadRule) := ⟨f27, _, ok_readC F27 TT GG O__want_free_name O_is_word_of O_UnknownKind O_BadRule, PySem.W.mg_of X G a27, k27, b27⟩
  have O__menu_of : Own l.prog w K mg base CX0 1 "_menu_of" ["kinds", "columns"] spMenu := ⟨f28, _, ok_menu F28 TT GG, PySem.W.mg_of X G a28, k28, b28⟩
  have O__read_checks : OwnR l.prog w K mg base 4 "_read_checks" ["checks", "menu"] (spReadX K C_UnknownCheck) := ⟨f29, _, ok_readX F29 TT O_is_word_of O_UnknownCheck, PySem.W.mg_of X G a29, k29, b29⟩
  have O_Book : OwnCR l.prog w K mg base 5 C_Book "Book" ["self", "kinds", "columns", "checks"] (spInit K C_Book ⟨C_BadName, C_NameInUse, C_UnknownKind, C_BadRule, C_UnknownCheck⟩) := ⟨f35, _, ok_init (A := ⟨C_BadName, C_NameInUse, C_UnknownKind, C_BadRule, C_UnknownCheck⟩) FE35 TB O__read_kinds O__read_columns O__menu_of O__read_checks, PySem.W.mg_of X G aC_Book, ⟨mk_Book, a35, i35, kc_Book⟩, b35⟩
  have O_Book_kinds : OwnM l.prog w K mg base CX0 1 C_Book "kinds" ["self"] (spKinds C_Book) := ⟨TB_Book, f36, _, ok_kinds F36 TT TB, ⟨a36, i36, k36⟩, b36⟩
  have O_Book_columns : OwnM l.prog w K mg base CX0 1 C_Book "columns" ["self"] (spColumns C_Book) := ⟨TB_Book, f37, _, ok_columns F37 TT TB, ⟨a37, i37, k37⟩, b37⟩
  have O__law_mixed : Own l.prog w K mg base CX0 2 "_law_mixed" ["_law_stream", "_law_things"] (spMixed K) := ⟨f2, _, ok_mixed F2 TT O__law_draw, PySem.W.mg_of X G a2, k2, b2⟩
  have O__law_same : OwnG l.prog w K mg base CX0 1 "_law_same" ["_law_found", "_law_due"] spSameB := ⟨f3, _, ok_sameB F3 TT, PySem.W.mg_of X G a3, k3, b3⟩
  have O_Book_markable : OwnM l.prog w K mg base CX0 1 C_Book "markable" ["self"] (spMark C_Book) := ⟨TB_Book, f38, _, ok_mark F38 TB, ⟨a38, i38, k38⟩, b38⟩
  have O_Book_questions : OwnM l.prog w K mg base CX0 1 C_Book "questions" ["self"] (spQuest C_Book) := ⟨TB_Book, f39, _, ok_quest F39 TT TB, ⟨a39, i39, k39⟩, b39⟩
  have O_Book_contains : OwnM l.prog w K mg base CX0 2 C_Book "__contains__" ["self", "check"] (spHasB K C_Book) := ⟨TB_Book, f40, _, ok_hasB F40 TT TB O_is_word_of, ⟨a40, i40, k40⟩, b40⟩
  have O_tight_kinds : Own l.prog w K mg base CX0 3 "tight_kinds" ["book"] (spTightK C_Book) := ⟨f30, _, ok_tightK F30 TT O_Book_markable O_Book_contains, PySem.W.mg_of X G a30, k30, b30⟩
  have O_tight_columns : Own l.prog w K mg base CX0 4 "tight_columns" ["book"] (spTightC C_Book) := ⟨f31, _, ok_tightC F31 TT O_tight_kinds O_Book_columns, PySem.W.mg_of X G a31, k31, b31⟩
  have O_is_row : Own l.prog w K mg base CX0 1 "is_row" ["thing"] spRow := ⟨f24, _, ok_row F24 TT, PySem.W.mg_of X G a24, k24, b24⟩
  have O_is_number : Own l.prog w K mg base CX0 1 "is_number" ["thing"] spNum := ⟨f23, _, ok_num F23 TT T2, PySem.W.mg_of X G a23, k23, b23⟩
  have O__is_paper_of_ranks : Own l.prog w K mg base CX0 5 "_is_paper_of_ranks" ["book", "paper"] (spPapR C_Book) := ⟨f32, _, ok_papR F32 TT O_is_row O_is_number O_is_word_of O_Book_kinds O_tight_kinds O_tight_columns, PySem.W.mg_of X G a32, k32, b32⟩
  have O_want_question : Own l.prog w K mg base CX0 2 "want_question" ["book", "question"] (spWantQ C_Book) := ⟨f33, _, ok_wantQ F33 TT O_Book_questions O_is_word_of, PySem.W.mg_of X G a33, k33, b33⟩
  have O_is_paper : Own l.prog w K mg base CX0 6 "is_paper" ["book", "question", "paper"] (spIsPap C_Book) := ⟨f34, _, ok_isPap F34 TT O_want_question O_is_row O__is_paper_of_ranks, PySem.W.mg_of X G a34, k34, b34⟩
  have O__law_made : Own l.prog w K mg base CX0 7 "_law_made" ["_law_b"] (spMadeL C_Book) := ⟨f10, _, ok_madeL F10 O_Book, PySem.W.mg_of X G a10, k10, b10⟩
  have O__law_markable : Own l.prog w K mg base CX0 1 "_law_markable" ["_law_b"] spMarkL := ⟨f11, _, ok_markL F11 TT, PySem.W.mg_of X G a11, k11, b11⟩
  have O__law_checks : Own l.prog w K mg base CX0 1 "_law_checks" ["_law_b", "_law_word", "_law_name"] spChkL := ⟨f12, _, ok_chkL F12 TT, PySem.W.mg_of X G a12, k12, b12⟩
  have O__law_tight : Own l.prog w K mg base CX0 2 "_law_tight" ["_law_b"] spTightL := ⟨f13, _, ok_tightL F13 TT O__law_markable O__law_checks, PySem.W.mg_of X G a13, k13, b13⟩
  have O__law_ties : Own l.prog w K mg base CX0 3 "_law_ties" ["_law_b"] spTiesL := ⟨f14, _, ok_tiesL F14 TT O__law_tight, PySem.W.mg_of X G a14, k14, b14⟩
  have O__law_ranks : Own l.prog w K mg base CX0 4 "_law_ranks" ["_law_b"] spRanksL := ⟨f15, _, ok_ranksL F15 TT O__law_tight O__law_ties, PySem.W.mg_of X G a15, k15, b15⟩
  have O__law_with : Own l.prog w K mg base CX0 1 "_law_with" ["_law_b", "_law_check"] spWithL := ⟨f16, _, ok_withL F16 TT, PySem.W.mg_of X G a16, k16, b16⟩
  have O__law_bared : Own l.prog w K mg base CX0 2 "_law_bared" ["_law_stream", "_law_b"] spBared := ⟨f17, _, ok_bared F17 TT O__law_draw O__law_checks O__law_with, PySem.W.mg_of X G a17, k17, b17⟩
  have O__law_falls : Own l.prog w K mg base CX0 4 "_law_falls" ["_law_b", "_law_paper"] (spFalls K) := ⟨f18, _, ok_falls F18 TT T2 O__law_tight O__law_ties, PySem.W.mg_of X G a18, k18, b18⟩
  have O__law_pairs : Own l.prog w K mg base CX0 5 "_law_pairs" ["_law_stream", "_law_b"] (spPairs K) := ⟨f19, _, ok_pairs F19 TT T2 O__law_draw O__law_pick O__law_mixed O__law_ranks, PySem.W.mg_of X G a19, k19, b19⟩
  exact ok_law F20 TT O__law_rules O__law_bared O__law_made O__law_ranks O_is_paper O__law_draw O__law_pairs O__law_falls O__law_same
end Ls
set_option maxHeartbeats 0
namespace Ls
open PySem PySem.Spec PyProof.Rows L2
/-! ### what the top has written, asked as Bools -/
def nm0 : List PySem.Str := ["_wall", "__name__", "StrikeError", "BadName", "NameInUse", "UnknownKind", "BadRule", "UnknownCheck", "UnlikeBooks", "BadQuestion", "LETTERS", "LONGEST_NAME"]
def nm1 : List PySem.Str := ["STRIKE", "is_name", "is_number", "is_word_of", "is_row", "RULES", "COLUMN_CHECKS", "KIND_CHECKS", "BOOK_CHECKS", "Book", "want_one_shape", "_read_kinds"]
def nm2 : List PySem.Str := ["_read_columns", "_want_free_name", "_menu_of", "_read_checks", "X_WORDS", "OWNERS", "Y_WORDS", "Z_WORDS", "THERE", "FALLEN", "ColumnWatch", "KindWatch"]
def nm3 : List PySem.Str := ["watch_of", "_checks_at", "_lists_of", "_is_made_of", "_owners_that_come", "_is_due", "_has_room", "_with_letter", "_letters_taken", "is_paper", "want_question", "tight_kinds"]
def nm4 : List PySem.Str := ["tight_columns", "_is_paper_of_ranks", "_is_closed", "_law_draw", "_law_pick", "_law_mixed", "_law_same", "_law_fresh", "_law_names", "_law_shape", "_law_all_checks", "_law_checked"]
def nm5 : List PySem.Str := ["_law_rules", "_law_made", "_law_markable", "_law_checks", "_law_tight", "_law_ties", "_law_ranks", "_law_with", "_law_bared", "_law_falls", "_law_pairs"]
def lawNames : List PySem.Str := nm0 ++ nm1 ++ nm2 ++ nm3 ++ nm4 ++ nm5
def wd0 : List WD := [⟨("_law_draw", none), "_law_draw", "_law_draw", defArgs s__law_draw, defBody s__law_draw, defScope s__law_draw, []⟩, ⟨("_law_pick", none), "_law_pick", "_law_pick", defArgs s__law_pick, defBody s__law_pick, defScope s__law_pick, []⟩, ⟨("_law_mixed", none), "_law_mixed", "_law_mixed", defArgs s__law_mixed, defBody s__law_mixed, defScope s__law_mixed, []⟩, ⟨("_law_same", none), "_law_same", "_law_same", defArgs s__law_same, defBody s__law_same, defScope s__law_same, []⟩, ⟨("_law_fresh", none), "_law_fresh", "_law_fresh", defArgs s__law_fresh, defBody s__law_fresh, defScope s__law_fresh, []⟩, ⟨("_law_names", none), "_law_names", "_law_names", defArgs s__law_names, defBody s__law_names, defScope s__law_names, []⟩, ⟨("_law_shape", none), "_law_shape", "_law_shape", defArgs s__law_shape, defBody s__law_shape, defScope s__law_shape, []⟩, ⟨("_law_all_checks", none), "_law_all_checks", "_law_all_checks", defArgs s__law_all_checks, defBody s__law_all_checks, defScope s__law_all_checks, []⟩]
def wd1 : List WD := [⟨("_law_checked", none), "_law_checked", "_law_checked", defArgs s__law_checked, defBody s__law_checked, defScope s__law_checked, []⟩, ⟨("_law_rules", none), "_law_rules", "_law_rules", defArgs s__law_rules, defBody s__law_rules, defScope s__law_rules, []⟩, ⟨("_law_made", none), "_law_made", "_law_made", defArgs s__law_made, defBody s__law_made, defScope s__law_made, []⟩, ⟨("_law_markable", none), "_law_markable", "_law_markable", defArgs s__law_markable, defBody s__law_markable, defScope s__law_markable, []⟩, ⟨("_law_checks", none), "_law_checks", "_law_checks", defArgs s__law_checks, defBody s__law_checks, defScope s__law_checks, []⟩, ⟨("_law_tight", none), "_law_tight", "_law_tight", defArgs s__law_tight, defBody s__law_tight, defScope s__law_tight, []⟩, ⟨("_law_ties", none), "_law_ties", "_law_ties", defArgs s__law_ties, defBody s__law_ties, defScope s__law_ties, []⟩, ⟨("_law_ranks", none), "_law_ranks", "_law_ranks", defArgs s__law_ranks, defBody s__law_ranks, defScope s__law_ranks, []⟩]
def wd2 : List WD := [⟨("_law_with", none), "_law_with", "_law_with", defArgs s__law_with, defBody s__law_with, defScope s__law_with, []⟩, ⟨("_law_bared", none), "_law_bared", "_law_bared", defArgs s__law_bared, defBody s__law_bared, defScope s__law_bared, []⟩, ⟨("_law_falls", none), "_law_falls", "_law_falls", defArgs s__law_falls, defBody s__law_falls, defScope s__law_falls, []⟩, ⟨("_law_pairs", none), "_law_pairs", "_law_pairs", defArgs s__law_pairs, defBody s__law_pairs, defScope s__law_pairs, []⟩, ⟨("law", none), "law", "law", defArgs s_law, defBody s_law, defScope s_law, []⟩, ⟨("is_name", none), "is_name", "is_name", defArgs s_is_name, defBody s_is_name, defScope s_is_name, []⟩, ⟨("is_word_of", none), "is_word_of", "is_word_of", defArgs s_is_word_of, defBody s_is_word_of, defScope s_is_word_of, []⟩, ⟨("is_number", none), "is_number", "is_number", defArgs s_is_number, defBody s_is_number, defScope s_is_number, []⟩]
def wd3 : List WD := [⟨("is_row", none), "is_row", "is_row", defArgs s_is_row, defBody s_is_row, defScope s_is_row, []⟩, ⟨("_want_free_name", none), "_want_free_name", "_want_free_name", defArgs s__want_free_name, defBody s__want_free_name, defScope s__want_free_name, []⟩, ⟨("_read_kinds", none), "_read_kinds", "_read_kinds", defArgs s__read_kinds, defBody s__read_kinds, defScope s__read_kinds, []⟩, ⟨("_read_columns", none), "_read_columns", "_read_columns", defArgs s__read_columns, defBody s__read_columns, defScope s__read_columns, []⟩, ⟨("_menu_of", none), "_menu_of", "_menu_of", defArgs s__menu_of, defBody s__menu_of, defScope s__menu_of, []⟩, ⟨("_read_checks", none), "_read_checks", "_read_checks", defArgs s__read_checks, defBody s__read_checks, defScope s__read_checks, []⟩, ⟨("tight_kinds", none), "tight_kinds", "tight_kinds", defArgs s_tight_kinds, defBody s_tight_kinds, defScope s_tight_kinds, []⟩, ⟨("tight_columns", none), "tight_columns", "tight_columns", defArgs s_tight_columns, defBody s_tight_columns, defScope s_tight_columns, []⟩]
def wd4 : List WD := [⟨("_is_paper_of_ranks", none), "_is_paper_of_ranks", "_is_paper_of_ranks", defArgs s__is_paper_of_ranks, defBody s__is_paper_of_ranks, defScope s__is_paper_of_ranks, []⟩, ⟨("want_question", none), "want_question", "want_question", defArgs s_want_question, defBody s_want_question, defScope s_want_question, []⟩, ⟨("is_paper", none), "is_paper", "is_paper", defArgs s_is_paper, defBody s_is_paper, defScope s_is_paper, []⟩, ⟨("Book", some "__init__"), "__init__", "Book.__init__", defArgs s_Book_init, defBody s_Book_init, defScope s_Book_init, []⟩, ⟨("Book", some "kinds"), "kinds", "Book.kinds", defArgs s_Book_kinds, defBody s_Book_kinds, defScope s_Book_kinds, []⟩, ⟨("Book", some "columns"), "columns", "Book.columns", defArgs s_Book_columns, defBody s_Book_columns, defScope s_Book_columns, []⟩, ⟨("Book", some "markable"), "markable", "Book.markable", defArgs s_Book_markable, defBody s_Book_markable, defScope s_Book_markable, []⟩, ⟨("Book", some "questions"), "questions", "Book.questions", defArgs s_Book_questions, defBody s_Book_questions, defScope s_Book_questions, []⟩]
def wd5 : List WD := [⟨("Book", some "__contains__"), "__contains__", "Book.__contains__", defArgs s_Book_contains, defBody s_Book_contains, defScope s_Book_contains, []⟩, ⟨("BadName", some "__init__"), "__init__", "BadName.__init__", defArgs s_BadName_init, defBody s_BadName_init, defScope s_BadName_init, ["__class__"]⟩, ⟨("NameInUse", some "__init__"), "__init__", "NameInUse.__init__", defArgs s_NameInUse_init, defBody s_NameInUse_init, defScope s_NameInUse_init, ["__class__"]⟩, ⟨("UnknownKind", some "__init__"), "__init__", "UnknownKind.__init__", defArgs s_UnknownKind_init, defBody s_UnknownKind_init, defScope s_UnknownKind_init, ["__class__"]⟩, ⟨("BadRule", some "__init__"), "__init__", "BadRule.__init__", defArgs s_BadRule_init, defBody s_BadRule_init, defScope s_BadRule_init, ["__class__"]⟩, ⟨("UnknownCheck", some "__init__"), "__init__", "UnknownCheck.__init__", defArgs s_UnknownCheck_init, defBody s_UnknownCheck_init, defScope s_UnknownCheck_init, ["__class__"]⟩]
def lawDefs : List WD := wd0 ++ wd1 ++ wd2 ++ wd3 ++ wd4 ++ wd5
def ex0 (K : PySem.W.Frag) : Bool := He.eqO (PySem.W.nsIn K mainGlobals "_law_draw") (some (some (.ref (He.fAd K ("_law_draw", none))))) && (plB K ("_law_draw", none) "_law_draw" && (He.eqO (PySem.W.nsIn K mainGlobals "_law_pick") (some (some (.ref (He.fAd K ("_law_pick", none))))) && (plB K ("_law_pick", none) "_law_pick" && (He.eqO (PySem.W.nsIn K mainGlobals "_law_mixed") (some (some (.ref (He.fAd K ("_law_mixed", none))))) && (plB K ("_law_mixed", none) "_law_mixed" && (He.eqO (PySem.W.nsIn K mainGlobals "_law_same") (some (some (.ref (He.fAd K ("_law_same", none))))) && (plB K ("_law_same", none) "_law_same" && (He.eqO (PySem.W.nsIn K mainGlobals "_law_fresh") (some (some (.ref (He.fAd K ("_law_fresh", none))))) && (plB K ("_law_fresh", none) "_law_fresh" && (He.eqO (PySem.W.nsIn K mainGlobals "_law_names") (some (some (.ref (He.fAd K ("_law_names", none))))) && (plB K ("_law_names", none) "_law_names")))))))))))
def ex1 (K : PySem.W.Frag) : Bool := He.eqO (PySem.W.nsIn K mainGlobals "_law_shape") (some (some (.ref (He.fAd K ("_law_shape", none))))) && (plB K ("_law_shape", none) "_law_shape" && (He.eqO (PySem.W.nsIn K mainGlobals "_law_all_checks") (some (some (.ref (He.fAd K ("_law_all_checks", none))))) && (plB K ("_law_all_checks", none) "_law_all_checks" && (He.eqO (PySem.W.nsIn K mainGlobals "_law_checked") (some (some (.ref (He.fAd K ("_law_checked", none))))) && (plB K ("_law_checked", none) "_law_checked" && (He.eqO (PySem.W.nsIn K mainGlobals "_law_rules") (some (some (.ref (He.fAd K ("_law_rules", none))))) && (plB K ("_law_rules", none) "_law_rules" && (He.eqO (PySem.W.nsIn K mainGlobals "_law_made") (some (some (.ref (He.fAd K ("_law_made", none))))) && (plB K ("_law_made", none) "_law_made" && (He.eqO (PySem.W.nsIn K mainGlobals "_law_markable") (some (some (.ref (He.fAd K ("_law_markable", none))))) && (plB K ("_law_markable", none) "_law_markable")))))))))))
def ex2 (K : PySem.W.Frag) : Bool := He.eqO (PySem.W.nsIn K mainGlobals "_law_checks") (some (some (.ref (He.fAd K ("_law_checks", none))))) && (plB K ("_law_checks", none) "_law_checks" && (He.eqO (PySem.W.nsIn K mainGlobals "_law_tight") (some (some (.ref (He.fAd K ("_law_tight", none))))) && (plB K ("_law_tight", none) "_law_tight" && (He.eqO (PySem.W.nsIn K mainGlobals "_law_ties") (some (some (.ref (He.fAd K ("_law_ties", none))))) && (plB K ("_law_ties", none) "_law_ties" && (He.eqO (PySem.W.nsIn K mainGlobals "_law_ranks") (some (some (.ref (He.fAd K ("_law_ranks", none))))) && (plB K ("_law_ranks", none) "_law_ranks" && (He.eqO (PySem.W.nsIn K mainGlobals "_law_with") (some (some (.ref (He.fAd K ("_law_with", none))))) && (plB K ("_law_with", none) "_law_with" && (He.eqO (PySem.W.nsIn K mainGlobals "_law_bared") (some (some (.ref (He.fAd K ("_law_bared", none))))) && (plB K ("_law_bared", none) "_law_bared")))))))))))
def ex3 (K : PySem.W.Frag) : Bool := He.eqO (PySem.W.nsIn K mainGlobals "_law_falls") (some (some (.ref (He.fAd K ("_law_falls", none))))) && (plB K ("_law_falls", none) "_law_falls" && (He.eqO (PySem.W.nsIn K mainGlobals "_law_pairs") (some (some (.ref (He.fAd K ("_law_pairs", none))))) && (plB K ("_law_pairs", none) "_law_pairs" && (He.eqO (PySem.W.nsIn K mainGlobals "law") (some (some (.ref (He.fAd K ("law", none))))) && (plB K ("law", none) "law" && (He.eqO (PySem.W.nsIn K mainGlobals "is_name") (some (some (.ref (He.fAd K ("is_name", none))))) && (plB K ("is_name", none) "is_name" && (He.eqO (PySem.W.nsIn K mainGlobals "is_word_of") (some (some (.ref (He.fAd K ("is_word_of", none))))) && (plB K ("is_word_of", none) "is_word_of" && (He.eqO (PySem.W.nsIn K mainGlobals "is_number") (some (some (.ref (He.fAd K ("is_number", none))))) && (plB K ("is_number", none) "is_number")))))))))))
def ex4 (K : PySem.W.Frag) : Bool := He.eqO (PySem.W.nsIn K mainGlobals "is_row") (some (some (.ref (He.fAd K ("is_row", none))))) && (plB K ("is_row", none) "is_row" && (He.eqO (PySem.W.nsIn K mainGlobals "_want_free_name") (some (some (.ref (He.fAd K ("_want_free_name", none))))) && (plB K ("_want_free_name", none) "_want_free_name" && (He.eqO (PySem.W.nsIn K mainGlobals "_read_kinds") (some (some (.ref (He.fAd K ("_read_kinds", none))))) && (plB K ("_read_kinds", none) "_read_kinds" && (He.eqO (PySem.W.nsIn K mainGlobals "_read_columns") (some (some (.ref (He.fAd K ("_read_columns", none))))) && (plB K ("_read_columns", none) "_read_columns" && (He.eqO (PySem.W.nsIn K mainGlobals "_menu_of") (some (some (.ref (He.fAd K ("_menu_of", none))))) && (plB K ("_menu_of", none) "_menu_of" && (He.eqO (PySem.W.nsIn K mainGlobals "_read_checks") (some (some (.ref (He.fAd K ("_read_checks", none))))) && (plB K ("_read_checks", none) "_read_checks")))))))))))
def ex5 (K : PySem.W.Frag) : Bool := He.eqO (PySem.W.nsIn K mainGlobals "tight_kinds") (some (some (.ref (He.fAd K ("tight_kinds", none))))) && (plB K ("tight_kinds", none) "tight_kinds" && (He.eqO (PySem.W.nsIn K mainGlobals "tight_columns") (some (some (.ref (He.fAd K ("tight_columns", none))))) && (plB K ("tight_columns", none) "tight_columns" && (He.eqO (PySem.W.nsIn K mainGlobals "_is_paper_of_ranks") (some (some (.ref (He.fAd K ("_is_paper_of_ranks", none))))) && (plB K ("_is_paper_of_ranks", none) "_is_paper_of_ranks" && (He.eqO (PySem.W.nsIn K mainGlobals "want_question") (some (some (.ref (He.fAd K ("want_question", none))))) && (plB K ("want_question", none) "want_question" && (He.eqO (PySem.W.nsIn K mainGlobals "is_paper") (some (some (.ref (He.fAd K ("is_paper", none))))) && (plB K ("is_paper", none) "is_paper" && (He.eqO (PySem.W.nsIn K mainGlobals "Book") (some (some (.ref (He.ga K "Book")))) && (PySem.W.plainGet K (He.ga K "Book") Str.empty)))))))))))
def ex6 (K : PySem.W.Frag) : Bool := PySem.W.hasDictIn K (He.ga K "Book") && (PySem.W.plainOver K (He.ga K "Book") && (He.eqO (PySem.W.findIn K (.ref (He.ga K "Book")) "__setattr__") (some (some (.builtin "object.__setattr__"))) && (PySem.W.makesIn K (He.ga K "Book") && (PySem.W.keepIn K (.ref (He.ga K "Book")) && (He.eqO (PySem.W.findIn K (.ref (He.ga K "Book")) "_kinds") (some none) && (He.eqO (PySem.W.findIn K (.ref (He.ga K "Book")) "_columns") (some none) && (He.eqO (PySem.W.findIn K (.ref (He.ga K "Book")) "_menu") (some none) && (He.eqO (PySem.W.findIn K (.ref (He.ga K "Book")) "_checks") (some none) && (He.eqO (PySem.W.findIn K (.ref (He.ga K "Book")) "__init__") (some (some (.ref (He.fAd K ("Book", some "__init__"))))) && (PySem.W.isFn K (.ref (He.fAd K ("Book", some "__init__"))) && (dfB K ("Book", some "__init__") "Book.__init__")))))))))))
def ex7 (K : PySem.W.Frag) : Bool := He.eqO (PySem.W.findIn K (.ref (He.ga K "Book")) "kinds") (some (some (.ref (He.fAd K ("Book", some "kinds"))))) && (PySem.W.isFn K (.ref (He.fAd K ("Book", some "kinds"))) && (plB K ("Book", some "kinds") "Book.kinds" && (He.eqO (PySem.W.findIn K (.ref (He.ga K "Book")) "columns") (some (some (.ref (He.fAd K ("Book", some "columns"))))) && (PySem.W.isFn K (.ref (He.fAd K ("Book", some "columns"))) && (plB K ("Book", some "columns") "Book.columns" && (He.eqO (PySem.W.findIn K (.ref (He.ga K "Book")) "markable") (some (some (.ref (He.fAd K ("Book", some "markable"))))) && (PySem.W.isFn K (.ref (He.fAd K ("Book", some "markable"))) && (plB K ("Book", some "markable") "Book.markable" && (He.eqO (PySem.W.findIn K (.ref (He.ga K "Book")) "questions") (some (some (.ref (He.fAd K ("Book", some "questions"))))) && (PySem.W.isFn K (.ref (He.fAd K ("Book", some "questions"))) && (plB K ("Book", some "questions") "Book.questions")))))))))))
def ex8 (K : PySem.W.Frag) : Bool := He.eqO (PySem.W.findIn K (.ref (He.ga K "Book")) "__contains__") (some (some (.ref (He.fAd K ("Book", some "__contains__"))))) && (PySem.W.isFn K (.ref (He.fAd K ("Book", some "__contains__"))) && (plB K ("Book", some "__contains__") "Book.__contains__" && (He.eqO (PySem.W.nsIn K mainGlobals "BadName") (some (some (.ref (He.ga K "BadName")))) && (He.eqO (PySem.W.findIn K (.ref (He.ga K "BadName")) "__init__") (some (some (.ref (He.fAd K ("BadName", some "__init__"))))) && (erB K ("BadName", some "__init__") "BadName.__init__" && (errB (PySem.Challenge.rw_longstrike_k48_rank_papers).prog K (He.ga K "BadName") (He.fAd K ("BadName", some "__init__")) (cellOf K ("BadName", some "__init__")) (codeAd K ("BadName", some "__init__")) ["name"] && (He.eqO (PySem.W.nsIn K mainGlobals "NameInUse") (some (some (.ref (He.ga K "NameInUse")))) && (He.eqO (PySem.W.findIn K (.ref (He.ga K "NameInUse")) "__init__") (some (some (.ref (He.fAd K ("NameInUse", some "__init__"))))) && (erB K ("NameInUse", some "__init__") "NameInUse.__init__" && (errB (PySem.Challenge.rw_longstrike_k48_rank_papers).prog K (He.ga K "NameInUse") (He.fAd K ("NameInUse", some "__init__")) (cellOf K ("NameInUse", some "__init__")) (codeAd K ("NameInUse", some "__init__")) ["name"] && (He.eqO (PySem.W.nsIn K mainGlobals "UnknownKind") (some (some (.ref (He.ga K "UnknownKind")))))))))))))))
def ex9 (K : PySem.W.Frag) : Bool := He.eqO (PySem.W.findIn K (.ref (He.ga K "UnknownKind")) "__init__") (some (some (.ref (He.fAd K ("UnknownKind", some "__init__"))))) && (erB K ("UnknownKind", some "__init__") "UnknownKind.__init__" && (errB (PySem.Challenge.rw_longstrike_k48_rank_papers).prog K (He.ga K "UnknownKind") (He.fAd K ("UnknownKind", some "__init__")) (cellOf K ("UnknownKind", some "__init__")) (codeAd K ("UnknownKind", some "__init__")) ["kind"] && (He.eqO (PySem.W.nsIn K mainGlobals "BadRule") (some (some (.ref (He.ga K "BadRule")))) && (He.eqO (PySem.W.findIn K (.ref (He.ga K "BadRule")) "__init__") (some (some (.ref (He.fAd K ("BadRule", some "__init__"))))) && (erB K ("BadRule", some "__init__") "BadRule.__init__" && (errB (PySem.Challenge.rw_longstrike_k48_rank_papers).prog K (He.ga K "BadRule") (He.fAd K ("BadRule", some "__init__")) (cellOf K ("BadRule", some "__init__")) (codeAd K ("BadRule", some "__init__")) ["rule"] && (He.eqO (PySem.W.nsIn K mainGlobals "UnknownCheck") (some (some (.ref (He.ga K "UnknownCheck")))) && (He.eqO (PySem.W.findIn K (.ref (He.ga K "UnknownCheck")) "__init__") (some (some (.ref (He.fAd K ("UnknownCheck", some "__init__"))))) && (erB K ("UnknownCheck", some "__init__") "UnknownCheck.__init__" && (errB (PySem.Challenge.rw_longstrike_k48_rank_papers).prog K (He.ga K "UnknownCheck") (He.fAd K ("UnknownCheck", some "__init__")) (cellOf K ("UnknownCheck", some "__init__")) (codeAd K ("UnknownCheck", some "__init__")) ["check"] && (He.eqO (PySem.W.nsIn K mainGlobals "int") (some none))))))))))))
def ex10 (K : PySem.W.Frag) : Bool := He.eqO (PySem.W.nsIn K mainGlobals "len") (some none) && (He.eqO (PySem.W.nsIn K mainGlobals "range") (some none) && (He.eqO (PySem.W.nsIn K mainGlobals "list") (some none) && (He.eqO (PySem.W.nsIn K mainGlobals "tuple") (some none) && (He.eqO (PySem.W.nsIn K mainGlobals "dict") (some none) && (He.eqO (PySem.W.nsIn K mainGlobals "isinstance") (some none) && (He.eqO (PySem.W.nsIn K mainGlobals "all") (some none) && (He.eqO (PySem.W.nsIn K mainGlobals "any") (some none) && (He.eqO (PySem.W.nsIn K mainGlobals "repr") (some none) && (He.eqO (PySem.W.nsIn K mainGlobals "str") (some none) && (He.eqO (PySem.W.nsIn K mainGlobals "bool") (some none) && (He.eqO (PySem.W.nsIn K mainGlobals "set") (some none))))))))))))
def ex11 (K : PySem.W.Frag) : Bool := strB K "STRIKE" "strike" && (strB K "LETTERS" "abcdefghijklmnopqrstuvwxyz" && (intB K "LONGEST_NAME" 8 && (He.eqO (PySem.W.nsIn K mainGlobals "RULES") (some (some (.ref (He.ga K "RULES")))) && (tupB K (He.ga K "RULES") ["fall", "clear"] && (He.eqO (PySem.W.nsIn K mainGlobals "COLUMN_CHECKS") (some (some (.ref (He.ga K "COLUMN_CHECKS")))) && (tupB K (He.ga K "COLUMN_CHECKS") ["put", "turn", "keep", "hold", "again"] && (He.eqO (PySem.W.nsIn K mainGlobals "KIND_CHECKS") (some (some (.ref (He.ga K "KIND_CHECKS")))) && (tupB K (He.ga K "KIND_CHECKS") ["bare", "calm", "again"] && (He.eqO (PySem.W.nsIn K mainGlobals "BOOK_CHECKS") (some (some (.ref (He.ga K "BOOK_CHECKS")))) && (tupB K (He.ga K "BOOK_CHECKS") ["lone", "fresh"]))))))))))
def exB (K : PySem.W.Frag) : Bool := ex0 K && (ex1 K && (ex2 K && (ex3 K && (ex4 K && (ex5 K && (ex6 K && (ex7 K && (ex8 K && (ex9 K && (ex10 K && (ex11 K)))))))))))

end Ls
set_option maxHeartbeats 0
namespace Ls
open PySem PySem.Spec PyProof.Rows L2
/-! ### the run -/
def ad0 : List Addr := [3, 2, 30, 31, 38, 49, 50, 52, 53, 59, 70, 71, 73, 74, 80, 91, 92, 94, 95, 101]
def ad1 : List Addr := [112, 113, 115, 116, 122, 133, 134, 136, 137, 185, 186, 192, 193, 199, 200, 206, 207, 208, 209, 210]
def ad2 : List Addr := [211, 221, 227, 228, 234, 235, 241, 242, 267, 268, 272, 273, 286, 287, 353, 354, 369, 370, 374, 375]
def ad3 : List Addr := [381, 382, 386, 387, 391, 392, 594, 595, 601, 602, 606, 607, 611, 612, 616, 617, 628, 629, 635, 636]
def ad4 : List Addr := [640, 641, 647, 648, 652, 653, 659, 660, 664, 665, 669, 670, 674, 675, 681, 682, 688, 689, 693, 694]
def ad5 : List Addr := [700, 701, 705, 706, 710, 711, 715, 716, 722, 723, 729, 730, 734, 735, 739, 740, 746, 747]
def lawAds : List Addr := ad0 ++ ad1 ++ ad2 ++ ad3 ++ ad4 ++ ad5
abbrev lawRow : PySem.W.OpenRow := PySem.W.OpenLaw.row PySem.Challenge.rw_longstrike_k48_rank_papers
abbrev lawView : Program := PySem.W.view lawRow.prog [76]
abbrev lawHook : PySem.W.Hook := hookW lawAds lawDefs exB
def lawObs (s : PySem.W.SharedT) : Bool × List (Option FdW) := obsW lawAds lawDefs exB (HandSHeadRun.getT s)
theorem lawObs_eq (s : PySem.W.SharedT) : lawObs s = lawHook.obs s.abs := obsW_eq (HandSHeadRun.getT_eq s)
theorem law_run0 (w : World) : HandSHeadRun.RunEq lawRow lawView lawHook lawObs 8000 lawNames (w.withFollow "special-get-raises" false) := by
  intro os
  kernel_rfl
theorem law_run1 (w : World) : HandSHeadRun.RunEq lawRow lawView lawHook lawObs 8000 lawNames (w.withFollow "special-get-raises" true) := by
  intro os
  kernel_rfl
theorem law_run (w : World) : HandSHeadRun.RunEq lawRow lawView lawHook lawObs 8000 lawNames w := by
  refine PySem.W.byRow2 "special-get-raises" (fun w => law_run0 w) (fun w => law_run1 w) w
theorem law_facts {w : World} {K : PySem.W.Frag} {h : Heap} {mg : Str → Option Value} {fa : Addr} (X : K.In h) (G : h.Ns mainGlobals mg) (hfa : mg "law" = some (.ref fa)) (hx : exB K = true) (c : (lawDefs.map fun d => wOf K d.at_) = lawDefs.map WD.val) :
    ∃ fd : FuncData, (∀ (s : Shared) (v : Value), BindsTo s fd ⟨[v], []⟩ [("_law_script", v)]) ∧ ∀ base : Heap, K.In base → base.Ns mainGlobals mg → FnG (PySem.Challenge.rw_longstrike_k48_rank_papers).prog w K mg base CX0 8 fa fd ["_law_script"] (spLaw K) := by
  unfold exB at hx
  obtain ⟨hb0, hx⟩ := He.ba (show (ex0 K && _) = true from hx)
  unfold ex0 at hb0
  obtain ⟨h0, hb0⟩ := He.ba hb0
  obtain ⟨h1, hb0⟩ := He.ba hb0
  obtain ⟨h2, hb0⟩ := He.ba hb0
  obtain ⟨h3, hb0⟩ := He.ba hb0
  obtain ⟨h4, hb0⟩ := He.ba hb0
  obtain ⟨h5, hb0⟩ := He.ba hb0
  obtain ⟨h6, hb0⟩ := He.ba hb0
  obtain ⟨h7, hb0⟩ := He.ba hb0
  obtain ⟨h8, hb0⟩ := He.ba hb0
  obtain ⟨h9, hb0⟩ := He.ba hb0
  obtain ⟨h10, hb0⟩ := He.ba hb0
  have h11 := hb0
  obtain ⟨hb1, hx⟩ := He.ba (show (ex1 K && _) = true from hx)
  unfold ex1 at hb1
  obtain ⟨h12, hb1⟩ := He.ba hb1
  obtain ⟨h13, hb1⟩ := He.ba hb1
  obtain ⟨h14, hb1⟩ := He.ba hb1
  obtain ⟨h15, hb1⟩ := He.ba hb1
  obtain ⟨h16, hb1⟩ := He.ba hb1
  obtain ⟨h17, hb1⟩ := He.ba hb1
  obtain ⟨h18, hb1⟩ := He.ba hb1
  obtain ⟨h19, hb1⟩ := He.ba hb1
  obtain ⟨h20, hb1⟩ := He.ba hb1
  obtain ⟨h21, hb1⟩ := He.ba hb1
  obtain ⟨h22, hb1⟩ := He.ba hb1
  have h23 := hb1
  obtain ⟨hb2, hx⟩ := He.ba (show (ex2 K && _) = true from hx)
  unfold ex2 at hb2
  obtain ⟨h24, hb2⟩ := He.ba hb2
  obtain ⟨h25, hb2⟩ := He.ba hb2
  obtain ⟨h26, hb2⟩ := He.ba hb2
  obtain ⟨h27, hb2⟩ := He.ba hb2
  obtain ⟨h28, hb2⟩ := He.ba hb2
  obtain ⟨h29, hb2⟩ := He.ba hb2
  obtain ⟨h30, hb2⟩ := He.ba hb2
  obtain ⟨h31, hb2⟩ := He.ba hb2
  obtain ⟨h32, hb2⟩ := He.ba hb2
  obtain ⟨h33, hb2⟩ := He.ba hb2
  obtain ⟨h34, hb2⟩ := He.ba hb2
  have h35 := hb2
  obtain ⟨hb3, hx⟩ := He.ba (show (ex3 K && _) = true from hx)
  unfold ex3 at hb3
  obtain ⟨h36, hb3⟩ := He.ba hb3
  obtain ⟨h37, hb3⟩ := He.ba hb3
  obtain ⟨h38, hb3⟩ := He.ba hb3
  obtain ⟨h39, hb3⟩ := He.ba hb3
  obtain ⟨h40, hb3⟩ := He.ba hb3
  obtain ⟨h41, hb3⟩ := He.ba hb3
  obtain ⟨h42, hb3⟩ := He.ba hb3
  obtain ⟨h43, hb3⟩ := He.ba hb3
  obtain ⟨h44, hb3⟩ := He.ba hb3
  obtain ⟨h45, hb3⟩ := He.ba hb3
  obtain ⟨h46, hb3⟩ := He.ba hb3
  have h47 := hb3
  obtain ⟨hb4, hx⟩ := He.ba (show (ex4 K && _) = true from hx)
  unfold ex4 at hb4
  obtain ⟨h48, hb4⟩ := He.ba hb4
  obtain ⟨h49, hb4⟩ := He.ba hb4
  obtain ⟨h50, hb4⟩ := He.ba hb4
  obtain ⟨h51, hb4⟩ := He.ba hb4
  obtain ⟨h52, hb4⟩ := He.ba hb4
  obtain ⟨h53, hb4⟩ := He.ba hb4
  obtain ⟨h54, hb4⟩ := He.ba hb4
  obtain ⟨h55, hb4⟩ := He.ba hb4
  obtain ⟨h56, hb4⟩ := He.ba hb4
  obtain ⟨h57, hb4⟩ := He.ba hb4
  obtain ⟨h58, hb4⟩ := He.ba hb4
  have h59 := hb4
  obtain ⟨hb5, hx⟩ := He.ba (show (ex5 K && _) = true from hx)
  unfold ex5 at hb5
  obtain ⟨h60, hb5⟩ := He.ba hb5
  obtain ⟨h61, hb5⟩ := He.ba hb5
  obtain ⟨h62, hb5⟩ := He.ba hb5
  obtain ⟨h63, hb5⟩ := He.ba hb5
  obtain ⟨h64, hb5⟩ := He.ba hb5
  obtain ⟨h65, hb5⟩ := He.ba hb5
  obtain ⟨h66, hb5⟩ := He.ba hb5
  obtain ⟨h67, hb5⟩ := He.ba hb5
  obtain ⟨h68, hb5⟩ := He.ba hb5
  obtain ⟨h69, hb5⟩ := He.ba hb5
  obtain ⟨h70, hb5⟩ := He.ba hb5
  have h71 := hb5
  obtain ⟨hb6, hx⟩ := He.ba (show (ex6 K && _) = true from hx)
  unfold ex6 at hb6
  obtain ⟨h72, hb6⟩ := He.ba hb6
  obtain ⟨h73, hb6⟩ := He.ba hb6
  obtain ⟨h74, hb6⟩ := He.ba hb6
  obtain ⟨h75, hb6⟩ := He.ba hb6
  obtain ⟨h76, hb6⟩ := He.ba hb6
  obtain ⟨h77, hb6⟩ := He.ba hb6
  obtain ⟨h78, hb6⟩ := He.ba hb6
  obtain ⟨h79, hb6⟩ := He.ba hb6
  obtain ⟨h80, hb6⟩ := He.ba hb6
  obtain ⟨h81, hb6⟩ := He.ba hb6
  obtain ⟨h82, hb6⟩ := He.ba hb6
  have h83 := hb6
  obtain ⟨hb7, hx⟩ := He.ba (show (ex7 K && _) = true from hx)
  unfold ex7 at hb7
  obtain ⟨h84, hb7⟩ := He.ba hb7
  obtain ⟨h85, hb7⟩ := He.ba hb7
  obtain ⟨h86, hb7⟩ := He.ba hb7
  obtain ⟨h87, hb7⟩ := He.ba hb7
  obtain ⟨h88, hb7⟩ := He.ba hb7
  obtain ⟨h89, hb7⟩ := He.ba hb7
  obtain ⟨h90, hb7⟩ := He.ba hb7
  obtain ⟨h91, hb7⟩ := He.ba hb7
  obtain ⟨h92, hb7⟩ := He.ba hb7
  obtain ⟨h93, hb7⟩ := He.ba hb7
  obtain ⟨h94, hb7⟩ := He.ba hb7
  have h95 := hb7
  obtain ⟨hb8, hx⟩ := He.ba (show (ex8 K && _) = true from hx)
  unfold ex8 at hb8
  obtain ⟨h96, hb8⟩ := He.ba hb8
  obtain ⟨h97, hb8⟩ := He.ba hb8
  obtain ⟨h98, hb8⟩ := He.ba hb8
  obtain ⟨h99, hb8⟩ := He.ba hb8
  obtain ⟨h100, hb8⟩ := He.ba hb8
  obtain ⟨h101, hb8⟩ := He.ba hb8
  obtain ⟨h102, hb8⟩ := He.ba hb8
  obtain ⟨h103, hb8⟩ := He.ba hb8
  obtain ⟨h104, hb8⟩ := He.ba hb8
  obtain ⟨h105, hb8⟩ := He.ba hb8
  obtain ⟨h106, hb8⟩ := He.ba hb8
  have h107 := hb8
  obtain ⟨hb9, hx⟩ := He.ba (show (ex9 K && _) = true from hx)
  unfold ex9 at hb9
  obtain ⟨h108, hb9⟩ := He.ba hb9
  obtain ⟨h109, hb9⟩ := He.ba hb9
  obtain ⟨h110, hb9⟩ := He.ba hb9
  obtain ⟨h111, hb9⟩ := He.ba hb9
  obtain ⟨h112, hb9⟩ := He.ba hb9
  obtain ⟨h113, hb9⟩ := He.ba hb9
  obtain ⟨h114, hb9⟩ := He.ba hb9
  obtain ⟨h115, hb9⟩ := He.ba hb9
  obtain ⟨h116, hb9⟩ := He.ba hb9
  obtain ⟨h117, hb9⟩ := He.ba hb9
  obtain ⟨h118, hb9⟩ := He.ba hb9
  have h119 := hb9
  obtain ⟨hb10, hx⟩ := He.ba (show (ex10 K && _) = true from hx)
  unfold ex10 at hb10
  obtain ⟨h120, hb10⟩ := He.ba hb10
  obtain ⟨h121, hb10⟩ := He.ba hb10
  obtain ⟨h122, hb10⟩ := He.ba hb10
  obtain ⟨h123, hb10⟩ := He.ba hb10
  obtain ⟨h124, hb10⟩ := He.ba hb10
  obtain ⟨h125, hb10⟩ := He.ba hb10
  obtain ⟨h126, hb10⟩ := He.ba hb10
  obtain ⟨h127, hb10⟩ := He.ba hb10
  obtain ⟨h128, hb10⟩ := He.ba hb10
  obtain ⟨h129, hb10⟩ := He.ba hb10
  obtain ⟨h130, hb10⟩ := He.ba hb10
  have h131 := hb10
  have hb11 := hx
  unfold ex11 at hb11
  obtain ⟨h132, hb11⟩ := He.ba hb11
  obtain ⟨h133, hb11⟩ := He.ba hb11
  obtain ⟨h134, hb11⟩ := He.ba hb11
  obtain ⟨h135, hb11⟩ := He.ba hb11
  obtain ⟨h136, hb11⟩ := He.ba hb11
  obtain ⟨h137, hb11⟩ := He.ba hb11
  obtain ⟨h138, hb11⟩ := He.ba hb11
  obtain ⟨h139, hb11⟩ := He.ba hb11
  obtain ⟨h140, hb11⟩ := He.ba hb11
  obtain ⟨h141, hb11⟩ := He.ba hb11
  have h142 := hb11
  have a0 := He.eqO_ok h0
  obtain ⟨_, _, _, _, _, _, _, _, _, l0, c0, k0⟩ := pl_ok (wd_at c 0 rfl) rfl h1
  have a1 := He.eqO_ok h2
  obtain ⟨_, _, _, _, _, _, _, _, _, l1, c1, k1⟩ := pl_ok (wd_at c 1 rfl) rfl h3
  have a2 := He.eqO_ok h4
  obtain ⟨_, _, _, _, _, _, _, _, _, l2, c2, k2⟩ := pl_ok (wd_at c 2 rfl) rfl h5
  have a3 := He.eqO_ok h6
  obtain ⟨_, _, _, _, _, _, _, _, _, l3, c3, k3⟩ := pl_ok (wd_at c 3 rfl) rfl h7
  have a4 := He.eqO_ok h8
  obtain ⟨_, _, _, _, _, _, _, _, _, l4, c4, k4⟩ := pl_ok (wd_at c 4 rfl) rfl h9
  have a5 := He.eqO_ok h10
  obtain ⟨_, _, _, _, _, _, _, _, _, l5, c5, k5⟩ := pl_ok (wd_at c 5 rfl) rfl h11
  have a6 := He.eqO_ok h12
  obtain ⟨_, _, _, _, _, _, _, _, _, l6, c6, k6⟩ := pl_ok (wd_at c 6 rfl) rfl h13
  have a7 := He.eqO_ok h14
  obtain ⟨_, _, _, _, _, _, _, _, _, l7, c7, k7⟩ := pl_ok (wd_at c 7 rfl) rfl h15
  have a8 := He.eqO_ok h16
  obtain ⟨_, _, _, _, _, _, _, _, _, l8, c8, k8⟩ := pl_ok (wd_at c 8 rfl) rfl h17
  have a9 := He.eqO_ok h18
  obtain ⟨_, _, _, _, _, _, _, _, _, l9, c9, k9⟩ := pl_ok (wd_at c 9 rfl) rfl h19
  have a10 := He.eqO_ok h20
  obtain ⟨_, _, _, _, _, _, _, _, _, l10, c10, k10⟩ := pl_ok (wd_at c 10 rfl) rfl h21
  have a11 := He.eqO_ok h22
  obtain ⟨_, _, _, _, _, _, _, _, _, l11, c11, k11⟩ := pl_ok (wd_at c 11 rfl) rfl h23
  have a12 := He.eqO_ok h24
  obtain ⟨_, _, _, _, _, _, _, _, _, l12, c12, k12⟩ := pl_ok (wd_at c 12 rfl) rfl h25
  have a13 := He.eqO_ok h26
  obtain ⟨_, _, _, _, _, _, _, _, _, l13, c13, k13⟩ := pl_ok (wd_at c 13 rfl) rfl h27
  have a14 := He.eqO_ok h28
  obtain ⟨_, _, _, _, _, _, _, _, _, l14, c14, k14⟩ := pl_ok (wd_at c 14 rfl) rfl h29
  have a15 := He.eqO_ok h30
  obtain ⟨_, _, _, _, _, _, _, _, _, l15, c15, k15⟩ := pl_ok (wd_at c 15 rfl) rfl h31
  have a16 := He.eqO_ok h32
  obtain ⟨_, _, _, _, _, _, _, _, _, l16, c16, k16⟩ := pl_ok (wd_at c 16 rfl) rfl h33
  have a17 := He.eqO_ok h34
  obtain ⟨_, _, _, _, _, _, _, _, _, l17, c17, k17⟩ := pl_ok (wd_at c 17 rfl) rfl h35
  have a18 := He.eqO_ok h36
  obtain ⟨_, _, _, _, _, _, _, _, _, l18, c18, k18⟩ := pl_ok (wd_at c 18 rfl) rfl h37
  have a19 := He.eqO_ok h38
  obtain ⟨_, _, _, _, _, _, _, _, _, l19, c19, k19⟩ := pl_ok (wd_at c 19 rfl) rfl h39
  have a20 := He.eqO_ok h40
  obtain ⟨_, _, _, _, _, _, _, _, _, l20, c20, k20⟩ := pl_ok (wd_at c 20 rfl) rfl h41
  have a21 := He.eqO_ok h42
  obtain ⟨_, _, _, _, _, _, _, _, _, l21, c21, k21⟩ := pl_ok (wd_at c 21 rfl) rfl h43
  have a22 := He.eqO_ok h44
  obtain ⟨_, _, _, _, _, _, _, _, _, l22, c22, k22⟩ := pl_ok (wd_at c 22 rfl) rfl h45
  have a23 := He.eqO_ok h46
  obtain ⟨_, _, _, _, _, _, _, _, _, l23, c23, k23⟩ := pl_ok (wd_at c 23 rfl) rfl h47
  have a24 := He.eqO_ok h48
  obtain ⟨_, _, _, _, _, _, _, _, _, l24, c24, k24⟩ := pl_ok (wd_at c 24 rfl) rfl h49
  have a25 := He.eqO_ok h50
  obtain ⟨_, _, _, _, _, _, _, _, _, l25, c25, k25⟩ := pl_ok (wd_at c 25 rfl) rfl h51
  have a26 := He.eqO_ok h52
  obtain ⟨_, _, _, _, _, _, _, _, _, l26, c26, k26⟩ := pl_ok (wd_at c 26 rfl) rfl h53
  have a27 := He.eqO_ok h54
  obtain ⟨_, _, _, _, _, _, _, _, _, l27, c27, k27⟩ := pl_ok (wd_at c 27 rfl) rfl h55
  have a28 := He.eqO_ok h56
  obtain ⟨_, _, _, _, _, _, _, _, _, l28, c28, k28⟩ := pl_ok (wd_at c 28 rfl) rfl h57
  have a29 := He.eqO_ok h58
  obtain ⟨_, _, _, _, _, _, _, _, _, l29, c29, k29⟩ := pl_ok (wd_at c 29 rfl) rfl h59
  have a30 := He.eqO_ok h60
  obtain ⟨_, _, _, _, _, _, _, _, _, l30, c30, k30⟩ := pl_ok (wd_at c 30 rfl) rfl h61
  have a31 := He.eqO_ok h62
  obtain ⟨_, _, _, _, _, _, _, _, _, l31, c31, k31⟩ := pl_ok (wd_at c 31 rfl) rfl h63
  have a32 := He.eqO_ok h64
  obtain ⟨_, _, _, _, _, _, _, _, _, l32, c32, k32⟩ := pl_ok (wd_at c 32 rfl) rfl h65
  have a33 := He.eqO_ok h66
  obtain ⟨_, _, _, _, _, _, _, _, _, l33, c33, k33⟩ := pl_ok (wd_at c 33 rfl) rfl h67
  have a34 := He.eqO_ok h68
  obtain ⟨_, _, _, _, _, _, _, _, _, l34, c34, k34⟩ := pl_ok (wd_at c 34 rfl) rfl h69
  have aC_Book := He.eqO_ok h70
  have pg_Book := h71
  have hd_Book := h72
  have po_Book := h73
  have sa_Book := He.eqO_ok h74
  have mk_Book := h75
  have kc_Book := h76
  have n_Book_kinds := He.eqO_ok h77
  have n_Book_columns := He.eqO_ok h78
  have n_Book_menu := He.eqO_ok h79
  have n_Book_checks := He.eqO_ok h80
  have a35 := He.eqO_ok h81
  have i35 := h82
  obtain ⟨_, _, _, _, _, _, _, _, _, _, l35, c35, k35, lT35⟩ := df_ok (wd_at c 35 rfl) rfl h83
  have a36 := He.eqO_ok h84
  have i36 := h85
  obtain ⟨_, _, _, _, _, _, _, _, _, l36, c36, k36⟩ := pl_ok (wd_at c 36 rfl) rfl h86
  have a37 := He.eqO_ok h87
  have i37 := h88
  obtain ⟨_, _, _, _, _, _, _, _, _, l37, c37, k37⟩ := pl_ok (wd_at c 37 rfl) rfl h89
  have a38 := He.eqO_ok h90
  have i38 := h91
  obtain ⟨_, _, _, _, _, _, _, _, _, l38, c38, k38⟩ := pl_ok (wd_at c 38 rfl) rfl h92
  have a39 := He.eqO_ok h93
  have i39 := h94
  obtain ⟨_, _, _, _, _, _, _, _, _, l39, c39, k39⟩ := pl_ok (wd_at c 39 rfl) rfl h95
  have a40 := He.eqO_ok h96
  have i40 := h97
  obtain ⟨_, _, _, _, _, _, _, _, _, l40, c40, k40⟩ := pl_ok (wd_at c 40 rfl) rfl h98
  have aE_BadName := He.eqO_ok h99
  have iE_BadName := He.eqO_ok h100
  obtain ⟨_, _, _, _, _, _, lE_BadName, cE_BadName⟩ := er_ok (wd_at c 41 rfl) rfl h101
  have bE_BadName := h102
  have aE_NameInUse := He.eqO_ok h103
  have iE_NameInUse := He.eqO_ok h104
  obtain ⟨_, _, _, _, _, _, lE_NameInUse, cE_NameInUse⟩ := er_ok (wd_at c 42 rfl) rfl h105
  have bE_NameInUse := h106
  have aE_UnknownKind := He.eqO_ok h107
  have iE_UnknownKind := He.eqO_ok h108
  obtain ⟨_, _, _, _, _, _, lE_UnknownKind, cE_UnknownKind⟩ := er_ok (wd_at c 43 rfl) rfl h109
  have bE_UnknownKind := h110
  have aE_BadRule := He.eqO_ok h111
  have iE_BadRule := He.eqO_ok h112
  obtain ⟨_, _, _, _, _, _, lE_BadRule, cE_BadRule⟩ := er_ok (wd_at c 44 rfl) rfl h113
  have bE_BadRule := h114
  have aE_UnknownCheck := He.eqO_ok h115
  have iE_UnknownCheck := He.eqO_ok h116
  obtain ⟨_, _, _, _, _, _, lE_UnknownCheck, cE_UnknownCheck⟩ := er_ok (wd_at c 45 rfl) rfl h117
  have bE_UnknownCheck := h118
  have z_int := He.eqO_ok h119
  have z_len := He.eqO_ok h120
  have z_range := He.eqO_ok h121
  have z_list := He.eqO_ok h122
  have z_tuple := He.eqO_ok h123
  have z_dict := He.eqO_ok h124
  have z_isinstance := He.eqO_ok h125
  have z_all := He.eqO_ok h126
  have z_any := He.eqO_ok h127
  have z_repr := He.eqO_ok h128
  have z_str := He.eqO_ok h129
  have z_bool := He.eqO_ok h130
  have z_set := He.eqO_ok h131
  obtain ⟨_, g_STRIKE⟩ := str_ok h132
  obtain ⟨_, g_LETTERS⟩ := str_ok h133
  obtain ⟨_, g_LONGEST_NAME⟩ := int_ok h134
  have g_RULES := He.eqO_ok h135
  have kt_RULES := tup_ok h136
  have g_COLUMN_CHECKS := He.eqO_ok h137
  have kt_COLUMN_CHECKS := tup_ok h138
  have g_KIND_CHECKS := He.eqO_ok h139
  have kt_KIND_CHECKS := tup_ok h140
  have g_BOOK_CHECKS := He.eqO_ok h141
  have kt_BOOK_CHECKS := tup_ok h142
  exact all_mk (l := PySem.Challenge.rw_longstrike_k48_rank_papers) (w := w) X G hfa a0 l0 c0 k0 a1 l1 c1 k1 a2 l2 c2 k2 a3 l3 c3 k3 a4 l4 c4 k4 a5 l5 c5 k5 a6 l6 c6 k6 a7 l7 c7 k7 a8 l8 c8 k8 a9 l9 c9 k9 a10 l10 c10 k10 a11 l11 c11 k11 a12 l12 c12 k12 a13 l13 c13 k13 a14 l14 c14 k14 a15 l15 c15 k15 a16 l16 c16 k16 a17 l17 c17 k17 a18 l18 c18 k18 a19 l19 c19 k19 a20 l20 c20 k20 a21 l21 c21 k21 a22 l22 c22 k22 a23 l23 c23 k23 a24 l24 c24 k24 a25 l25 c25 k25 a26 l26 c26 k26 a27 l27 c27 k27 a28 l28 c28 k28 a29 l29 c29 k29 a30 l30 c30 k30 a31 l31 c31 k31 a32 l32 c32 k32 a33 l33 c33 k33 a34 l34 c34 k34 aC_Book pg_Book hd_Book po_Book sa_Book mk_Book kc_Book n_Book_kinds n_Book_columns n_Book_menu n_Book_checks a35 i35 l35 c35 k35 lT35 rfl rfl a36 i36 l36 c36 k36 a37 i37 l37 c37 k37 a38 i38 l38 c38 k38 a39 i39 l39 c39 k39 a40 i40 l40 c40 k40 aE_BadName iE_BadName lE_BadName cE_BadName bE_BadName aE_NameInUse iE_NameInUse lE_NameInUse cE_NameInUse bE_NameInUse aE_UnknownKind iE_UnknownKind lE_UnknownKind cE_UnknownKind bE_UnknownKind aE_BadRule iE_BadRule lE_BadRule cE_BadRule bE_BadRule aE_UnknownCheck iE_UnknownCheck lE_UnknownCheck cE_UnknownCheck bE_UnknownCheck z_int z_len z_range z_list z_tuple z_dict z_isinstance z_all z_any z_repr z_str z_bool z_set g_STRIKE g_LETTERS g_LONGEST_NAME g_RULES kt_RULES g_COLUMN_CHECKS kt_COLUMN_CHECKS g_KIND_CHECKS kt_KIND_CHECKS g_BOOK_CHECKS kt_BOOK_CHECKS
end Ls
open PySem PySem.W PySem.Calls PyProof.Rows
theorem PySem.Challenge.cw_longstrike_k48_rank_papers_holds : PySem.Challenge.rw_longstrike_k48_rank_papers.Holds := by
  w_on; o_law
  refine HandSHeadRun.head_any (r := OpenLaw.row PySem.Challenge.rw_longstrike_k48_rank_papers) (q := Ls.lawView) (H := Ls.lawHook) (ob := Ls.lawObs) (M := 8000) (loose := Ls.lawNames) (d := HandSHeadRun.topDef (OpenLaw.row PySem.Challenge.rw_longstrike_k48_rank_papers).prog 76) (kwd := []) Ls.lawObs_eq
    (by kernel_rfl) (fun s => by kernel_rfl) Ls.law_run (by kernel_rfl) (by kernel_rfl) (by kernel_rfl) (by rfl) (by first | assumption | decide +kernel) (by decide +kernel) ⟨rfl, rfl, rfl, rfl, rfl, by decide +kernel⟩ ?hw ?hc
  case hw => w_witness2
  case hc =>
    refine Ls.walk_ofGE (l := PySem.Challenge.rw_longstrike_k48_rank_papers) (n := 63) (k := 8) (x := "_law_script") rfl (by decide) (by kernel_rfl) ⟨rfl, by decide, by decide⟩ ?F
    intro w mg fa h Y G hmg0
    obtain ⟨K, KX, hx, c⟩ := Y
    have hmg : mg ("law" : PySem.Str) = some (.ref fa) := by
      have e : (HandSHeadRun.topDef (OpenLaw.row PySem.Challenge.rw_longstrike_k48_rank_papers).prog 76).name = ("law" : PySem.Str) := by kernel_rfl
      rw [← e]
      exact hmg0
    obtain ⟨fd, hb, hF⟩ := Ls.law_facts (w := w) KX G hmg hx c
    exact ⟨K, fd, Ls.spLaw K, KX, hb, fun H a ns hl hS => ⟨a, ns, rfl, hS, hl, fun _ => rfl⟩, hF⟩

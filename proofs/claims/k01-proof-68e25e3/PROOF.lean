import PyProof.Rows.All
import Wide.All
import OpenK.AllK
import Wide.FinOn
import HandS.Base
import HandS.Call
import HandS.HeadHook1
import HandS.HeadHook2
import HandS.ForMost
import HandS.Wide
import HandS.DictComp
import HandS.Codes
import HandS.IsInst
import HandS.Conv
import HandS.Walk
import HandS.Defaults
import HandS.Dict
import HandS.Nested
import HandS.ExcInit
import HandS.ExcField
import HandS.MakeKw
import KE.KSuper
import KE.KExcSuper
import HandS.ExcOwn
import HandS.TryOnly
import HandS.TryMany
import HandS.MakeKwOnly
import HandS.ExcIs
import KE.KExcIs
import KE.KStateDown
import HandS.Head0
import HandS.Head1
import HandS.Head2
import HandS.HeadEnd
import PySem.Challenge.RW_longstrike_k01_errors_made
set_option Elab.async false
set_option linter.all false
set_option maxRecDepth 100000
set_option maxHeartbeats 4000000
set_option exponentiation.threshold 20000
/-! facts of a top that is run in the kernel: every def by what it is made of, all the rest by one Bool -/
namespace Ls
open PySem PySem.Spec PyProof.Rows L2
abbrev FdW : Type := Str × Str × Arguments × FuncBody × Scope × Addr × List Str × Addr
structure WD where
  at_ : Str × Option Str
  name : Str
  qual : Str
  params : Arguments
  body : List Stmt
  scope : Scope
  cl : List Str
def WD.val (d : WD) : Option FdW := some (d.name, d.qual, d.params, .stmts d.body, d.scope, mainGlobals, d.cl, builtinsNs)
def fdAt (K : PySem.W.Frag) (p : Str × Option Str) : Option FuncData := match K.lookup (He.fAd K p) with
  | some ⟨_, _, .func fd, _⟩ => some fd
  | _ => none
def wOf (K : PySem.W.Frag) (p : Str × Option Str) : Option FdW := match fdAt K p with
  | some fd => some (fd.name, fd.qualname, fd.params, fd.body, fd.scope, fd.globals, fd.closure.map (·.1), fd.builtins)
  | none => none
theorem fdAt_ok {K : PySem.W.Frag} {p : Str × Option Str} {fd : FuncData} (h : fdAt K p = some fd) : ∃ oc od sl, K.lookup (He.fAd K p) = some ⟨oc, od, .func fd, sl⟩ := by
  unfold fdAt at h
  cases q : K.lookup (He.fAd K p) with
  | none =>
    rw [q] at h
    cases h
  | some o =>
    obtain ⟨oc, od, dt, sl⟩ := o
    rw [q] at h
    cases dt with
    | func f =>
      have e : f = fd := Option.some.inj h
      rw [e]
      exact ⟨oc, od, sl, rfl⟩
    | _ => cases h
theorem wd_ok {K : PySem.W.Frag} {d : WD} (h : wOf K d.at_ = d.val) : ∃ (fd : FuncData) (oc : Value) (od : Option Addr) (sl : Array (Option Value)), fdAt K d.at_ = some fd ∧ K.lookup (He.fAd K d.at_) = some ⟨oc, od, .func fd, sl⟩ ∧
    fd = PySem.W.fnX d.name d.qual d.params d.body d.scope fd.closure fd.defaults fd.kwdefaults fd.doc fd.pyModule fd.annotations fd.code fd.closureTuple ∧ fd.closure.map (·.1) = d.cl := by
  unfold wOf WD.val at h
  cases q : fdAt K d.at_ with
  | none =>
    rw [q] at h
    cases h
  | some fd =>
    rw [q] at h
    obtain ⟨oc, od, sl, l⟩ := fdAt_ok q
    obtain ⟨n1, n2, n3, n4, n5, n6, n7, n8, n9, n10, n11, n12, n13, n14, n15⟩ := fd
    simp only [Option.some.injEq, Prod.mk.injEq] at h
    obtain ⟨h1, h2, h3, h4, h5, h6, h7, h8⟩ := h
    subst h1 h2 h3 h4 h5 h6 h8
    exact ⟨_, oc, od, sl, rfl, l, rfl, h7⟩
/-- a def without defaults -/
def plB (K : PySem.W.Frag) (p : Str × Option Str) (q : Str) : Bool := match fdAt K p with
  | some fd => (match fd.defaults with
    | .none => PySem.W.codeIn K fd.code q
    | _ => false) && PySem.W.keepIn K (.ref (He.fAd K p))
  | none => false
theorem pl_ok {K : PySem.W.Frag} {d : WD} (h : wOf K d.at_ = d.val) (hc : d.cl = []) (b : plB K d.at_ d.qual = true) : ∃ (oc : Value) (od : Option Addr) (kV dc pm : Value) (an : Option Addr) (cd ct : Value) (sl : Array (Option Value)),
    K.lookup (He.fAd K d.at_) = some ⟨oc, od, .func (PySem.W.fnOf d.name d.qual d.params d.body d.scope .none kV dc pm an cd ct), sl⟩ ∧ PySem.W.codeIn K cd d.qual = true ∧ PySem.W.keepIn K (.ref (He.fAd K d.at_)) = true := by
  obtain ⟨fd, oc, od, sl, q, l, e, c⟩ := wd_ok h
  unfold plB at b
  rw [q] at b
  obtain ⟨b1, b2⟩ := He.ba b
  have hcl : fd.closure = [] := List.map_eq_nil_iff.mp (c.trans hc)
  cases hd : fd.defaults with
  | none =>
    rw [hd] at b1
    rw [hcl, hd] at e
    rw [e] at l
    exact ⟨oc, od, _, _, _, _, _, _, sl, l, b1, b2⟩
  | _ => rw [hd] at b1; cases b1
/-- an own error's maker: one cell, no defaults -/
def erB (K : PySem.W.Frag) (p : Str × Option Str) (q : Str) : Bool := match fdAt K p with
  | some fd => (match fd.defaults, fd.kwdefaults, fd.annotations, fd.code with
    | .none, .none, none, .ref cda => PySem.W.codeIn K (.ref cda) q
    | _, _, _, _ => false)
  | none => false
def cellOf (K : PySem.W.Frag) (p : Str × Option Str) : Addr := match fdAt K p with
  | some fd => (match fd.closure with
    | [(_, a)] => a
    | _ => 0)
  | none => 0
def codeAd (K : PySem.W.Frag) (p : Str × Option Str) : Addr := match fdAt K p with
  | some fd => (match fd.code with
    | .ref a => a
    | _ => 0)
  | none => 0
theorem er_ok {K : PySem.W.Frag} {d : WD} (h : wOf K d.at_ = d.val) (hc : d.cl = (["__class__"] : List Str)) (b : erB K d.at_ d.qual = true) : ∃ (oc : Value) (od : Option Addr) (dc pm ct : Value) (sl : Array (Option Value)),
    K.lookup (He.fAd K d.at_) = some ⟨oc, od, .func (PySem.W.fnX d.name d.qual d.params d.body d.scope [("__class__", cellOf K d.at_)] .none .none dc pm none (.ref (codeAd K d.at_)) ct), sl⟩ ∧ PySem.W.codeIn K (.ref (codeAd K d.at_)) d.qual = true := by
  obtain ⟨fd, oc, od, sl, q, l, e, c⟩ := wd_ok h
  unfold erB at b
  rw [q] at b
  rw [hc] at c
  have e1 : ∃ a : Addr, fd.closure = ([("__class__", a)] : List (Str × Addr)) := by
    cases hq : fd.closure with
    | nil => rw [hq] at c; cases c
    | cons z r =>
      rw [hq, List.map_cons] at c
      obtain ⟨c1, c2⟩ := List.cons.inj c
      rw [List.map_eq_nil_iff.mp c2]
      exact ⟨z.2, by rw [← c1]⟩
  obtain ⟨a, e1⟩ := e1
  have ec : cellOf K d.at_ = a := by
    unfold cellOf
    rw [q]
    show (match fd.closure with | [(_, a)] => a | _ => 0) = a
    rw [e1]
  cases h1 : fd.defaults with
  | none =>
    cases h2 : fd.kwdefaults with
    | none =>
      cases h3 : fd.annotations with
      | none =>
        cases h4 : fd.code with
        | ref cda =>
          have ed : codeAd K d.at_ = cda := by
            unfold codeAd
            rw [q]
            show (match fd.code with | .ref a => a | _ => 0) = cda
            rw [h4]
          have b2 : PySem.W.codeIn K (.ref cda) d.qual = true := by
            have := b
            simp only [h1, h2, h3, h4] at this
            exact this
          rw [ec, ed]
          rw [e1, h1, h2, h3, h4] at e
          rw [e] at l
          exact ⟨oc, od, _, _, _, sl, l, b2⟩
        | _ => simp only [h1, h2, h3, h4] at b; cases b
      | some x => simp only [h1, h2, h3] at b; cases b
    | _ => simp only [h1, h2] at b; cases b
  | _ => simp only [h1] at b; cases b
/-- two defaults, tuples of the written part -/
def dfT (K : PySem.W.Frag) (p : Str × Option Str) : Addr := match fdAt K p with
  | some fd => (match fd.defaults with
    | .ref T => T
    | _ => 0)
  | none => 0
def dfE (K : PySem.W.Frag) (p : Str × Option Str) : Addr × Addr := match K.lookup (dfT K p) with
  | some ⟨_, _, .seq its _, _⟩ => (match its.toList with
    | [.ref a, .ref b] => (a, b)
    | _ => (0, 0))
  | _ => (0, 0)
def tup2B (K : PySem.W.Frag) (T : Addr) : Bool := match K.lookup T with
  | some ⟨.type c, none, .seq its _, sl⟩ => decide (c = "tuple") && (sl.isEmpty && (match its.toList with
    | [.ref _, .ref _] => true
    | _ => false))
  | _ => false
theorem tup2_ok {K : PySem.W.Frag} {p : Str × Option Str} (h : tup2B K (dfT K p) = true) : ∃ n, K.lookup (dfT K p) = some { cls := .type "tuple", dict := none, data := .seq #[.ref (dfE K p).1, .ref (dfE K p).2] n, slots := #[] } := by
  unfold tup2B at h
  have ee : ∀ {its : Array Value} {n : Nat} {oc : Value} {od : Option Addr} {sl : Array (Option Value)} {a b : Addr}, K.lookup (dfT K p) = some ⟨oc, od, .seq its n, sl⟩ → its.toList = [.ref a, .ref b] → dfE K p = (a, b) := fun {its n oc od sl a b} l e => by
    unfold dfE
    rw [l]
    show (match its.toList with | [.ref a, .ref b] => (a, b) | _ => (0, 0)) = (a, b)
    rw [e]
  cases q : K.lookup (dfT K p) with
  | none =>
    rw [q] at h
    cases h
  | some o =>
    obtain ⟨oc, od, dt, sl⟩ := o
    rw [q] at h
    cases oc with
    | type c =>
      cases od with
      | none =>
        cases dt with
        | seq its n =>
          obtain ⟨h1, h2⟩ := He.ba h
          obtain ⟨h3, h4⟩ := He.ba h2
          have h4 : (match its.toList with | [.ref _, .ref _] => true | _ => false) = true := h4
          obtain ⟨a, b, e⟩ : ∃ a b, its.toList = [.ref a, .ref b] := by
            split at h4
            · rename_i a b e
              exact ⟨a, b, e⟩
            · cases h4
          have ei : its = #[.ref a, .ref b] := by
            rw [← Array.toArray_toList (xs := its), e]
          refine ⟨n, ?_⟩
          rw [ee q e, of_decide_eq_true h1, Array.isEmpty_iff.mp h3, ei]
        | _ => cases h
      | some d => cases dt <;> cases h
    | _ => cases od <;> cases dt <;> cases h
def dfB (K : PySem.W.Frag) (p : Str × Option Str) (q : Str) : Bool := match fdAt K p with
  | some fd => (match fd.defaults with
    | .ref _ => PySem.W.codeIn K fd.code q
    | _ => false) && (PySem.W.keepIn K (.ref (He.fAd K p)) && tup2B K (dfT K p))
  | none => false
theorem df_ok {K : PySem.W.Frag} {d : WD} (h : wOf K d.at_ = d.val) (hc : d.cl = []) (b : dfB K d.at_ d.qual = true) : ∃ (oc : Value) (od : Option Addr) (kV dc pm : Value) (an : Option Addr) (cd ct : Value) (sl : Array (Option Value)) (n : Nat),
    K.lookup (He.fAd K d.at_) = some ⟨oc, od, .func (PySem.W.fnOf d.name d.qual d.params d.body d.scope (.ref (dfT K d.at_)) kV dc pm an cd ct), sl⟩ ∧ PySem.W.codeIn K cd d.qual = true ∧ PySem.W.keepIn K (.ref (He.fAd K d.at_)) = true ∧
    K.lookup (dfT K d.at_) = some { cls := .type "tuple", dict := none, data := .seq #[.ref (dfE K d.at_).1, .ref (dfE K d.at_).2] n, slots := #[] } := by
  obtain ⟨fd, oc, od, sl, q, l, e, c⟩ := wd_ok h
  unfold dfB at b
  rw [q] at b
  obtain ⟨b1, b2⟩ := He.ba b
  obtain ⟨b3, b4⟩ := He.ba b2
  obtain ⟨n, lt⟩ := tup2_ok b4
  have hcl : fd.closure = [] := List.map_eq_nil_iff.mp (c.trans hc)
  cases hd : fd.defaults with
  | ref T =>
    have eT : dfT K d.at_ = T := by
      unfold dfT
      rw [q]
      show (match fd.defaults with | .ref T => T | _ => 0) = T
      rw [hd]
    rw [hd] at b1
    rw [hcl, hd] at e
    rw [e, ← eT] at l
    exact ⟨oc, od, _, _, _, _, _, _, sl, n, l, b1, b3, lt⟩
  | _ => rw [hd] at b1; cases b1
/-! ### constants -/
def strB (K : PySem.W.Frag) (x z : Str) : Bool := match PySem.W.nsIn K mainGlobals x with
  | some (some (.str y _)) => decide (y = z)
  | _ => false
theorem str_ok {K : PySem.W.Frag} {x z : Str} (h : strB K x z = true) : ∃ t, PySem.W.nsIn K mainGlobals x = some (some (.str z t)) := by
  unfold strB at h
  split at h
  · rename_i y t q
    rw [q, of_decide_eq_true h]
    exact ⟨t, rfl⟩
  · cases h
def intB (K : PySem.W.Frag) (x : Str) (i : Int) : Bool := match PySem.W.nsIn K mainGlobals x with
  | some (some (.int j _)) => decide (j = i)
  | _ => false
theorem int_ok {K : PySem.W.Frag} {x : Str} {i : Int} (h : intB K x i = true) : ∃ t, PySem.W.nsIn K mainGlobals x = some (some (.int i t)) := by
  unfold intB at h
  split at h
  · rename_i y t q
    rw [q, of_decide_eq_true h]
    exact ⟨t, rfl⟩
  · cases h
def strsB : List Value → List Str → Bool
  | [], [] => true
  | .str y _ :: r, z :: s => decide (y = z) && strsB r s
  | _, _ => false
theorem strs_ok : ∀ {vs : List Value} {ws : List Str}, strsB vs ws = true → Vals (ws.map V.str) vs
  | [], [], _ => .nil
  | .str y t :: r, z :: s, h => by
    obtain ⟨h1, h2⟩ := He.ba h
    rw [of_decide_eq_true h1]
    exact .cons ⟨t, rfl⟩ (strs_ok h2)
  | [], _ :: _, h => by cases h
  | .str _ _ :: _, [], h => by cases h
  | .none :: _, ws, h => by cases ws <;> cases h
  | .bool _ :: _, ws, h => by cases ws <;> cases h
  | .ref _ :: _, ws, h => by cases ws <;> cases h
  | .int _ _ :: _, ws, h => by cases ws <;> cases h
def tupB (K : PySem.W.Frag) (a : Addr) (ws : List Str) : Bool := match K.lookup a with
  | some ⟨.type c, none, .seq its _, sl⟩ => decide (c = "tuple") && (sl.isEmpty && (decide (its.size ≤ 100) && strsB its.toList ws))
  | _ => false
theorem tup_ok {K : PySem.W.Frag} {a : Addr} {ws : List Str} (h : tupB K a ws = true) : ∃ (its : Array Value) (n : Nat), K.lookup a = some { cls := .type "tuple", dict := none, data := .seq its n, slots := #[] } ∧ its.size ≤ sizeLine ∧ Vals (ws.map V.str) its.toList := by
  unfold tupB at h
  split at h
  · rename_i c its n sl q
    obtain ⟨h1, h2⟩ := He.ba h
    obtain ⟨h3, h4⟩ := He.ba h2
    obtain ⟨h5, h6⟩ := He.ba h4
    refine ⟨its, n, ?_, Nat.le_trans (of_decide_eq_true h5) (by decide), strs_ok h6⟩
    rw [q, of_decide_eq_true h1, Array.isEmpty_iff.mp h3]
  · cases h
/-! ### the Hook: as are the addresses that are asked -/
def obsW (as : List Addr) (ds : List WD) (ex : PySem.W.Frag → Bool) (g : Addr → Option Obj) : Bool × List (Option FdW) := (ex (He.frG g as), ds.map fun d => wOf (He.frG g as) d.at_)
def hookW (as : List Addr) (ds : List WD) (ex : PySem.W.Frag → Bool) : PySem.W.Hook where
  α := Bool × List (Option FdW)
  obs := fun s => obsW as ds ex s.heap.get?
  val := fun _ => (true, ds.map WD.val)
  says := fun _ h => ∃ K : PySem.W.Frag, K.In h ∧ ex K = true ∧ (ds.map fun d => wOf K d.at_) = ds.map WD.val
  of := fun _ _ e => ⟨_, He.frG_in, congrArg (fun z => z.1) e, congrArg (fun z => z.2) e⟩
  keeps := fun _ _ _ ⟨K, hK, c⟩ k => ⟨K, PySem.W.Frag.In.keeps hK k, c⟩
theorem obsW_eq {as : List Addr} {ds : List WD} {ex : PySem.W.Frag → Bool} {g : Addr → Option Obj} {s : Shared} (h : ∀ a, g a = s.heap.get? a) : obsW as ds ex g = (hookW as ds ex).obs s := by
  have e : g = s.heap.get? := funext h
  rw [e]
  rfl
theorem wd_at {K : PySem.W.Frag} {ds : List WD} (c : (ds.map fun d => wOf K d.at_) = ds.map WD.val) (i : Nat) {d : WD} (h : ds[i]? = some d) : wOf K d.at_ = d.val := by
  have e := congrArg (fun l => l[i]?) c
  simp only [List.getElem?_map, h, Option.map_some, Option.some.injEq] at e
  exact e
end Ls
namespace Ls
open PySem PySem.Spec PyProof.Rows L2

/-! ### calls in short -/
/-- a def of the module that keeps a promise: where it stands, how it is bound -/
structure Own (P : Program) (w : World) (K : PySem.W.Frag) (mg : Str → Option Value) (base : Heap) (CX : CXT) (k : Nat) (x : Str) (ps : List Str) (sp : Sp) : Prop where
  ex : ∃ (f : Addr) (fd : FuncData), FnOk P w K mg base CX k f fd ps sp ∧ mg x = some (.ref f) ∧ PySem.W.keepIn K (.ref f) = true ∧ Binds K fd ps []
/-- a method of the class at C -/
structure OwnM (P : Program) (w : World) (K : PySem.W.Frag) (mg : Str → Option Value) (base : Heap) (CX : CXT) (k : Nat) (C : Addr) (m : Str) (ps : List Str) (sp : Sp) : Prop where
  cl : Cls K C
  ex : ∃ (f : Addr) (fd : FuncData), FnOk P w K mg base CX k f fd ps sp ∧ Meth K C m f ∧ Binds K fd ps []
/-- a class that is called -/
structure OwnC (P : Program) (w : World) (K : PySem.W.Frag) (mg : Str → Option Value) (base : Heap) (CX : CXT) (k : Nat) (C : Addr) (x : Str) (ps : List Str) (sp : Sp) : Prop where
  ex : ∃ (f : Addr) (fd : FuncData), FnOk P w K mg base CX k f fd ps sp ∧ mg x = some (.ref C) ∧ Mk K C f ∧ Binds K fd ps []
section
variable {X : Cx} {k j : Nat} {x m : Str} {ps : List Str} {sp : Sp} {p pos apos : Pos} {e o : Expr} {es : List Expr} {t : TA} {ta : TE} {C : Addr}
theorem own_call (O : Own X.prog X.w X.K X.mg X.base CX0 k x ps sp) (hr : Room j X.A) (hkj : k ≤ j) (ha : PA X (e :: es) t)
    (hg : Gl X x := by rfl) (hdb : (x == ("__debug__" : Str)) = false := by decide) (he : starEach (e :: es) X.env = (false, eval e X.env) :: starEach es X.env := by rfl) (hpl : (backTo pos (starEach es X.env)).any (·.1) = false := by rfl) :
    PE X (.Call (.Name x p) (e :: es) [] pos) (tCall sp [] E0 t) := by
  obtain ⟨f, fd, F, g, kp, b⟩ := O.ex
  exact pe_call F (hr.mono hkj) hg g kp b .nil pass0 ha hdb he hpl
theorem own_call0 (O : Own X.prog X.w X.K X.mg X.base CX0 k x ps sp) (hr : Room j X.A) (hkj : k ≤ j) (hg : Gl X x := by rfl) (hdb : (x == ("__debug__" : Str)) = false := by decide) :
    PE X (.Call (.Name x p) [] [] pos) (tCall sp [] E0 tNil) := by
  obtain ⟨f, fd, F, g, kp, b⟩ := O.ex
  exact pe_call0 F (hr.mono hkj) hg g kp b .nil pass0 hdb
theorem own_meth {pl : Sem Bool} (O : OwnM X.prog X.w X.K X.mg X.base CX0 k C m ps sp) (hr : Room j X.A) (hkj : k ≤ j) (ho : PE X o ta) (ha : PA X (e :: es) t)
    (hst : starEach (e :: es) X.env = (false, eval e X.env) :: starEach es X.env := by rfl) (hpl : (backTo pos (starEach es X.env)).any (·.1) = false := by rfl)
    (ht : eval (.Call (.Attribute o m apos) (e :: es) [] pos) X.env = (do
      let ov ← eval o X.env
      standAt apos.atName
      let (f, first) ← holding [ov] (getMethod ov m pl)
      callWith pos f first (backTo pos (starEach (e :: es) X.env)) (backToKw pos (keywordEach [] X.env))) := by rfl) : PE X (.Call (.Attribute o m apos) (e :: es) [] pos) (tMeth C m sp [] E0 ta t) := by
  obtain ⟨f, fd, F, me, b⟩ := O.ex
  exact pe_meth ho O.cl me F (hr.mono hkj) b .nil pass0 ha hst hpl ht
theorem own_meth0 {pl : Sem Bool} (O : OwnM X.prog X.w X.K X.mg X.base CX0 k C m ps sp) (hr : Room j X.A) (hkj : k ≤ j) (ho : PE X o ta)
    (ht : eval (.Call (.Attribute o m apos) [] [] pos) X.env = (do
      let ov ← eval o X.env
      standAt apos.atName
      let (f, first) ← holding [ov] (getMethod ov m pl)
      callWith pos f first (backTo pos (starEach [] X.env)) (backToKw pos (keywordEach [] X.env))) := by rfl) : PE X (.Call (.Attribute o m apos) [] [] pos) (tMeth C m sp [] E0 ta tNil) := by
  obtain ⟨f, fd, F, me, b⟩ := O.ex
  exact pe_meth0 ho O.cl me F (hr.mono hkj) b .nil pass0 ht
theorem own_make (O : OwnC X.prog X.w X.K X.mg X.base CX0 k C x ps sp) (hr : Room j X.A) (hkj : k + 1 ≤ j) (ha : PA X (e :: es) t)
    (hg : Gl X x := by rfl) (hdb : (x == ("__debug__" : Str)) = false := by decide) (he : starEach (e :: es) X.env = (false, eval e X.env) :: starEach es X.env := by rfl) (hpl : (backTo pos (starEach es X.env)).any (·.1) = false := by rfl) :
    PE X (.Call (.Name x p) (e :: es) [] pos) (tMake C sp [] E0 t) := by
  obtain ⟨f, fd, F, g, M, b⟩ := O.ex
  exact pe_make M F (hr.mono hkj) hg g b .nil pass0 ha hdb he hpl
theorem glob_str {z : Str} {tk : Tok} (hm : X.mg x = some (.str z tk)) (hg : Gl X x := by rfl) (hd : (x == ("__debug__" : Str)) = false := by decide) : PE X (.Name x pos) (tC (.str z)) := pe_glob hg hm ⟨_, rfl⟩ hd
theorem glob_int {i : Int} {tk : Tok} (hm : X.mg x = some (.int i tk)) (hg : Gl X x := by rfl) (hd : (x == ("__debug__" : Str)) = false := by decide) : PE X (.Name x pos) (tC (.int i)) := pe_glob hg hm ⟨_, rfl⟩ hd
theorem glob_ref {a : Addr} (hm : X.mg x = some (.ref a)) (hg : Gl X x := by rfl) (hd : (x == ("__debug__" : Str)) = false := by decide) : PE X (.Name x pos) (tC (.ref a)) := pe_glob hg hm rfl hd
/-- a statement that is never reached -/
theorem ps_dead {st : Stmt} : PS X st (fun _ _ _ => False) := ⟨fun _ _ _ _ _ _ h => h.elim⟩
theorem pss_dead {st : List Stmt} : PSs X st (fun _ _ _ => False) := ⟨fun _ _ _ _ _ _ h => h.elim⟩
end

/-! ### a def of the text, whatever its defaults -/
structure FunE (K : PySem.W.Frag) (x qual : Str) (st : Stmt) (f : Addr) (fd : FuncData) : Prop where
  ex : ∃ (oc : Value) (od : Option Addr) (dV kV doc pm : Value) (an : Option Addr) (cdv ct : Value) (osl : Array (Option Value)),
    fd = PySem.W.fnOf x qual (defArgs st) (defBody st) (defScope st) dV kV doc pm an cdv ct ∧ K.lookup f = some ⟨oc, od, .func fd, osl⟩ ∧ PySem.W.codeIn K cdv qual = true
theorem FunE.ok {P : Program} {w : World} {K : PySem.W.Frag} {mg : Str → Option Value} {base : Heap} {x qual : Str} {st : Stmt} {f : Addr} {fd : FuncData} {N ps : List Str} {k : Nat} {sp : Sp} (F : FunE K x qual st f fd) (S : FnScope N ps (defScope st))
    (len : ∀ vs H Q E, sp vs H Q E → vs.length = ps.length)
    (body : ∀ (cdv : Value) (A : Around) (outer : List Env) (s : Shared) (H : Hp) (vs : List V) (Q : VK) (E : XK), Room k (A.deeper (envOfC qual (defScope st) s.heap.objs.size f cdv)) → sp vs H Q E →
      ∃ t, PSs (cxOf CX0 P w K mg base N qual (defScope st) f cdv A outer s H E).nox (defBody st) t ∧ t { nx := fun _ H' => Q .non H', rt := Q } (start N vs) H) : FnOk P w K mg base CX0 (k + 1) f fd ps sp := by
  obtain ⟨oc, od, dV, kV, doc, pm, an, cdv, ct, osl, rfl, lk, hcd⟩ := F.ex
  refine fn_of lk hcd S len fun A outer s H vs Q E hr hsp => ?_
  obtain ⟨t, ht, hq⟩ := body cdv A outer s H vs Q E hr hsp
  exact ⟨t, ht.nox, hq⟩
/-- two defaults that are not asked for -/
theorem FunE.mk2 {K : PySem.W.Frag} {x qual : Str} {st : Stmt} {f T : Addr} {oc : Value} {od an : Option Addr} {osl : Array (Option Value)} {kV doc pm cdv ct : Value}
    (l : K.lookup f = some ⟨oc, od, .func (PySem.W.fnOf x qual (defArgs st) (defBody st) (defScope st) (.ref T) kV doc pm an cdv ct), osl⟩) (c : PySem.W.codeIn K cdv qual = true) :
    FunE K x qual st f (PySem.W.fnOf x qual (defArgs st) (defBody st) (defScope st) (.ref T) kV doc pm an cdv ct) := ⟨oc, od, .ref T, kV, doc, pm, an, cdv, ct, osl, rfl, l, c⟩

/-! ### tuples of the written part -/
def KTup (K : PySem.W.Frag) (a : Addr) (xs : List V) : Prop := ∃ (its : Array Value) (n : Nat), K.lookup a = some { cls := .type "tuple", dict := none, data := .seq its n, slots := #[] } ∧ its.size ≤ sizeLine ∧ Vals xs its.toList
theorem KTup.sq {K : PySem.W.Frag} {a : Addr} {xs : List V} (h : KTup K a xs) (H : Hp) : SqT K H a xs := by
  obtain ⟨its, n, lk, hz, r⟩ := h
  exact .inr ⟨_, its, n, lk, rfl, rfl, hz, r⟩
def rExtK (K : PySem.W.Frag) : V → List V → Hp → VK → Prop := fun x vs H Q => ∃ l b xs zs, x = .ref l ∧ vs = [.ref b] ∧ H l = some (.lst xs) ∧ KTup K b zs ∧ xs.length + zs.length ≤ sizeLine ∧ Q .non (upd H l (.lst (xs ++ zs)))
theorem mt_extK {X : Cx} (K : PySem.W.Frag) (hK : X.K = K := by rfl) : MtM X "list.extend" (rExtK K) := by
  subst hK
  intro pins s σ H x vs v us Q I rx rv h
  obtain ⟨l, b, xs, zs, rfl, rfl, hH, ⟨its2, n2, lk, z2, r2⟩, hz, q⟩ := h
  cases rx
  obtain ⟨u, rfl, ru⟩ := rv.one
  cases ru
  obtain ⟨z, its, n, r, hl, e⟩ := I.lstM hH
  have e2 := I.kIn _ _ lk
  obtain ⟨m2⟩ := its2
  have l2 : zs.length = m2.length := r2.length
  have hs : its.toArray.size + (Array.mk m2).size ≤ sizeLine := by
    rw [List.size_toArray]
    show its.length + m2.length ≤ sizeLine
    omega
  refine call_meets F.slot_list_extend ⟨_, e, rfl⟩ F.entry_list_extend (F.args_list_extend_2 _ _) (AutoSeq1.list_extend_list_tuple_0 l its.toArray n b (Array.mk m2) n2 (by rw [notLongL hs, Bool.and_false]; exact Bool.false_ne_true) (by omega) (by omega)) ⟨e, e2, ?_⟩
  refine ⟨.non, _, I.lset (its' := its ++ m2) (ys := xs ++ zs) hH e (by simp) (r.append r2) ?len, rfl, q⟩
  rw [List.length_append]
  exact hz

/-! ### rules that name the written part -/
section
variable {X : Cx}
theorem ixL (K : PySem.W.Frag) (h : X.K = K := by rfl) : IxR X (rIxL K) := by subst h; exact ix_list
theorem ixT (K : PySem.W.Frag) (h : X.K = K := by rfl) : IxR X (rIxT K) := by subst h; exact ix_tup
theorem in_seq (K : PySem.W.Frag) (h : X.K = K := by rfl) : OpR X (compareOp .In) (rIn K false) := by subst h; exact op_in_seq
theorem notIn_seq (K : PySem.W.Frag) (h : X.K = K := by rfl) : OpR X (compareOp .NotIn) (rIn K true) := by subst h; exact op_notIn_seq
theorem eqD (K : PySem.W.Frag) {k : Nat} (hr : Room k X.A) (h : X.K = K := by rfl) : OpR X (compareOp .Eq) (rEqD K) := by subst h; exact op_eqD hr.units
theorem neD (K : PySem.W.Frag) {k : Nat} (hr : Room k X.A) (h : X.K = K := by rfl) : OpR X (compareOp .NotEq) (rNeD K) := by subst h; exact op_neD hr.units
theorem list_of (K : PySem.W.Frag) (h : X.K = K := by rfl) : CallR X (.type "list") (fun xs H Q => ∃ p ys, xs = [.ref p] ∧ (SqL K H p ys ∨ SqT K H p ys) ∧ ∀ l, H l = none → Q (.ref l) (upd H l (.lst ys))) := by subst h; exact call_list_of
theorem tuple_of (K : PySem.W.Frag) (h : X.K = K := by rfl) : CallR X (.type "tuple") (fun xs H Q => ∃ p ys, xs = [.ref p] ∧ ((SqL K H p ys ∧ ∀ l, H l = none → Q (.ref l) (upd H l (.tup ys))) ∨ (SqT K H p ys ∧ Q (.ref p) H))) := by subst h; exact call_tuple_of
theorem len_seq (K : PySem.W.Frag) (h : X.K = K := by rfl) : CallR X (.builtin "len") (fun xs H Q => ∃ p ys, xs = [.ref p] ∧ (SqL K H p ys ∨ SqT K H p ys) ∧ Q (.int ys.length) H) := by subst h; exact call_len_seq
end

/-! ### lists of ints as data -/
theorem dp_ints {K : PySem.W.Frag} {H : Hp} : ∀ ns : List Int, DpAll K H (ns.map V.int) (ns.map PyData.int)
  | [] => .nil
  | n :: r => .cons (.int n) (dp_ints r)
theorem lay_ints : ∀ ns : List Int, PyData.canLayAll0 (ns.map PyData.int) = true
  | [] => by simp [PyData.canLayAll0]
  | n :: r => by simp [PyData.canLayAll0, PyData.canLay0, lay_ints r]
theorem depth_ints : ∀ ns : List Int, PyData.depthAll (ns.map PyData.int) = 0
  | [] => by simp [PyData.depthAll]
  | n :: r => by simp [PyData.depthAll, PyData.depth, depth_ints r]
theorem shaped_ints (ns : List Int) : SeqAt.shaped (.list (ns.map PyData.int)) = true := by
  simp [SeqAt.shaped, PyData.canLay0, PyData.depth, lay_ints, depth_ints]
theorem eqv_nil (ns : List Int) : PyData.eqv (.list (ns.map PyData.int)) (.list []) = decide (ns = []) := by
  cases ns with
  | nil => simp [PyData.eqv, PyData.eqvAll]
  | cons n r => simp [PyData.eqv, PyData.eqvAll]
theorem lt_pow {m c : Int} (h0 : 0 ≤ m) (h1 : m < 2147483647) (c0 : 0 ≤ c) (c1 : c ≤ 10000001) : (m + 104729 * c + 17).natAbs < 2 ^ 64 := by omega
theorem emod_lo (a : Int) {n : Int} (h : 0 < n) : 0 ≤ a % n := Int.emod_nonneg _ (by omega)
theorem emod_hi (a : Int) {n : Int} (h : 0 < n) : a % n < n := Int.emod_lt_of_pos _ h
theorem sq_le {c : Int} (c0 : 0 ≤ c) (c1 : c ≤ 10000001) : 0 ≤ 40503 * c * c ∧ 40503 * c * c ≤ 4050300810060040503 := by
  have h1 : c * c ≤ 10000001 * 10000001 := Int.mul_le_mul c1 c1 c0 (by omega)
  have h2 : 0 ≤ c * c := Int.mul_nonneg c0 c0
  have e : 40503 * c * c = 40503 * (c * c) := Int.mul_assoc _ _ _
  rw [e]
  omega
theorem log_lt {k : Int} (h0 : 0 < k) (h : k ≤ 10 ^ 40) : k.natAbs.log2 < 9000 := by
  refine (Nat.log2_lt (by omega)).mpr (Nat.lt_of_le_of_lt (m := 10 ^ 40) (by omega) ?_)
  exact Nat.lt_of_lt_of_le (show 10 ^ 40 < 2 ^ 140 by decide +kernel) (Nat.pow_le_pow_right (by decide) (by decide))

/-! ### heaps -/
/-- all else is as it was -/
def Old (S L : Addr) (H H' : Hp) : Prop := ∀ b o, b ≠ S → b ≠ L → H b = some o → H' b = some o
theorem Old.refl {S L : Addr} (H : Hp) : Old S L H H := fun _ _ _ _ e => e
theorem Old.trans {S L : Addr} {H H1 H2 : Hp} (a : Old S L H H1) (b : Old S L H1 H2) : Old S L H H2 := fun c o h1 h2 e => b c o h1 h2 (a c o h1 h2 e)
theorem Old.same {S L : Addr} {H H1 : Hp} (a : Same H H1) : Old S L H H1 := fun c o _ _ e => a c o e
theorem same_new {H : Hp} {p : Addr} {o : HO} (h : H p = none) : Same H (upd H p o) := fun b x e => by
  rw [upd_ne (ne_of_none e h)]
  exact e
theorem Old.new {S L : Addr} {H : Hp} {p : Addr} {o : HO} (h : H p = none) : Old S L H (upd H p o) := .same (same_new h)
theorem Old.set {S L : Addr} {H H1 : Hp} {p : Addr} {o : HO} (h : Old S L H H1) (hp : H p = none) : Old S L H (upd H1 p o) := fun b u h1 h2 e => by
  rw [upd_ne (ne_of_none e hp)]
  exact h b u h1 h2 e
theorem Old.none {S L : Addr} {H H1 : Hp} {p : Addr} (h : Old S L H H1) (hp : H1 p = none) (n : p ≠ S ∧ p ≠ L) : H p = none := by
  cases e : H p with
  | none => rfl
  | some o => rw [h _ _ n.1 n.2 e] at hp; cases hp
/-- the law's stream at S over the list at L, of which at most n draws were made -/
def Stm (H : Hp) (S L : Addr) (n : Nat) : Prop := ∃ (ns : List Int) (d c m : Int), H S = some (.lst [.ref L, .int d, .int c, .int m]) ∧ H L = some (.lst (ns.map V.int)) ∧ 0 ≤ d ∧ 0 ≤ c ∧ c ≤ (n : Int) ∧ 0 ≤ m ∧ m < 2147483647
theorem Stm.ne {H : Hp} {S L : Addr} {n : Nat} (h : Stm H S L n) : S ≠ L := by
  obtain ⟨ns, d, c, m, h1, h2, _⟩ := h
  refine ne_of h1 h2 fun e => ?_
  have e' := HO.lst.inj e
  cases ns with
  | nil => cases e'
  | cons a r => rw [List.map_cons] at e'; injection e' with e1; cases e1
theorem Stm.mono {H : Hp} {S L : Addr} {n m : Nat} (h : Stm H S L n) (hm : n ≤ m) : Stm H S L m := by
  obtain ⟨ns, d, c, k, h1, h2, h3, h4, h5, h6⟩ := h
  exact ⟨ns, d, c, k, h1, h2, h3, h4, by omega, h6⟩
theorem Stm.keep {H H' : Hp} {S L : Addr} {n : Nat} (h : Stm H S L n) (s : Same H H') : Stm H' S L n := by
  obtain ⟨ns, d, c, k, h1, h2, h3⟩ := h
  exact ⟨ns, d, c, k, s _ _ h1, s _ _ h2, h3⟩
theorem Stm.noneS {H : Hp} {S L p : Addr} {n : Nat} (h : Stm H S L n) (hp : H p = none) : p ≠ S ∧ p ≠ L := by
  obtain ⟨ns, d, c, k, h1, h2, h3⟩ := h
  exact ⟨Ne.symm (ne_of_none h1 hp), Ne.symm (ne_of_none h2 hp)⟩
theorem Stm.upd {H : Hp} {S L p : Addr} {n : Nat} {o : HO} (h : Stm H S L n) (h1 : p ≠ S) (h2 : p ≠ L) : Stm (upd H p o) S L n := by
  obtain ⟨ns, d, c, k, e1, e2, h3⟩ := h
  exact ⟨ns, d, c, k, by rw [upd_ne (Ne.symm h1)]; exact e1, by rw [upd_ne (Ne.symm h2)]; exact e2, h3⟩
/-! ### two tests whose answers are known -/
theorem or2 {t u : TT} {σ : L2.St} {H : Hp} {Q : Bool → Hp → Prop} (c1 c2 : Bool) (h1 : ∀ Q' : Bool → Hp → Prop, Q' c1 H → t σ H Q') (h2 : c1 = false → ∀ Q' : Bool → Hp → Prop, Q' c2 H → u σ H Q') (hq : Q (c1 || c2) H) : tOr t u σ H Q := by
  refine h1 _ ?_
  cases c1 with
  | true => exact hq
  | false => exact h2 rfl _ hq
theorem and2 {t u : TT} {σ : L2.St} {H : Hp} {Q : Bool → Hp → Prop} (c1 c2 : Bool) (h1 : ∀ Q' : Bool → Hp → Prop, Q' c1 H → t σ H Q') (h2 : c1 = true → ∀ Q' : Bool → Hp → Prop, Q' c2 H → u σ H Q') (hq : Q (c1 && c2) H) : tAnd t u σ H Q := by
  refine h1 _ ?_
  cases c1 with
  | true => exact h2 rfl _ hq
  | false => exact hq
/-- what is known of the heap from here on -/
theorem at_heap {P : Hp → Prop} {H0 : Hp} (φ : Hp → Prop) (h1 : φ H0) (h2 : ∀ H1, φ H1 → P H1) : P H0 := h2 H0 h1
/-! ### comprehensions that change nothing else -/
section
variable {J : It} {n : Nat} {G : Hp → Prop} {Y : Nat → Hp → V → Hp → Prop}
/-- the made list behind i turns -/
def made (xs : List V) (f : V → Option V) (i : Nat) : List V := (xs.take i).filterMap f
theorem made_yes {xs : List V} {f : V → Option V} {i : Nat} {x y : V} (hx : xs[i]? = some x) (hf : f x = some y) : made xs f (i + 1) = made xs f i ++ [y] := by
  unfold made
  rw [List.take_add_one, hx, List.filterMap_append]
  simp [hf]
theorem made_no {xs : List V} {f : V → Option V} {i : Nat} {x : V} (hx : xs[i]? = some x) (hf : f x = none) : made xs f (i + 1) = made xs f i := by
  unfold made
  rw [List.take_add_one, hx, List.filterMap_append]
  simp [hf]
theorem made_len (xs : List V) (f : V → Option V) (i : Nat) : (made xs f i).length ≤ i := by
  unfold made
  exact Nat.le_trans (List.length_filterMap_le _ _) (by rw [List.length_take]; exact Nat.min_le_left _ _)
/-- a comprehension whose turns leave the heap as it is: what each item gives is told by f -/
theorem lc_pure (w : Walk J n G Y) (xs : List V) (f : V → Option V) (hn : xs.length = n) (hY : ∀ i H x H', i < n → Y i H x H' → H' = H ∧ xs[i]? = some x) {g : TG} {tt : TT} {te : TE} {vs : List Nat} {σ : L2.St} {H1 : Hp} {D : Addr} {Qd : Hp → Prop}
    (hz : n < sizeLine) (hG : ∀ acc, G (upd H1 D (.lst acc)))
    (hs : ∀ i x, i < n → xs[i]? = some x → g x (wipe σ vs) (upd H1 D (.lst (made xs f i))) fun σ2 H2 => wipe σ2 vs = wipe σ vs ∧ tt σ2 H2 fun b H3 =>
      if b = true then te σ2 H3 fun y H4 => ∃ acc, H4 D = some (.lst acc) ∧ acc.length < sizeLine ∧ upd H4 D (.lst (acc ++ [y])) = upd H1 D (.lst (made xs f (i + 1))) else H3 = upd H1 D (.lst (made xs f (i + 1))))
    (hd : Qd (upd H1 D (.lst (xs.filterMap f)))) :
    ∃ W : Nat → Nat → Hp → Prop, (∃ m, W 0 m (upd H1 D (.lst []))) ∧ ∀ i m H, W i m H →
      (J.stop i H ∧ Qd H) ∨ (J.go i H ∧ ∃ Nx : Hp → Prop, (∀ H', Nx H' → ∃ m', m' < m ∧ W (i + 1) m' H') ∧ ∀ x H', J.yld i H x H' → g x (wipe σ vs) H' fun σ2 H2 => wipe σ2 vs = wipe σ vs ∧ tt σ2 H2 fun b H3 =>
        if b = true then te σ2 H3 fun y H4 => ∃ acc, H4 D = some (.lst acc) ∧ acc.length < sizeLine ∧ Nx (upd H4 D (.lst (acc ++ [y]))) else Nx H3) := by
  refine lc_it w (fun i H => H = upd H1 D (.lst (made xs f i))) rfl (fun i H _ e => by rw [e]; exact hG _) (fun i x H H' hi e y => ?_) (fun H e => ?_)
  · obtain ⟨e2, hx⟩ := hY i H x H' hi y
    rw [e2, e]
    exact hs i x hi hx
  · have : made xs f n = xs.filterMap f := by unfold made; rw [← hn, List.take_length]
    rw [e, this]
    exact hd
theorem lc_yes {xs : List V} {f : V → Option V} {i : Nat} {x y : V} {H1 : Hp} {D : Addr} {n : Nat} (hx : xs[i]? = some x) (hi : i < n) (hz : n < sizeLine) (hf : f x = some y) :
    ∃ acc, (upd H1 D (.lst (made xs f i))) D = some (.lst acc) ∧ acc.length < sizeLine ∧ upd (upd H1 D (.lst (made xs f i))) D (.lst (acc ++ [y])) = upd H1 D (.lst (made xs f (i + 1))) :=
  ⟨_, upd_same, Nat.lt_of_le_of_lt (made_len _ _ _) (Nat.lt_trans hi hz), by rw [upd_upd, made_yes hx hf]⟩
theorem lc_no {xs : List V} {f : V → Option V} {i : Nat} {x : V} {H1 : Hp} {D : Addr} (hx : xs[i]? = some x) (hf : f x = none) : upd H1 D (.lst (made xs f i)) = upd H1 D (.lst (made xs f (i + 1))) := by rw [made_no hx hf]
/-- the signs of a text as texts -/
def signs (z : Str) : List V := z.cps.toList.map fun c => .str ⟨#[c]⟩
theorem signs_len (z : Str) : (signs z).length = z.cps.size := by unfold signs; rw [List.length_map, Array.length_toList]
theorem yld_str {z : Str} : ∀ (i : Nat) (H : Hp) (x : V) (H' : Hp), i < z.cps.size → (H' = H ∧ ∃ c, z.cps[i]? = some c ∧ x = .str ⟨#[c]⟩) → H' = H ∧ (signs z)[i]? = some x := fun i H x H' _ ⟨e, c, hc, ex⟩ =>
  ⟨e, by unfold signs; rw [List.getElem?_map, Array.getElem?_toList, hc, ex]; rfl⟩
end
def spDraw : Sp := fun vs H Q _ => ∃ (S L : Addr) (n : Nat) (k : Int), vs = [.ref S, .int k] ∧ Stm H S L n ∧ n ≤ 10000000 ∧ 0 < k ∧ k ≤ 10 ^ 40 ∧
  ∀ (H' : Hp) (r : Int), 0 ≤ r → r < k → Stm H' S L (n + 1) → Old S L H H' → Q (.int r) H'
end Ls
namespace Ls
open PySem PySem.Spec PyProof.Rows L2
/-! ### defs that run where no repr is under way -/
/-- the promise of a def, kept wherever no guard of the interpreter's own stands -/
structure FnG (P : Program) (w : World) (K : PySem.W.Frag) (mg : Str → Option Value) (base : Heap) (CX : CXT) (k : Nat) (f : Addr) (fd : FuncData) (ps : List Str) (sp : Sp) : Prop where
  len : ∀ vs H Q E, sp vs H Q E → vs.length = ps.length
  run : ∀ (A : Around) (outer : List Env) (s : Shared) (H : Hp) (args : Args) (us : List Value) (vs : List V) (Q : VK) (E : XK), A.guards = some [] → Room k A → Env0 P w K mg base A outer s H →
    BindsTo s fd args (ps.zip us) → Vals vs us → sp vs H Q E → codeAny (model P w) A (.call (.ref f) args) (CR CX outer P w H s Q E) s
/-- where it stands and how it is bound -/
structure OwnG (P : Program) (w : World) (K : PySem.W.Frag) (mg : Str → Option Value) (base : Heap) (CX : CXT) (k : Nat) (x : Str) (ps : List Str) (sp : Sp) : Prop where
  ex : ∃ (f : Addr) (fd : FuncData), FnG P w K mg base CX k f fd ps sp ∧ mg x = some (.ref f) ∧ PySem.W.keepIn K (.ref f) = true ∧ Binds K fd ps []
section
variable {X : Cx} {k j : Nat} {x : Str} {ps : List Str} {sp : Sp} {p pos : Pos} {e : Expr} {es : List Expr} {t : TA}
theorem own_callG (O : OwnG X.prog X.w X.K X.mg X.base CX0 k x ps sp) (hgd : X.A.guards = some []) (hr : Room j X.A) (hkj : k ≤ j) (ha : PA X (e :: es) t)
    (hg : Gl X x := by rfl) (hdb : (x == ("__debug__" : Str)) = false := by decide) (he : starEach (e :: es) X.env = (false, eval e X.env) :: starEach es X.env := by rfl) (hpl : (backTo pos (starEach es X.env)).any (·.1) = false := by rfl) :
    PE X (.Call (.Name x p) (e :: es) [] pos) (tCall sp [] E0 t) := by
  obtain ⟨f, fd, F, g, kp, b⟩ := O.ex
  refine ⟨fun pins s σ H Q I h => wpAny_Call_Name_kw (ld_glob I hg g (PySem.W.callWith_K (h₀ := X.base) I.ok.mod.kin kp ?_ he hpl) hdb)⟩
  refine thn (ha.run pos pins s σ H _ I h) fun us s1 hh => ?_
  obtain ⟨vs, H1, I1, r, q⟩ := hh
  refine ⟨I1.kIn, wpAny_call ?_⟩
  have q0 : sp vs H1 Q E0 := by simpa using q
  have b1 := b s1 us I1.kIn (by rw [List.append_nil, ← r.length]; exact F.len _ _ _ _ q0)
  rw [List.append_nil] at b1
  refine codeAny_mono (F.run X.A X.stack s1 H1 ⟨us, []⟩ us vs Q E0 hgd (hr.mono hkj) I1.env0 b1 r q0) fun res s2 hq => ?_
  match res, hq with
  | .ok (.ret u), hq => exact I1.after hq
  | .error z, hq => exact False.elim hq
end
section
variable {P : Program} {w : World} {K : PySem.W.Frag} {mg : Str → Option Value} {base : Heap}
/-- a def by its body, where no guard stands -/
theorem fun_okG {x qual : Str} {st : Stmt} {f : Addr} {fd : FuncData} {N ps : List Str} {k : Nat} {sp : Sp} (F : Fun K x qual st f fd) (S : FnScope N ps (defScope st)) (len : ∀ vs H Q E, sp vs H Q E → vs.length = ps.length)
    (body : ∀ (cdv : Value) (A : Around) (outer : List Env) (s : Shared) (H : Hp) (vs : List V) (Q : VK) (E : XK), A.guards = some [] → Room k (A.deeper (envOfC qual (defScope st) s.heap.objs.size f cdv)) → sp vs H Q E →
      ∃ t, PSs (cxOf CX0 P w K mg base N qual (defScope st) f cdv A outer s H E).nox (defBody st) t ∧ t { nx := fun _ H' => Q .non H', rt := Q } (start N vs) H) : FnG P w K mg base CX0 (k + 1) f fd ps sp := by
  obtain ⟨oc, od, kV, doc, pm, an, cdv, ct, osl, rfl, lk, hcd⟩ := F.ex
  refine ⟨len, fun A outer s H args us vs Q E hgd hr e0 hb r hsp => ?_⟩
  have kin : K.In s.heap := e0.mod.kin.keeps fun b o e => (e0.bs b o e).1
  have kinds : ∀ y ∈ ps.zip us, (defScope st).names.lookup y.1 = some .local ∨ ((defScope st).names.lookup y.1 = some .cell ∧ ((cellsFrom (s.heap.objs.size + 1) (defScope st).names []).lookup y.1).isSome = true) := by
    rintro ⟨n, v⟩ hy
    exact (S.par n (List.of_mem_zip hy).1).imp id fun q => ⟨q, PySem.W.cellsFrom_some _ _ _ (.inl q)⟩
  refine codeAny_call_function hr.depth (kin _ _ lk) rfl S.co S.gen rfl (PySem.W.codeRec_of kin hcd) (hb _ _ _ _ (wpAny_newFunctionEnv_cells S.kind kinds fun env he s1 x1 => ?_))
  subst he
  refine ⟨(e0.mod.nolimit.keeps fun b o e => (e0.bs b o e).1).keeps x1.toInCall.keep, codeAny_func ?_⟩
  obtain ⟨t, ht, hq⟩ := body cdv A outer s H vs Q E hgd (hr.deeper _) hsp
  have I := inv_start (P := P) (w := w) (mg := mg) (base := base) (CX := CX0) (E := E) S hr.hd e0 (len _ _ _ _ hsp) r x1
  refine wpAny_mono (ht.nox.run [] s1 (start N vs) H _ I hq) (fun fl s' hs => ?_) fun _ _ hs => hs
  match fl, hs with
  | .ret u, ⟨v, σ', H', J, rv, q⟩ => exact ⟨v, H', J.os, J.bare, J.base, J.hok, rv, q⟩
  | .next, ⟨σ', H', J, q⟩ => exact ⟨V.non, H', J.os, J.bare, J.base, J.hok, rfl, q⟩
  | .brk, ⟨_, _, _, q⟩ => exact False.elim q
  | .cont, ⟨_, _, _, q⟩ => exact False.elim q
theorem FnOk.toG {CX : CXT} {k : Nat} {f : Addr} {fd : FuncData} {ps : List Str} {sp : Sp} (F : FnOk P w K mg base CX k f fd ps sp) : FnG P w K mg base CX k f fd ps sp :=
  ⟨F.len, fun A outer s H args us vs Q E _ hr e0 hb r h => F.run A outer s H args us vs Q E hr e0 hb r h⟩
end
/-! ### repr of data -/
section
variable {X : Cx}
/-- repr(x): the text of x's data -/
def rRepr (K : PySem.W.Frag) : List V → Hp → VK → Prop := fun xs H Q => ∃ (a : Addr) (d : PyData), xs = [.ref a] ∧ Dp K H (.ref a) d ∧ d.showable = true ∧ d.hasDict = false ∧ d.depth ≤ 60 ∧ d.shown.length ≤ sizeLine ∧ Q (.str d.shown) H
theorem call_repr_data {k : Nat} (hgd : X.A.guards = some []) (hr : Room k X.A) : CallR X (.builtin "repr") (rRepr X.K) := by
  intro pins s σ H xs us Q I r h
  obtain ⟨a, d, rfl, hd, hs, hn, hdp, hz, q⟩ := h
  obtain ⟨u, rfl, ru⟩ := r.one
  obtain ⟨as, rd⟩ := Dp.reads I d _ u hd ru
  cases ru
  refine repr_of_reads' rd hs (fun z => by rw [hn] at z; cases z) hgd (by have := hr.un; omega) (fun b o e => e) (fun h' v tk keep => ?_) hz
  exact ⟨.str d.shown, H, I.kept (t' := tk) keep, ⟨_, rfl⟩, q⟩
end
/-! ### the law's own call -/
/-- the script's list, known to the object -/
def scriptO (vs : List Value) : Obj := { cls := .type "list", data := .seq vs.toArray }
/-- what is tracked at the law's entry: the script, if it is no object of the module -/
def H0 (K : PySem.W.Frag) (a : Addr) (vs : List Value) (ns : List Int) : Hp := fun b => if b = a ∧ K.lookup a = none then some (.frz (scriptO vs) (.lst (ns.map V.int))) else none
theorem H0_some {K : PySem.W.Frag} {a b : Addr} {vs : List Value} {ns : List Int} {u : HO} (h : H0 K a vs ns b = some u) : b = a ∧ K.lookup a = none ∧ u = .frz (scriptO vs) (.lst (ns.map V.int)) := by
  unfold H0 at h
  by_cases c : b = a ∧ K.lookup a = none
  · rw [if_pos c] at h
    exact ⟨c.1, c.2, (Option.some.inj h).symm⟩
  · rw [if_neg c] at h
    cases h
theorem ints_vals : ∀ {ns : List Int} {vs : List Value}, IntsAre vs ns → Vals (ns.map V.int) vs
  | _, _, .nil => .nil
  | _, _, .cons _ _ r => .cons ⟨_, rfl⟩ (ints_vals r)
theorem law_callG {P : Program} {w : World} {K : PySem.W.Frag} {mg mb : Str → Option Value} {k : Nat} {fa a : Addr} {fd : FuncData} {x : Str} {sp : Sp} {s₁ : Shared} {vs : List Value} {ns : List Int}
    (kin : K.In s₁.heap) (hm : s₁.heap.Ns mainGlobals mg) (hbl : s₁.heap.Ns builtinsNs mb) (hbt : ∀ y : Str, y ≠ "__name__" → mb y = bootBuiltins y) (lim : s₁.heap.NoLimit) (gens : s₁.gens = #[])
    (obj : s₁.heap.get? a = some (scriptO vs)) (hints : IntsAre vs ns) (size : ns.length ≤ sizeLine) (room : Room k callerA)
    (F : ∀ base : Heap, K.In base → base.Ns mainGlobals mg → FnG P w K mg base CX0 k fa fd [x] sp) (bind : ∀ (s : Shared) (u : Value), BindsTo s fd ⟨[u], []⟩ [(x, u)])
    (want : ∀ H : Hp, SqL K H a (ns.map V.int) → sp [.ref a] H (fun v _ => v = .bl true) E0) :
    codeAny (model P w) callerA (.call (.ref fa) ⟨[.ref a], []⟩) (fun r s' => r = .ok (.ret (.bool true)) ∧ OldK s₁.heap s'.heap ∧ s'.os = s₁.os ∧ AllBare s'.gens) s₁ := by
  have rv := ints_vals hints
  have ok : HOk P w (H0 K a vs ns) s₁.heap := fun b u h => by
    obtain ⟨rfl, _, rfl⟩ := H0_some h
    exact ⟨obj, by rw [List.length_map]; exact size, vs, _, rv, obj⟩
  have sq : SqL K (H0 K a vs ns) a (ns.map V.int) := by
    cases lk : K.lookup a with
    | none => exact .inl (.inr ⟨scriptO vs, if_pos ⟨rfl, lk⟩⟩)
    | some o =>
      have e := kin a o lk
      rw [obj] at e
      cases e
      exact .inr ⟨_, vs.toArray, _, lk, rfl, rfl, rfl, by rw [List.size_toArray, hints.length]; exact size, by simpa using rv⟩
  -- what is not tracked stays in sight
  have seen : ∀ {b : Addr} {o : Obj}, s₁.heap.get? b = some o → (b = a → K.lookup a ≠ none) → (hidT s₁.heap (H0 K a vs ns)).get? b = some o := fun {b o} e n => hidT_get e (by
    cases q : H0 K a vs ns b with
    | none => rfl
    | some u =>
      obtain ⟨h1, h2, _⟩ := H0_some q
      exact absurd h2 (n h1))
  have dicts : ∀ {b : Addr} {m : Str → Option Value}, s₁.heap.Ns b m → (hidT s₁.heap (H0 K a vs ns)).Ns b m := fun {b m} ⟨o, es, ep, e, d, r⟩ => ⟨o, es, ep, seen e (fun z => by
    subst z
    rw [obj] at e
    cases e
    cases (show Data.seq vs.toArray _ = Data.dict es ep from d)), d, r⟩
  have kinB : K.In (hidT s₁.heap (H0 K a vs ns)) := fun b o e => seen (kin b o e) (fun z => by subst z; rw [e]; simp)
  have md : Mod K mg (hidT s₁.heap (H0 K a vs ns)) := ⟨kinB, dicts hm, ⟨mb, dicts hbl, hbt⟩, let ⟨mc, h1, h2⟩ := lim; ⟨mc, dicts h1, h2⟩⟩
  have e0 : Env0 P w K mg (hidT s₁.heap (H0 K a vs ns)) callerA [] s₁ (H0 K a vs ns) :=
    { frames := rfl, mod := md, bs := fun b o e => of_hidT e, bsz := Nat.le_of_eq (hidT_size _ _), funs := trivial, frf := fun b hb => (List.not_mem_nil hb).elim, hok := ok, bare := .of_eq gens }
  refine codeAny_mono ((F _ kinB (dicts hm)).run callerA [] s₁ (H0 K a vs ns) ⟨[.ref a], []⟩ [.ref a] [.ref a] (fun v _ => v = .bl true) E0 rfl room e0 (bind s₁ (.ref a)) (.cons rfl .nil) (want _ sq)) fun r s' h => ?_
  match r, h with
  | .error z, h => exact False.elim h
  | .ok (.ret u), ⟨v, H', os, bare, un, ok', rv', q⟩ =>
    have q' : v = .bl true := q
    subst q'
    obtain rfl : u = Value.bool true := rv'
    refine ⟨rfl, OldK.of_keep fun b o e => ?_, os, bare⟩
    cases t : H0 K a vs ns b with
    | none => exact un.keep b o e t (fun z => (List.not_mem_nil z).elim) (fun z => (List.not_mem_nil z).elim)
    | some u =>
      obtain ⟨rfl, _, rfl⟩ := H0_some t
      have e2 := (ok' b _ (un.frzs b _ _ t)).1
      rw [obj] at e
      cases e
      exact e2
theorem walk_ofG {l : PySem.W.OpenLaw} {n k : Nat} {q : Program} {loose : List Str} {XP : (Str → Option Value) → Heap → Prop} {YP : World → Heap → Prop} {d : DefRec} {K : Params → PySem.W.Frag} {sp : World → Sp} {x : Str}
    (hn : l.most = some n) (hn2 : n ≤ sizeLine) (hdf : d.params.defaults = []) (room : Room k callerA) (hY : ∀ (w : World) (h : Heap), YP w h → (K w.params).In h)
    (F : ∀ (w : World) (mg : Str → Option Value) (fa : Addr) (h : Heap), (K w.params).In h → h.Ns mainGlobals mg → mg d.name = some (.ref fa) →
      ∃ fd : FuncData, (∀ (s : Shared) (u : Value), BindsTo s fd ⟨[u], []⟩ [(x, u)]) ∧ ∀ base : Heap, (K w.params).In base → base.Ns mainGlobals mg → FnG l.prog w (K w.params) mg base CX0 k fa fd [x] (sp w))
    (want : ∀ (w : World) (H : Hp) (a : Addr) (ns : List Int), ns.length ≤ n → SqL (K w.params) H a (ns.map V.int) → sp w [.ref a] H (fun v _ => v = .bl true) E0) :
    PySem.W.WalkO q loose XP YP l.row.toRowW d [] (fun f vs => PySem.call f vs) := by
  refine Att.attach_call hn hdf fun w s₀ s₁ mg mb fa o pm cd doc a vs ns G Y ho hd hcd hmg hobj hints hlen hg => ?_
  have kin := hY w _ Y
  obtain ⟨fd, hb, hF⟩ := F w mg fa _ kin G.T.g hmg
  exact law_callG kin G.T.g G.T.b G.T.builtins G.T.nolimit hg hobj hints (Nat.le_trans hlen hn2) room hF hb fun H hS => want w H a ns hlen hS
end Ls
namespace Ls
open PySem PySem.Spec PyProof.Rows L2
/-- the end over a head by facts, for a law that asks repr: the written part is told by the head -/
theorem walk_ofGE {l : PySem.W.OpenLaw} {n k : Nat} {q : Program} {loose : List Str} {XP : (Str → Option Value) → Heap → Prop} {YP : World → Heap → Prop} {d : DefRec} {x : Str} (hn : l.most = some n) (hn2 : n ≤ sizeLine) (hdf : d.params.defaults = []) (room : Room k callerA)
    (F : ∀ (w : World) (mg : Str → Option Value) (fa : Addr) (h : Heap), YP w h → h.Ns mainGlobals mg → mg d.name = some (.ref fa) → ∃ (K : PySem.W.Frag) (fd : FuncData) (sp : Sp), K.In h ∧ (∀ (s : Shared) (u : Value), BindsTo s fd ⟨[u], []⟩ [(x, u)]) ∧
      (∀ (H : Hp) (a : Addr) (ns : List Int), ns.length ≤ n → SqL K H a (ns.map V.int) → sp [.ref a] H (fun v _ => v = .bl true) E0) ∧ ∀ base : Heap, K.In base → base.Ns mainGlobals mg → FnG l.prog w K mg base CX0 k fa fd [x] sp) :
    PySem.W.WalkO q loose XP YP l.row.toRowW d [] (fun f vs => PySem.call f vs) := by
  refine Att.attach_call hn hdf fun w s₀ s₁ mg mb fa o pm cd doc a vs ns G Y ho hd hcd hmg hobj hints hlen hg => ?_
  obtain ⟨K, fd, sp, kin, hb, want, hF⟩ := F w mg fa _ Y G.T.g hmg
  exact law_callG kin G.T.g G.T.b G.T.builtins G.T.nolimit hg hobj hints (Nat.le_trans hlen hn2) room hF hb fun H hS => want H a ns hlen hS
end Ls
namespace Ls
open PySem PySem.Spec PyProof.Rows L2
def topS (i : Nat) : Stmt := PySem.Challenge.pw_longstrike_k01_errors_made.main.body.getD i (.Pass ⟨0, 0, 0, 0⟩)
/-- the built-in names that are called -/
structure Bt (mg : Str → Option Value) : Prop where
  m_int : mg "int" = none
  m_len : mg "len" = none
  m_range : mg "range" = none
  m_list : mg "list" = none
  m_tuple : mg "tuple" = none
  m_dict : mg "dict" = none
  m_isinstance : mg "isinstance" = none
  m_all : mg "all" = none
  m_any : mg "any" = none
  m_repr : mg "repr" = none
  m_str : mg "str" = none
/-! ### short steps -/
local macro_rules | `(tactic| walk_at "ls_ne") => `(tactic| first | assumption | exact Ne.symm (by assumption) | exact ne_of_none (by assumption) (by assumption) | exact Ne.symm (ne_of_none (by assumption) (by assumption)))
local macro_rules | `(tactic| walk_at "ls_hp") => `(tactic| first
  | with_reducible assumption
  | exact upd_same
  | exact Eq.trans (upd_ne (by walk_at "ls_ne")) (by walk_at "ls_hp"))
local macro_rules | `(tactic| walk_at "ls_st") => `(tactic| first
  | with_reducible assumption
  | exact Stm.upd (by walk_at "ls_st") (by first | walk_at "ls_ne" | exact (Stm.noneS (by assumption) (by assumption)).1) (by first | walk_at "ls_ne" | exact (Stm.noneS (by assumption) (by assumption)).2))
local macro_rules | `(tactic| walk_at "ls1") => `(tactic| first
  | refine ⟨_, rfl, ?_⟩
  | refine ⟨_, _, rfl, rfl, ?_⟩
  | refine ⟨_, _, _, _, rfl, rfl, .inl (.inl (by walk_at "ls_hp")), rfl, ?_⟩
  | refine ⟨_, _, _, _, rfl, rfl, (by walk_at "ls_hp"), rfl, ?_⟩
  | refine ⟨rfl, _, rfl, ?_⟩
  | refine ⟨.inl ⟨rfl, _, .inl (.inl (by walk_at "ls_hp"))⟩, ?_⟩)
local macro_rules | `(tactic| walk_at "ls") => `(tactic| repeat (walk_at "ls1"))

section
variable {P : Program} {w : World} {K : PySem.W.Frag} {mg : Str → Option Value} {base : Heap}
/-! ### _law_draw -/
abbrev s__law_draw : Stmt := topS 28
theorem sc__law_draw : FnScope ["_law_stream", "_law_many", "_law_digit", "_law_mixed"] ["_law_stream", "_law_many"] (defScope s__law_draw) := ⟨rfl, rfl, rfl, by decide +kernel, rfl, by decide +kernel, by decide +kernel⟩
abbrev N__law_draw : List Str := ["_law_stream", "_law_many", "_law_digit", "_law_mixed"]
theorem ok_draw {f : Addr} {fd : FuncData} {j : Nat} (F : Fun K "_law_draw" "_law_draw" s__law_draw f fd) (T : Bt mg) : FnOk P w K mg base CX0 (j + 1) f fd ["_law_stream", "_law_many"] spDraw := by
  refine F.ok sc__law_draw (fun vs H Q E h => ?_) (fun cdv A outer s H vs Q E hr h => ?_)
  · obtain ⟨S, L, n, k, rfl, _⟩ := h
    rfl
  · obtain ⟨S, L, n, k, rfl, hst, hn, hk, hk2, q⟩ := h
    have hu := hu_of hr
    refine ⟨_, (pss_cons (ps_asg (pe_op op_add (pe_ix (ixL K) (pv 0) pe_int (fun _ _ => rfl)) pe_int) (pg_sub (pv 0) pe_int set_list))
      (C8.pss_cut (ps_if (PW.pt (pw_and (pt_cmpR op_eq (pe_ix (ixL K) (pv 0) pe_int (fun _ _ => rfl)) pe_int (nomark _)) (pw_and1 (pt_cmpR (neD K hr) (pe_ix (ixL K) (pv 0) pe_int (fun _ _ => rfl)) (pe_lst pa_nil) (nomark _))))) (pss_cons (ps_asg (pe_bm PySem.F.plainAttrs_list PySem.F.slot_list_pop PySem.F.type_list_pop mt_popAt (pe_ix (ixL K) (pv 0) pe_int (fun _ _ => rfl)) (pa_cons pe_int pa_nil)) (pg_sub (pv 0) pe_int set_list))
      (pss_one (ps_if (pt_cmpR op_lt (pe_ix (ixL K) (pv 0) pe_int (fun _ _ => rfl)) (pe_op op_pow pe_int pe_int) (nomark _)) (pss_cons (ps_asg (pe_op op_mod (pe_callTy call_int1 (by rfl) T.m_int (by decide +kernel) (pa_cons (pe_op op_add (pe_op op_add (pe_op op_mul (pe_ix (ixL K) (pv 0) pe_int (fun _ _ => rfl)) pe_int) (pe_ix (ixL K) (pv 0) pe_int (fun _ _ => rfl))) pe_int) pa_nil)) pe_int) (pg_sub (pv 0) pe_int set_list))
      (pss_one (ps_asg pe_int (pg_sub (pv 0) pe_int set_list)))) pss_nil))) pss_nil)
      (pss_cons (ps_if (pt_cmpR op_gt (pe_ix (ixL K) (pv 0) pe_int (fun _ _ => rfl)) pe_int (nomark _)) (pss_cons (ps_set (i := 2) sc__law_draw.nd rfl (Or.inl rfl) (pe_op op_mod (pe_callTy call_int1 (by rfl) T.m_int (by decide +kernel) (pa_cons (pe_ix (ixL K) (pv 0) pe_int (fun _ _ => rfl)) pa_nil)) (pv 1)))
      (pss_cons (ps_asg (pe_op op_fdivW (pe_ix (ixL K) (pv 0) pe_int (fun _ _ => rfl)) (pv 1)) (pg_sub (pv 0) pe_int set_list))
      (pss_one (ps_ret (pv 2))))) pss_nil)
      (pss_cons (ps_set (i := 3) sc__law_draw.nd rfl (Or.inl rfl) (pe_op op_mod (pe_op op_pow (pe_op op_add (pe_op op_add (pe_ix (ixL K) (pv 0) pe_int (fun _ _ => rfl)) (pe_op op_mul pe_int (pe_ix (ixL K) (pv 0) pe_int (fun _ _ => rfl)))) pe_int) pe_int) pe_int))
      (pss_one (ps_ret (pe_op op_mod (pe_op op_mod (pe_op op_pow (pe_op op_add (pe_op op_add (pe_op op_mul (pv 3) pe_int) (pe_op op_mul (pe_op op_mul pe_int (pe_ix (ixL K) (pv 0) pe_int (fun _ _ => rfl))) (pe_ix (ixL K) (pv 0) pe_int (fun _ _ => rfl)))) pe_int) pe_int) pe_int) (pv 1)))))))), ?_⟩
    obtain ⟨ns, d, c, m, hS, hL, d0, c0, cn, m0, m1⟩ := id hst
    have nSL := hst.ne
    walk_at "ls"
    refine ⟨fun σ' H' => σ' = [some (.ref S), some (.int k), none, none] ∧ ∃ (ns : List Int) (d m : Int), H' S = some (.lst [.ref L, .int d, .int (c + 1), .int m]) ∧ H' L = some (.lst (ns.map V.int)) ∧ 0 ≤ d ∧ 0 ≤ m ∧ m < 2147483647 ∧ Old S L H H', ?_, ?_⟩
    · walk_at "ls"
      refine ite2 (fun e => ?_) (fun e => ?_)
      · walk_at "ls"
        refine ⟨by decide, fun p hp => ?_⟩
        have hd : d = 0 := V.int.inj (of_decide_eq_true e)
        subst hd
        have nSp : p ≠ S := fun z => by rw [z, upd_same] at hp; cases hp
        have nLp : p ≠ L := fun z => by rw [z, upd_ne nSL.symm, hL] at hp; cases hp
        refine ⟨.list (ns.map .int), .list [], .lst (.inl (.inl (by walk_at "ls_hp"))) (dp_ints _), .lst (.inl (.inl upd_same)) .nil, shaped_ints ns, by decide +kernel, _, rfl, ?_⟩
        rw [eqv_nil]
        cases ns with
        | nil =>
          rw [decide_eq_true rfl]
          refine iteF ?_
          exact ⟨rfl, [], 0, m, (by walk_at "ls_hp"), (by walk_at "ls_hp"), d0, m0, m1, fun b o h1 h2 e => by rw [upd_ne (ne_of_none (by rw [upd_ne h1]; exact e) hp), upd_ne h1]; exact e⟩
        | cons x r =>
          rw [decide_eq_false (by simp)]
          refine iteT ?_
          walk_at "ls"
          refine ⟨_, _, _, 0, .int x, rfl, rfl, (by walk_at "ls_hp"), by decide, by decide, (ixN_seq (by show ixN ((List.map V.int (x :: r)).length) 0 = some 0; unfold ixN; rw [if_pos (by decide), if_pos (by rw [List.length_map, List.length_cons]; omega)]; rfl)).1, rfl, ?_⟩
          walk_at "ls"
          refine ⟨⟨by decide, by decide, by decide⟩, ?_⟩
          walk_at "ls"
          refine ite2 (fun e => ?_) (fun e => ?_)
          · walk_at "ls"
            refine ⟨.inr ⟨by decide, by decide⟩, ?_⟩
            walk_at "ls"
            refine .inl ⟨_, rfl, ?_⟩
            walk_at "ls"
            refine ⟨(by show (0 : Int) < 2147483647; decide), ?_⟩
            walk_at "ls"
            refine ⟨rfl, r, 0, _, upd_same, (by walk_at "ls_hp"), by decide, emod_lo _ (by decide), emod_hi _ (by decide), fun b o h1 h2 e => ?_⟩
            have np : b ≠ p := ne_of_none (by rw [upd_ne h1]; exact e) hp
            rw [upd_ne h1, upd_ne h1, upd_ne h1, upd_ne h2, upd_ne np, upd_ne h1]
            exact e
          · refine ⟨rfl, r, x, m, upd_same, (by walk_at "ls_hp"), ?_, m0, m1, fun b o h1 h2 e => ?_⟩
            · have hx : ¬ x < 10 ^ (18 : Int).toNat := fun z => e (decide_eq_true z)
              have h18 : (0 : Int) ≤ 10 ^ (18 : Int).toNat := by decide
              omega
            have np : b ≠ p := ne_of_none (by rw [upd_ne h1]; exact e) hp
            rw [upd_ne h1, upd_ne h2, upd_ne np, upd_ne h1]
            exact e
      · exact ⟨rfl, ns, d, m, upd_same, (by walk_at "ls_hp"), d0, m0, m1, fun b o h1 h2 e => by rw [upd_ne h1]; exact e⟩
    · rintro σ' H' ⟨rfl, ns, d, m, hS, hL, d0, m0, m1, hO⟩
      walk_at "ls"
      refine ite2 (fun e => ?_) (fun e => ?_)
      · have hd : 0 < d := of_decide_eq_true e
        walk_at "ls"
        refine .inl ⟨_, rfl, ?_⟩
        walk_at "ls"
        refine ⟨hk, ?_⟩
        walk_at "ls"
        refine ⟨⟨hk, log_lt hk hk2⟩, ?_⟩
        walk_at "ls"
        refine q _ _ (emod_lo _ hk) (emod_hi _ hk) ⟨ns, d / k, c + 1, m, upd_same, (by walk_at "ls_hp"), Int.ediv_nonneg (by omega) (by omega), by omega, by omega, m0, m1⟩ fun b o h1 h2 e => ?_
        rw [upd_ne h1]
        exact hO b o h1 h2 e
      · walk_at "ls"
        refine ⟨.inl ⟨by decide, by decide⟩, ?_⟩
        walk_at "ls"
        refine ⟨⟨by decide, by decide, lt_pow m0 m1 (by omega) (by omega)⟩, ?_⟩
        walk_at "ls"
        refine ⟨(by show (0 : Int) < 2147483629; decide), ?_⟩
        walk_at "ls"
        refine ⟨.inr ⟨by decide, by decide⟩, ?_⟩
        walk_at "ls"
        refine ⟨.inl ⟨by decide, by decide⟩, ?_⟩
        walk_at "ls"
        refine ⟨.inr ⟨by omega, by omega⟩, ?_⟩
        walk_at "ls"
        have hx := emod_hi ((m + 104729 * (c + 1) + 17) ^ Int.toNat 5) (show (0 : Int) < 2147483629 by decide)
        have hx0 := emod_lo ((m + 104729 * (c + 1) + 17) ^ Int.toNat 5) (show (0 : Int) < 2147483629 by decide)
        have hsq := sq_le (c := c + 1) (by omega) (by omega)
        refine ⟨⟨by decide, by decide, ?_⟩, ?_⟩
        · show Int.natAbs ((m + 104729 * (c + 1) + 17) ^ Int.toNat 5 % 2147483629 * 48271 + 40503 * (c + 1) * (c + 1) + 13) < 2 ^ 64
          omega
        walk_at "ls"
        refine ⟨(by show (0 : Int) < 1000000007; decide), ?_⟩
        walk_at "ls"
        refine ⟨hk, ?_⟩
        refine q _ _ (emod_lo _ hk) (emod_hi _ hk) ⟨ns, d, c + 1, m, hS, hL, d0, by omega, by omega, m0, m1⟩ hO
end
end Ls
namespace Ls
open PySem PySem.Spec PyProof.Rows L2
/-! ### repr of data, or of a pair of a text and an empty dict -/
def DpX (K : PySem.W.Frag) (H : Hp) (v : V) (d : PyData) : Prop := (Dp K H v d ∧ d.hasDict = false) ∨ ∃ (a e : Addr) (z : Str), v = .ref a ∧ H a = some (.tup [.str z, .ref e]) ∧ H e = some (.dK []) ∧ d = .tuple [.str z, .dict []]
section
variable {X : Cx} {pins : List (Addr × Obj)} {σ : L2.St} {H : Hp} {s : Shared}
theorem DpX.reads (I : Inv X pins σ H s) {v : V} {u : Value} {d : PyData} (h : DpX X.K H v d) (r : RelV v u) : ∃ as, Reads s.heap u d as ∧ (d.hasDict = true → sysModules ∉ as) := by
  rcases h with ⟨h, hn⟩ | ⟨a, e, z, rfl, ha, he, rfl⟩
  · obtain ⟨as, rd⟩ := Dp.reads I d v u h r
    exact ⟨as, rd, fun y => by rw [hn] at y; cases y⟩
  · cases r
    obtain ⟨its, rv, ⟨o, ho, hc, n, hd⟩, _⟩ := I.tuple (.inl (.inl ha))
    obtain ⟨_, hsm, vs, kv, oD, es, ep, hoD, hex, hdD, _, pr, _⟩ := dk_of I.hok he
    cases kv
    have e0 : es.toList = [] := by
      cases h : es.toList with
      | nil => rfl
      | cons x y => rw [h] at pr; cases pr
    have hcls : oD.cls = .type "dict" := hex.1
    cases rv with
    | cons r1 rr =>
      cases rr with
      | cons r2 rr =>
        cases rr
        obtain ⟨t, rfl⟩ := r1
        cases r2
        refine ⟨[] ++ ((e :: [] ++ []) ++ []), Reads.tuple ho hc hd (.cons (.str z t) (.cons (Reads.dict hoD hcls hdD ?_ ?_) .nil)), fun _ hm => ?_⟩
        · rw [e0]
          exact .nil
        · rw [e0]
          exact .nil
        · simp at hm
          rw [← hm] at hsm
          simp at hsm
/-- repr(x): the text of x's data -/
def rReprX (K : PySem.W.Frag) : List V → Hp → VK → Prop := fun xs H Q => ∃ (a : Addr) (d : PyData), xs = [.ref a] ∧ DpX K H (.ref a) d ∧ d.showable = true ∧ d.depth ≤ 60 ∧ d.shown.length ≤ sizeLine ∧ Q (.str d.shown) H
theorem call_repr_dataX {k : Nat} (hgd : X.A.guards = some []) (hr : Room k X.A) : CallR X (.builtin "repr") (rReprX X.K) := by
  intro pins s σ H xs us Q I r h
  obtain ⟨a, d, rfl, hd, hs, hdp, hz, q⟩ := h
  obtain ⟨u, rfl, ru⟩ := r.one
  obtain ⟨as, rd, hsm⟩ := DpX.reads I hd ru
  cases ru
  refine repr_of_reads' rd hs hsm hgd (by have := hr.un; omega) (fun b o e => e) (fun h' v tk keep => ?_) hz
  exact ⟨.str d.shown, H, I.kept (t' := tk) keep, ⟨_, rfl⟩, q⟩
end
end Ls
namespace Ls
open PySem PySem.Spec PyProof.Rows L2
/-! ### data whose text is not too long -/
structure DOk (k m : Nat) (d : PyData) : Prop where
  sh : d.showable = true
  nd : d.hasDict = false
  dp : d.depth ≤ k
  ls : d.leavesShort 100 = true
  bk : d.bulk ≤ m
theorem DOk.mono {k m k' m' : Nat} {d : PyData} (h : DOk k m d) (h1 : k ≤ k') (h2 : m ≤ m') : DOk k' m' d := ⟨h.sh, h.nd, Nat.le_trans h.dp h1, h.ls, Nat.le_trans h.bk h2⟩
theorem DOk.none {m : Nat} : DOk 0 m .none := ⟨rfl, rfl, by simp [PyData.depth], rfl, by simp [PyData.bulk]⟩
theorem DOk.bool {m : Nat} (b : Bool) : DOk 0 m (.bool b) := ⟨rfl, rfl, by simp [PyData.depth], rfl, by simp [PyData.bulk]⟩
theorem log_small {i : Int} (h : i.natAbs < 2 ^ 1920) : i.natAbs.log2 < 1920 := by
  by_cases z : i.natAbs = 0
  · rw [z]
    decide
  · exact (Nat.log2_lt z).mpr h
theorem DOk.int {m : Nat} {i : Int} (h : i.natAbs < 10 ^ 60) : DOk 0 m (.int i) :=
  ⟨by
    have e := log_small (Nat.lt_trans h (show 10 ^ 60 < 2 ^ 1920 by decide +kernel))
    simp [PyData.showable, e], by simp [PyData.hasDict], by simp [PyData.depth], by
    have e := int_text_length_le10 (k := 60) (by decide) h
    simp only [PyData.leavesShort, PyData.shown, decide_eq_true_eq]
    refine decide_eq_true ?_
    rw [PySem.ofString_length]
    omega, by simp [PyData.bulk]⟩
/-- a text of at most m signs -/
def okB (m : Nat) (z : Str) : Bool := decide (z.length ≤ m) && z.cps.toList.all fun c => decide (c < 1114112)
theorem okB_len {m : Nat} {z : Str} (h : okB m z = true) : z.length ≤ m := of_decide_eq_true (Bool.and_eq_true_iff.mp h).1
theorem okB_cp {m : Nat} {z : Str} (h : okB m z = true) : ∀ c ∈ z.cps.toList, c < 1114112 := fun c hc => of_decide_eq_true (List.all_eq_true.mp (Bool.and_eq_true_iff.mp h).2 c hc)
theorem okB_ch {m : Nat} {z : Str} (h : okB m z = true) : ∀ c ∈ z.cps.toList, c < 16 ^ 8 := fun c hc => Nat.lt_trans (okB_cp h c hc) (by decide)
theorem okB_strOk {m : Nat} {z : Str} (h : okB m z = true) : PyData.strOk z = true := by
  unfold PyData.strOk
  rw [← Array.all_toList]
  exact List.all_eq_true.mpr fun c hc => decide_eq_true (okB_cp h c hc)
theorem okB_mono {m m' : Nat} {z : Str} (h : okB m z = true) (h1 : m ≤ m') : okB m' z = true := by
  unfold okB at h ⊢
  obtain ⟨a, b⟩ := Bool.and_eq_true_iff.mp h
  rw [b, decide_eq_true (Nat.le_trans (of_decide_eq_true a) h1)]
  rfl
theorem okB_of {m : Nat} {z : Str} (h : z.length ≤ m) (h2 : ∀ c ∈ z.cps.toList, c < 1114112) : okB m z = true := by
  unfold okB
  rw [decide_eq_true h, Bool.true_and, List.all_eq_true]
  exact fun c hc => decide_eq_true (h2 c hc)
theorem okB_append {m n : Nat} {y z : Str} (h : okB m y = true) (h2 : okB n z = true) : okB (m + n) (y ++ z) = true := by
  unfold okB at h h2
  obtain ⟨a, b⟩ := Bool.and_eq_true_iff.mp h
  obtain ⟨c, d⟩ := Bool.and_eq_true_iff.mp h2
  have a := of_decide_eq_true a
  have c := of_decide_eq_true c
  refine okB_of ?_ fun x hx => ?_
  · rw [strLen_append]
    omega
  · have e : (y ++ z).cps.toList = y.cps.toList ++ z.cps.toList := by rw [PySem.Str.cps_append, Array.toList_append]
    rw [e] at hx
    rcases List.mem_append.mp hx with h | h
    · exact of_decide_eq_true (List.all_eq_true.mp b x h)
    · exact of_decide_eq_true (List.all_eq_true.mp d x h)
theorem DOk.str {m : Nat} {z : Str} (h : okB m z = true) : DOk 0 m (.str z) :=
  ⟨rfl, rfl, by simp [PyData.depth], by
    simp only [PyData.leavesShort]
    exact List.all_eq_true.mpr fun c hc => decide_eq_true (okB_ch h c hc), by
    simp only [PyData.bulk]
    exact okB_len h⟩
theorem dok_all {k m : Nat} : ∀ {ds : List PyData}, (∀ d ∈ ds, DOk k m d) → PyData.showableAll ds = true ∧ PyData.hasDictAll ds = false ∧ PyData.depthAll ds ≤ k ∧ PyData.leavesShortAll 100 ds = true ∧ PyData.bulkAll ds ≤ (m + 1) * ds.length
  | [], _ => ⟨by simp [PyData.showableAll], by simp [PyData.hasDictAll], by simp [PyData.depthAll], by simp [PyData.leavesShortAll], by simp [PyData.bulkAll]⟩
  | d :: r, h => by
    obtain ⟨a, b, c, e, f⟩ := dok_all fun x hx => h x (.tail _ hx)
    obtain ⟨a1, b1, c1, e1, f1⟩ := h d (.head _)
    refine ⟨by simp [PyData.showableAll, a, a1], by simp [PyData.hasDictAll, b, b1], ?_, by simp [PyData.leavesShortAll, e, e1], ?_⟩
    · simp only [PyData.depthAll]
      omega
    · simp only [PyData.bulkAll, List.length_cons]
      rw [Nat.mul_add, Nat.mul_one]
      omega
theorem DOk.list {k m : Nat} {ds : List PyData} (h : ∀ d ∈ ds, DOk k m d) : DOk (k + 1) ((m + 1) * ds.length) (.list ds) := by
  obtain ⟨a, b, c, e, f⟩ := dok_all h
  exact ⟨by rw [PyData.showable]; exact a, by rw [PyData.hasDict]; exact b, by rw [PyData.depth]; omega, by rw [PyData.leavesShort]; exact e, by rw [PyData.bulk]; exact f⟩
theorem DOk.tuple {k m : Nat} {ds : List PyData} (h : ∀ d ∈ ds, DOk k m d) : DOk (k + 1) ((m + 1) * ds.length) (.tuple ds) := by
  obtain ⟨a, b, c, e, f⟩ := dok_all h
  exact ⟨by rw [PyData.showable]; exact a, by rw [PyData.hasDict]; exact b, by rw [PyData.depth]; omega, by rw [PyData.leavesShort]; exact e, by rw [PyData.bulk]; exact f⟩
theorem DOk.list' {k m n : Nat} {ds : List PyData} (h : ∀ d ∈ ds, DOk k m d) (hn : ds.length ≤ n) : DOk (k + 1) ((m + 1) * n) (.list ds) := (DOk.list h).mono (Nat.le_refl _) (Nat.mul_le_mul_left _ hn)
theorem DOk.tuple' {k m n : Nat} {ds : List PyData} (h : ∀ d ∈ ds, DOk k m d) (hn : ds.length ≤ n) : DOk (k + 1) ((m + 1) * n) (.tuple ds) := (DOk.tuple h).mono (Nat.le_refl _) (Nat.mul_le_mul_left _ hn)
theorem DOk.fits {k m : Nat} {d : PyData} (h : DOk k m d) (hk : k ≤ 60) (hm : m ≤ 160000) : d.showable = true ∧ d.depth ≤ 60 ∧ d.shown.length ≤ sizeLine := by
  refine ⟨h.sh, Nat.le_trans h.dp hk, ?_⟩
  have e := PyData.shown_le_bulk 100 (by decide) d h.ls
  have e2 := h.bk
  have e3 : (100 + 2) * d.bulk ≤ 102 * 160000 := Nat.mul_le_mul_left _ (by omega)
  exact Nat.le_trans (show _ ≤ 102 * 160000 + 100 by omega) (by decide)
end Ls
namespace Ls
open PySem PySem.Spec PyProof.Rows L2
/-! ### short steps -/
local macro_rules | `(tactic| walk_at "ls_ne") => `(tactic| first | assumption | exact Ne.symm (by assumption) | exact ne_of_none (by assumption) (by assumption) | exact Ne.symm (ne_of_none (by assumption) (by assumption)))
local macro_rules | `(tactic| walk_at "ls_hp") => `(tactic| first
  | with_reducible assumption
  | exact upd_same
  | exact Eq.trans (upd_ne (by walk_at "ls_ne")) (by walk_at "ls_hp"))
local macro_rules | `(tactic| walk_at "ls_st") => `(tactic| first
  | with_reducible assumption
  | exact Stm.upd (by walk_at "ls_st") (by first | walk_at "ls_ne" | exact (Stm.noneS (by assumption) (by assumption)).1) (by first | walk_at "ls_ne" | exact (Stm.noneS (by assumption) (by assumption)).2))
local macro_rules | `(tactic| walk_at "ls1") => `(tactic| first
  | refine ⟨_, rfl, ?_⟩
  | refine ⟨_, _, rfl, rfl, ?_⟩
  | refine ⟨_, _, _, _, rfl, rfl, .inl (.inl (by walk_at "ls_hp")), rfl, ?_⟩
  | refine ⟨_, _, _, _, rfl, rfl, (by walk_at "ls_hp"), rfl, ?_⟩
  | refine ⟨rfl, _, rfl, ?_⟩
  | refine ⟨.inl ⟨rfl, _, .inl (.inl (by walk_at "ls_hp"))⟩, ?_⟩)
local macro_rules | `(tactic| walk_at "ls") => `(tactic| repeat (walk_at "ls1"))

/-- any of the law's objects -/
def Thn (H : Hp) (v : V) (d : PyData) : Prop := (∃ n : Int, v = .int n ∧ d = .int n ∧ -(10 ^ 30) ≤ n ∧ n < 10 ^ 30) ∨ (∃ z : Str, v = .str z ∧ d = .str z ∧ okB 20 z = true) ∨ (v = .non ∧ d = .none) ∨
  (∃ t, v = .ref t ∧ d = .tuple [.int 1, .str "a"] ∧ H t = some (.tup [.int 1, .str "a"])) ∨ ∃ t t2, v = .ref t ∧ d = .tuple [.str "look", .int 0, .tuple [.int 1, .int 2]] ∧ H t = some (.tup [.str "look", .int 0, .ref t2]) ∧ H t2 = some (.tup [.int 1, .int 2])
/-- a text of one sign -/
def one (c : Nat) : Str := ⟨#[c]⟩
theorem joinL_nil : ∀ ps : List (List Nat), TL.joinL [] ps = ps.flatten
  | [] => rfl
  | [p] => by simp [TL.joinL]
  | p :: q :: r => by
    show p ++ ([] ++ TL.joinL [] (q :: r)) = _
    rw [joinL_nil (q :: r)]
    simp
theorem join_ones (cs : List Nat) : Txt.join "" (cs.map one) = ⟨cs.toArray⟩ := by
  have e : cs.map one = (cs.map fun c => [c]).map SX.S := by rw [List.map_map]; rfl
  have e2 : (("" : Str)) = SX.S [] := by decide +kernel
  rw [e, e2, SX.join_S, joinL_nil]
  have : (cs.map fun c => [c]).flatten = cs := by
    clear e e2
    induction cs with
    | nil => rfl
    | cons a r ih =>
      rw [List.map_cons, List.flatten_cons, ih]
      rfl
  rw [this]
theorem ones_len (cs : List Nat) : ((cs.map one).map (·.length)).sum = cs.length := by
  induction cs with
  | nil => rfl
  | cons a r ih =>
    rw [List.map_cons, List.map_cons, List.sum_cons, ih]
    show (1 : Nat) + _ = _
    rw [List.length_cons]
    omega
theorem atI_any {α : Type} {xs : List α} {i : Int} (h0 : 0 ≤ i) (h1 : i < (xs.length : Int)) : ∃ v, atI xs i = some v ∧ v ∈ xs := by
  obtain ⟨n, rfl⟩ := Int.eq_ofNat_of_zero_le h0
  have hn : n < xs.length := by omega
  exact ⟨xs[n], atI_nat (List.getElem?_eq_getElem hn), List.getElem_mem hn⟩
section
variable {P : Program} {w : World} {K : PySem.W.Frag} {mg : Str → Option Value} {base : Heap}
/-! ### _law_pick of a text -/
abbrev s__law_pick : Stmt := topS 29
theorem sc__law_pick : FnScope ["_law_stream", "_law_things"] ["_law_stream", "_law_things"] (defScope s__law_pick) := ⟨rfl, rfl, rfl, by decide +kernel, rfl, by decide +kernel, by decide +kernel⟩
abbrev N__law_pick : List Str := ["_law_stream", "_law_things"]
def spPickT : Sp := fun vs H Q _ => ∃ (S L : Addr) (n : Nat) (z : Str), vs = [.ref S, .str z] ∧ Stm H S L n ∧ n ≤ 10000000 ∧ 0 < z.length ∧ z.length ≤ 1000 ∧
  ∀ (H' : Hp) (c : Nat), c ∈ z.cps.toList → Stm H' S L (n + 1) → Old S L H H' → Q (.str ⟨#[c]⟩) H'
theorem ok_pickT {f : Addr} {fd : FuncData} (F : Fun K "_law_pick" "_law_pick" s__law_pick f fd) (T : Bt mg) (O__law_draw : Own P w K mg base CX0 1 "_law_draw" ["_law_stream", "_law_many"] spDraw) : FnOk P w K mg base CX0 2 f fd ["_law_stream", "_law_things"] spPickT := by
  refine F.ok sc__law_pick (fun vs H Q E h => ?_) (fun cdv A outer s H vs Q E hr h => ?_)
  · obtain ⟨S, L, n, z, rfl, _⟩ := h
    rfl
  · obtain ⟨S, L, n, z, rfl, hst, hn, z0, z1, q⟩ := h
    have hu := hu_of hr
    refine ⟨_, (pss_one (ps_ret (pe_ix ix_str (pv 1) (own_call O__law_draw hr (by first | decide | omega) (pa_cons (pv 0) (pa_cons (pe_callB call_len_str (by rfl) T.m_len (by decide +kernel) (pa_cons (pv 1) pa_nil)) pa_nil))) (fun _ _ => rfl)))), ?_⟩
    walk_at "ls"
    refine ⟨Nat.le_trans z1 (by decide), ?_⟩
    refine ⟨S, L, n, _, rfl, hst, hn, by omega, by omega, fun H' r r0 r1 hst' hO => ?_⟩
    obtain ⟨c, hc, hm⟩ := atI_any (xs := z.cps.toList) r0 (by rw [Array.length_toList]; exact r1)
    exact ⟨z, r, c, rfl, rfl, Nat.le_trans z1 (by decide), hc, q H' c hm hst' hO⟩
/-! ### _law_thing -/
abbrev s__law_thing : Stmt := topS 35
theorem sc__law_thing : FnScope ["_law_stream", "_law_way", "_law_k"] ["_law_stream"] (defScope s__law_thing) := ⟨rfl, rfl, rfl, by decide +kernel, rfl, by decide +kernel, by decide +kernel⟩
abbrev N__law_thing : List Str := ["_law_stream", "_law_way", "_law_k"]
def spThing : Sp := fun vs H Q _ => ∃ (S L : Addr) (n : Nat), vs = [.ref S] ∧ Stm H S L n ∧ n ≤ 1000 ∧ ∀ (H' : Hp) (v : V) (d : PyData), Thn H' v d → Stm H' S L (n + 10) → Old S L H H' → Q v H'
theorem ok_thing {f : Addr} {fd : FuncData} (F : Fun K "_law_thing" "_law_thing" s__law_thing f fd) (T : Bt mg) (O__law_draw : Own P w K mg base CX0 1 "_law_draw" ["_law_stream", "_law_many"] spDraw) (O__law_pick : Own P w K mg base CX0 2 "_law_pick" ["_law_stream", "_law_things"] spPickT) : FnOk P w K mg base CX0 3 f fd ["_law_stream"] spThing := by
  refine F.ok sc__law_thing (fun vs H Q E h => ?_) (fun cdv A outer s H vs Q E hr h => ?_)
  · obtain ⟨S, L, n, rfl, _⟩ := h
    rfl
  · obtain ⟨S, L, n, rfl, hst, hn, q⟩ := h
    have hu := hu_of hr
    refine ⟨_, (pss_cons (ps_set (i := 1) sc__law_thing.nd rfl (Or.inl rfl) (own_call O__law_draw hr (by first | decide | omega) (pa_cons (pv 0) (pa_cons pe_int pa_nil))))
      (pss_cons (ps_if (pt_cmpR op_lt (pv 1) pe_int (nomark _)) (pss_one (ps_ret (pe_op op_sub (own_call O__law_draw hr (by first | decide | omega) (pa_cons (pv 0) (pa_cons (pe_op op_pow pe_int pe_int) pa_nil))) (pe_op op_mul pe_int (pe_op op_pow pe_int pe_int))))) pss_nil)
      (pss_one (ps_ret (pe_ix (ixL K) (pe_lst (pa_cons (pe_join pe_str (pe_lc (own := [("_law_k", 2)]) (g := gName 2) (by rfl) sc__law_thing.nd (pi_range1 rfl T.m_range (pa_cons pe_int pa_nil)) (blkOk_by (own := [("_law_k", 2)]) (N := N__law_thing) (sc := defScope s__law_thing) (by decide +kernel)) (fun _ _ _ _ _ => (pg_name (i := 2) sc__law_thing.nd rfl (Or.inl rfl) (Or.inr rfl))) (fun _ _ _ _ _ => pts_nil) (fun _ _ _ _ _ => (own_call O__law_pick hr (by first | decide | omega) (pa_cons (pv 0) (pa_cons pe_str pa_nil)))))) (pa_cons pe_non (pa_cons (pe_tup (pa_cons pe_int (pa_cons pe_str pa_nil))) (pa_cons (pe_tup (pa_cons pe_str (pa_cons pe_int (pa_cons (pe_tup (pa_cons pe_int (pa_cons pe_int pa_nil))) pa_nil)))) pa_nil))))) (pe_op op_sub (pv 1) pe_int) (fun _ _ => rfl)))))), ?_⟩
    walk_at "ls"
    refine ⟨S, L, n, _, rfl, hst, by omega, by omega, by omega, fun H1 r r0 r1 st1 od1 => ?_⟩
    walk_at "ls"
    refine ite2 (fun e => ?_) (fun e => ?_)
    · walk_at "ls"
      refine ⟨⟨by decide, by decide, by decide⟩, ?_⟩
      walk_at "ls"
      refine ⟨S, L, _, _, rfl, st1, by omega, by decide, by decide, fun H2 r2 r20 r21 st2 od2 => ?_⟩
      walk_at "ls"
      refine ⟨⟨by decide, by decide, by decide⟩, ?_⟩
      walk_at "ls"
      refine ⟨.inl ⟨by decide, by decide⟩, ?_⟩
      refine ⟨_, _, rfl, rfl, ?_⟩
      refine q _ _ _ (.inl ⟨_, rfl, rfl, ?_, ?_⟩) (st2.mono (by omega)) (od1.trans od2)
      · rw [show (10 : Int) ^ (29 : Int).toNat = 100000000000000000000000000000 by decide, show (10 : Int) ^ 30 = 1000000000000000000000000000000 by decide]
        omega
      · rw [show (10 : Int) ^ (30 : Int).toNat = 1000000000000000000000000000000 by decide] at r21
        rw [show (10 : Int) ^ (29 : Int).toNat = 100000000000000000000000000000 by decide, show (10 : Int) ^ 30 = 1000000000000000000000000000000 by decide]
        omega
    · walk_at "ls"
      refine ⟨⟨_, rfl⟩, 5, rfl, by decide, by decide, fun D hD => ?_⟩
      have nD := st1.noneS hD
      have e2 : 2 ≤ r := by have := of_decide_eq_false (eq_false_of_ne_true e); omega
      refine lc_it walk_range (fun i H3 => ∃ cs : List Nat, cs.length = i ∧ (∀ c ∈ cs, c < 1114112) ∧ H3 D = some (.lst ((cs.map one).map V.str)) ∧ Stm H3 S L (n + 1 + i) ∧ Old S L H1 H3) ⟨[], rfl, (fun _ h => nomatch h), upd_same, st1.upd nD.1 nD.2, .new hD⟩ (fun _ _ _ _ => trivial) (fun i x H3 H4 hi hP hy => ?_) (fun H3 hP => ?_)
      · obtain ⟨cs, hl, hc, h3, st3, od3⟩ := hP
        obtain ⟨rfl, rfl⟩ := hy
        refine ⟨rfl, ?_⟩
        walk_at "ls"
        refine ⟨S, L, n + 1 + i, _, rfl, st3, by omega, by decide +kernel, by decide +kernel, fun H5 c hcat st5 od5 => ?_⟩
        refine ⟨_, od5 D _ nD.1 nD.2 h3, ?_, cs ++ [c], ?_, ?_, ?_, ?_, ?_⟩
        · rw [List.length_map, List.length_map, hl]
          exact small1000 (by omega)
        · rw [List.length_append, hl]
          rfl
        · intro d hd
          rcases List.mem_append.mp hd with h | h
          · exact hc d h
          · rw [List.mem_singleton.mp h]
            exact (by decide +kernel : ∀ c ∈ ("abz Z0" : Str).cps.toList, c < 1114112) c hcat
        · rw [upd_same, List.map_append, List.map_append]
          rfl
        · exact (st5.mono (by omega)).upd nD.1 nD.2
        · intro b o h1 h2 e
          rw [upd_ne (ne_of_none e hD)]
          exact od5 b o h1 h2 (od3 b o h1 h2 e)
      · obtain ⟨cs, hl, hc, h3, st3, od3⟩ := hP
        refine ⟨_, D, cs.map one, rfl, rfl, .inl (.inl (.inl h3)), ?_, ?_⟩
        · rw [ones_len, List.length_map]
          show cs.length + cs.length * 0 ≤ 16777216
          omega
        rw [join_ones]
        have oz : okB 20 (⟨cs.toArray⟩ : Str) = true := okB_of (by show cs.toArray.size ≤ 20; rw [List.size_toArray]; omega) (fun c h => hc c (by simpa using h))
        generalize (⟨cs.toArray⟩ : Str) = z at *
        walk_at "ls"
        refine ⟨(by show 2 ≤ sizeLine; decide), fun t1 ht1 => ?_⟩
        walk_at "ls"
        refine ⟨(by show 2 ≤ sizeLine; decide), fun t2 ht2 => ?_⟩
        walk_at "ls"
        refine ⟨(by show 3 ≤ sizeLine; decide), fun t3 ht3 => ?_⟩
        refine ⟨(by show 4 ≤ sizeLine; decide), fun p hp => ?_⟩
        have s1 := same_new (o := .tup [.int 1, .str "a"]) ht1
        have s2 := same_new (o := .tup [.int 1, .int 2]) ht2
        have s3 := same_new (o := .tup [.str "look", .int 0, .ref t2]) ht3
        have s4 := same_new (o := .lst [.str z, .non, .ref t1, .ref t3]) hp
        have g1 := s4 _ _ (s3 _ _ (s2 _ _ (upd_same (H := H3) (a := t1) (o := .tup [.int 1, .str "a"]))))
        have g2 := s4 _ _ (s3 _ _ (upd_same (H := upd H3 t1 (.tup [.int 1, .str "a"])) (a := t2) (o := .tup [.int 1, .int 2])))
        have g3 := s4 _ _ (upd_same (H := upd (upd H3 t1 (.tup [.int 1, .str "a"])) t2 (.tup [.int 1, .int 2])) (a := t3) (o := .tup [.str "look", .int 0, .ref t2]))
        have g4 := upd_same (H := upd (upd (upd H3 t1 (.tup [.int 1, .str "a"])) t2 (.tup [.int 1, .int 2])) t3 (.tup [.str "look", .int 0, .ref t2])) (a := p) (o := .lst [.str z, .non, .ref t1, .ref t3])
        have st := (st3.keep (((s1.trans s2).trans s3).trans s4)).mono (show n + 1 + 5 ≤ n + 10 by omega)
        have od := (od1.trans od3).trans (.same (((s1.trans s2).trans s3).trans s4))
        generalize upd (upd (upd (upd H3 t1 (.tup [.int 1, .str "a"])) t2 (.tup [.int 1, .int 2])) t3 (.tup [.str "look", .int 0, .ref t2])) p (.lst [.str z, .non, .ref t1, .ref t3]) = H4 at *
        walk_at "ls"
        have r4 : r = 2 ∨ r = 3 ∨ r = 4 ∨ r = 5 := by omega
        rcases r4 with rfl | rfl | rfl | rfl
        · exact ⟨p, _, 0, .str z, rfl, rfl, .inl (.inl g4), atI_nat (j := 0) rfl, q _ _ _ (.inr (.inl ⟨z, rfl, rfl, oz⟩)) st od⟩
        · exact ⟨p, _, 1, .non, rfl, rfl, .inl (.inl g4), atI_nat (j := 1) rfl, q _ _ _ (.inr (.inr (.inl ⟨rfl, rfl⟩))) st od⟩
        · exact ⟨p, _, 2, .ref t1, rfl, rfl, .inl (.inl g4), atI_nat (j := 2) rfl, q _ _ _ (.inr (.inr (.inr (.inl ⟨t1, rfl, rfl, g1⟩)))) st od⟩
        · exact ⟨p, _, 3, .ref t3, rfl, rfl, .inl (.inl g4), atI_nat (j := 3) rfl, q _ _ _ (.inr (.inr (.inr (.inr ⟨t3, t2, rfl, rfl, g3, g2⟩)))) st od⟩
end
end Ls
namespace Ls
open PySem PySem.Spec PyProof.Rows L2 NdefX
open PySem.W (InstAt ks_superObj ksEnv mg_none_of)

/-! ### an own error over ValueError whose __init__ says super().__init__('..') ahead -/
abbrev bmVE : List Value := [.type "ValueError", .type "Exception", .type "BaseException", .type "object"]
/-- the class at C, the cell of its name, the code object of its __init__ -/
structure SupC (P : Program) (K : PySem.W.Frag) (C cc cda : Addr) : Prop where
  ox : OexC K C
  code : ∃ ccl cdd vs ccs file tf, K.lookup cda = some ⟨ccl, cdd, .fields vs, ccs⟩ ∧ vs[2]? = some (.str file tf) ∧ ((P.main.file : Str) == file) = true
  cell : ∃ cl cld csl, K.lookup cc = some ⟨cl, cld, .cell (some (.ref C)), csl⟩
  sub : PySem.W.mroIn K C (.ref C) = some true
  nsup : PySem.W.nsIn K mainGlobals "super" = some none
  opq : PySem.W.nsIn K cStatics "thirdparty.any" = some none
  sup : PySem.W.ks_superIn K C C "__init__" = some (some (.builtin "ValueError.__init__"))
  subV : PySem.W.subIn K (.ref C) (.type "ValueError") = some true
  ini : PySem.W.excInitIn K C bmVE "ValueError.__new__" = true
  top : (P.main.scope.names.lookup ("super" : Str)).isSome = false

section
variable {prog : Program} {w : World} {A : Around} {E : Value → Shared → Prop} {s : Shared} {h₀ : Heap} {L : Addr} {m mg : Str → Option Value} {K : PySem.W.Frag} {news : List (Addr × Obj)} {x C f cc cda : Addr} {ox : Obj} {odx : Option Obj}
  {body : List Stmt} {q : Str} {scope : Scope} {p0 p1 p2 p3 p4 p5 : Pos} {fd : FuncData} {ar : Arg} {oc : Value} {od : Option Addr} {osl : Array (Option Value)}
theorem sup_node {whole : Sem Value} {Q : Value → Shared → Prop} (T : SupC prog K C cc cda) (F : Fr h₀ L s.heap m) (M : Mod K mg h₀) (N : News h₀ L s.heap news)
    (hf : K.lookup f = some ⟨oc, od, .func fd, osl⟩) (hp : (fd.params.posonlyargs ++ fd.params.args).head? = some ar) (hv : m ar.arg = some (.ref x)) (I : InstAt s.heap x ox C odx)
    (hks : scope.names.lookup ("super" : Str) = some .globalImplicit) (hkc : scope.names.lookup ("__class__" : Str) = some .free) (hka : scope.names.lookup ar.arg = some .local) (hk : scope.kind = .function)
    (h : ∀ so h', Fr h₀ L h' m → News h₀ L h' ((so, ks_superObj C x C) :: news) → (∀ p ∈ news, p.1 < so) → Q (.ref so) { s with heap := h' }) :
    _root_.PySem.wpAt (model prog w) A (.func body (ksEnv q scope L f (.ref cda) cc)) (attributeBase (.Call (.Name "super" p0) [] [] p1) "__init__" (ksEnv q scope L f (.ref cda) cc) whole) Q E s := by
  have KH : K.In s.heap := M.kin.keeps F.keep
  obtain ⟨ccl, cdd, vs, ccs, file, tf, hcode, hvs, hfile⟩ := T.code
  obtain ⟨cl, cld, csl, hcell⟩ := T.cell
  obtain ⟨nm, qn, N', bs, bm, sn, sub, ab, col, dd, k0, k1, k2, k3, k5, hC, _⟩ := T.ox.cls
  obtain ⟨mb, hb, hbt⟩ := M.blt
  obtain ⟨hh, g, d, t, os⟩ := s
  have oC := KH _ _ hC
  refine ks_wpAt_super_base (env := ksEnv q scope L f (.ref cda) cc) hks hkc (by decide) rfl (KH _ _ hf) rfl hp rfl (KH _ _ hcode) rfl hvs hfile T.top ?_
  refine PySem.W.ks_loadName_global hk hks ?_
  refine Calls.loadGlobal_builtin (env := ksEnv q scope L f (.ref cda) cc) (M.glob.keeps F.keep) (mg_none_of M.kin M.glob T.nsup) (hb.keeps F.keep) ((hbt _ (by decide +kernel)).trans PyProof.Rows.Boot.«super») ⟨rfl, ?_⟩
  refine wpAny_loadName_free hk hkc rfl ⟨_, KH _ _ hcell, rfl⟩ ?_
  refine wpAny_loadName_local hk hka F.ns hv ?_
  refine ks_wpAny_isType_cls oC rfl ⟨rfl, ?_⟩
  have nc : ∀ c, ox.data ≠ .cls c := fun c e => by
    have z := I.no
    unfold PySem.W.notCls at z
    rw [e] at z
    exact Bool.noConfusion z
  refine ks_wpAny_call_super oC rfl I.at_ I.cls nc (PySem.W.looks_mroIn KH T.sub) fun h' e k => ?_
  obtain ⟨F', N', l'⟩ := PySem.W.ks_newsPush (s := ⟨hh, g, d, t, os⟩) F N rfl e k
  exact h _ _ F' N' l'
/-- how that call reads in its frame -/
def SupEv (q : Str) (scope : Scope) (f cc cda : Addr) (txt : Str) (j : Nat) (p0 p1 p2 p3 p4 : Pos) : Prop := ∀ L, ∃ pl : Sem Bool, eval (.Call (.Attribute (.Call (.Name "super" p0) [] [] p1) "__init__" p2) [.Constant (.str txt) j p3] [] p4) (ksEnv q scope L f (.ref cda) cc) = (do
  let ov ← attributeBase (.Call (.Name "super" p0) [] [] p1) "__init__" (ksEnv q scope L f (.ref cda) cc) (eval (.Call (.Name "super" p0) [] [] p1) (ksEnv q scope L f (.ref cda) cc))
  standAt p2.atName
  let (f', first) ← holding [ov] (getMethod ov "__init__" pl)
  callWith p4 f' first (backTo p4 (starEach [.Constant (.str txt) j p3] (ksEnv q scope L f (.ref cda) cc))) [])
/-- the statement super().__init__('..') -/
theorem sup_first {txt : Str} {j : Nat} {t0 : Addr} {Q : Flow → Shared → Prop} (T : SupC prog K C cc cda) (F : Fr h₀ L s.heap m) (M : Mod K mg h₀) (hx : s.heap.get? x = some (PySem.W.excObj C t0 none .none)) (xL : x ≠ L) (x0 : h₀.get? x = none)
    (hf : K.lookup f = some ⟨oc, od, .func fd, osl⟩) (hp : (fd.params.posonlyargs ++ fd.params.args).head? = some ar) (hv : m ar.arg = some (.ref x))
    (hks : scope.names.lookup ("super" : Str) = some .globalImplicit) (hkc : scope.names.lookup ("__class__" : Str) = some .free) (hka : scope.names.lookup ar.arg = some .local) (hk : scope.kind = .function)
    (hev : SupEv q scope f cc cda txt j p0 p1 p2 p3 p4) (h : ∀ h' tk t1, Fr h₀ L h' m → h'.get? x = some (PySem.W.excObj C t1 none .none) → Q .next { s with heap := h', toks := tk }) :
    _root_.PySem.wpAt (model prog w) A (.func body (ksEnv q scope L f (.ref cda) cc)) (exec (.Expr (.Call (.Attribute (.Call (.Name "super" p0) [] [] p1) "__init__" p2) [.Constant (.str txt) j p3] [] p4) p5) (ksEnv q scope L f (.ref cda) cc)) Q E s := by
  have N : News h₀ L s.heap [(x, PySem.W.excObj C t0 none .none)] := fun p hp => by
    rcases List.mem_singleton.mp hp with rfl
    exact ⟨hx, xL, x0⟩
  obtain ⟨pl, hcl⟩ := hev L
  refine ks_wpAt_Expr_any (ks_wpAt_MethodCall (pl := pl) ?_ hcl) (hi := by show (scope.kind == .module && _) = false; rw [hk]; rfl)
  refine sup_node (ox := PySem.W.excObj C t0 none .none) (odx := none) T F M N hf hp hv ⟨hx, rfl, rfl, trivial⟩ hks hkc hka hk fun so h1 F1 N1 l1 => ?_
  refine PySem.W.kxs_method PySem.W.kxs_ValueError F1 M.kin N1 (List.mem_cons_self ..) (ox := PySem.W.excObj C t0 none .none) (odx := none) ⟨(N1 _ (.tail _ (.head _))).1, rfl, rfl, trivial⟩ T.opq T.sup T.subV rfl fun u h2 F2 N2 l2 => ?_
  have xs : x ≠ so := Nat.ne_of_lt (l1 (x, PySem.W.excObj C t0 none .none) (.head _))
  have xu : x ≠ u := Nat.ne_of_lt (l2 (x, PySem.W.excObj C t0 none .none) (.tail _ (.head _)))
  refine PySem.W.kxs_callWith1 N2 (.head _) ?_
  refine Calls.spliced_cons (Calls.Constant_str (k := j) (pos := p3) (Calls.spliced_nil ⟨PySem.W.kxs_at N2 (.head _), ?_⟩))
  refine PySem.W.kxs_call F2 M.kin N2 PySem.F.excBase_ValueError T.ini (.head _) (PySem.W.UpdF.tail (Ne.symm xu) (PySem.W.UpdF.tail (Ne.symm xs) (PySem.W.UpdF.head fun p hp => nomatch hp))) (by show 1 ≤ sizeLine; rw [sizeLine_eq]; omega) fun t' h3 F3 N3 l3 => ?_
  exact h h3 _ t' F3 (N3 _ (.tail _ (.tail _ (.tail _ (.head _))))).1
end

/-- no error leaves -/
abbrev CXN : CXT := fun _ _ _ _ _ _ => False
/-- THE RULE: such an __init__ by what stands behind super().__init__('..') -/
theorem sup_fn {CX : CXT} {P : Program} {w : World} {K : PySem.W.Frag} {mg : Str → Option Value} {base : Heap} {k : Nat} {fI C cc cda : Addr} {name qual : Str} {params : Arguments} {body rest : List Stmt} {scope : Scope} {doc pm ct oc : Value}
    {od : Option Addr} {osl : Array (Option Value)} {N ps : List Str} {sp : Sp} {txt : Str} {j : Nat} {p0 p1 p2 p3 p4 p5 : Pos} {ar : Arg} (T : SupC P K C cc cda)
    (lk : K.lookup fI = some ⟨oc, od, .func (PySem.W.fnX name qual params body scope [("__class__", cc)] .none .none doc pm none (.ref cda) ct), osl⟩) (hcd : PySem.W.codeIn K (.ref cda) qual = true) (S : NScope N ps ["__class__"] scope)
    (hbd : body = .Expr (.Call (.Attribute (.Call (.Name "super" p0) [] [] p1) "__init__" p2) [.Constant (.str txt) j p3] [] p4) p5 :: rest)
    (hp : (params.posonlyargs ++ params.args).head? = some ar) (ha : ps[0]? = some ar.arg) (hks : scope.names.lookup ("super" : Str) = some .globalImplicit) (hev : SupEv qual scope fI cc cda txt j p0 p1 p2 p3 p4)
    (len : ∀ vs H Q E, sp vs H Q E → vs.length = ps.length)
    (self : ∀ vs H Q E, sp vs H Q E → ∃ a, vs[0]? = some (.ref a) ∧ H a = some (exo a C none))
    (hbody : ∀ (A : Around) (outer : List Env) (s : Shared) (H : Hp) (vs : List V) (Q : VK) (E : XK), sp vs H Q E →
      ∃ t, PSs (ncx CXN P w K mg base N ⟨name, qual, params, body, scope, [("__class__", cc)], cda⟩ fI A outer s H E) rest t ∧ t { nx := fun _ H' => Q .non H', rt := Q } (startF N vs [some (.ref C)]) H) :
    FnOk P w K mg base CX (k + 1) fI (PySem.W.fnX name qual params body scope [("__class__", cc)] .none .none doc pm none (.ref cda) ct) ps sp := by
  refine ⟨len, fun A outer s H args us vs Q E hr e0 hb r hsp => ?_⟩
  have hl := len _ _ _ _ hsp
  obtain ⟨a, hv0, hHa⟩ := self _ _ _ _ hsp
  obtain ⟨u0, hu0, ru0⟩ := r.get hv0
  obtain rfl : u0 = Value.ref a := ru0
  have bk : ∀ b o, base.get? b = some o → s.heap.get? b = some o := fun b o e => (e0.bs b o e).1
  have KX : K.In s.heap := e0.mod.kin.keeps bk
  have lim : s.heap.NoLimit := e0.mod.nolimit.keeps bk
  obtain ⟨t1, hoa⟩ := exo_at e0.hok hHa
  obtain ⟨cl, cld, csl, hcell⟩ := T.cell
  have C0 : CellsAt [("__class__", cc)] ["__class__"] [some (.ref C)] s.heap H := {
    len := rfl
    all := fun y c e => by
      have z : y = "__class__" ∧ c = cc := by
        by_cases hy : y = ("__class__" : Str)
        · subst hy
          simp [List.lookup] at e
          exact ⟨rfl, e.symm⟩
        · have e2 : (y == ("__class__" : Str)) = false := by simpa using hy
          simp [List.lookup, e2] at e
      obtain ⟨_, rfl⟩ := z
      refine ⟨?_, _, _, KX _ _ hcell, rfl⟩
      exact (e0.bs _ _ (e0.mod.kin _ _ hcell)).2
    inj := fun x y c e1 e2 => by
      have one : ∀ {y : Str}, List.lookup y [(("__class__" : Str), cc)] = some c → y = "__class__" := fun {y} e => by
        by_cases hy : y = ("__class__" : Str)
        · exact hy
        · have e2 : (y == ("__class__" : Str)) = false := by simpa using hy
          simp [List.lookup, e2] at e
      rw [one e1, one e2]
    has := fun i y e => by
      cases i with
      | succ i => simp at e
      | zero =>
        simp at e
        subst e
        refine ⟨cc, by simp [List.lookup], fun v hv => ?_⟩
        simp at hv
        subst hv
        exact ⟨.ref C, rfl, _, KX _ _ hcell, rfl⟩ }
  refine codeAny_call_function hr.depth (KX _ _ lk) rfl S.co S.gen rfl (PySem.W.codeRec_of KX hcd) (hb _ _ _ _ ?_)
  refine wpAny_newFunctionEnv S.nocell (fun ⟨n, _⟩ hy => S.par n (List.of_mem_zip hy).1) (fun h₁ hns hsb => ⟨lim.fresh _ hsb, ?_⟩) S.kind
  have kp : ∀ b o, s.heap.get? b = some o → h₁.get? b = some o := fun b o e => hsb.extBut b o (Nat.ne_of_lt (Heap.lt_size e)) (Heap.get?_push_of_some _ e)
  obtain ⟨t, ht, hq⟩ := hbody A outer s H vs Q E hsp
  have I1 : Inv (ncx CXN P w K mg base N ⟨name, qual, params, body, scope, [("__class__", cc)], cda⟩ fI A outer s H E) [] (startF N vs [some (.ref C)]) H { s with heap := h₁, toks := s.toks + (ps.zip us).length } := inv_startN S hr.hd e0 hl r C0 hns kp
  have aL : a ≠ s.heap.objs.size := Nat.ne_of_lt (Heap.lt_size hoa)
  have hid : ∀ b o, (PySem.W.hideAll s.heap [a]).get? b = some o → s.heap.get? b = some o := fun b o e => PySem.W.of_hideAll _ e
  have G0 : ∀ b o, base.get? b = some o → (PySem.W.hideAll s.heap [a]).get? b = some o := fun b o e => PySem.W.hideAll_get _ (bk b o e) fun z => by
    have z' := List.mem_singleton.mp z
    subst z'
    rw [(e0.bs _ _ e).2] at hHa
    cases hHa
  have M0 : Mod K mg (PySem.W.hideAll s.heap [a]) := ⟨e0.mod.kin.keeps G0, e0.mod.glob.keeps G0, by
    obtain ⟨mb, hb, hbt⟩ := e0.mod.blt
    exact ⟨mb, hb.keeps G0, hbt⟩, e0.mod.nolimit.keeps G0⟩
  have ndP : ps.Nodup := by
    have q := S.nd.sublist (List.take_sublist (ps.length + [("__class__" : Str)].length) N)
    rw [S.pre] at q
    exact (List.nodup_append.mp q).1
  have F1 : Fr (PySem.W.hideAll s.heap [a]) s.heap.objs.size h₁ (fun y => (ps.zip us).reverse.lookup y) := ⟨hns, fun b o e => kp _ _ (hid _ _ e), Nat.le_of_eq (PySem.W.hideAll_size _ _)⟩
  show codeAny _ _ (.func body (envF ⟨name, qual, params, body, scope, [("__class__", cc)], cda⟩ fI s.heap.objs.size)) _ _
  refine ks_codeAny_funcAt ?_
  show _root_.PySem.wpAt _ _ (.func body (ksEnv qual scope s.heap.objs.size fI (.ref cda) cc)) (execs body (ksEnv qual scope s.heap.objs.size fI (.ref cda) cc)) _ _ _
  have hbx : execs body (ksEnv qual scope s.heap.objs.size fI (.ref cda) cc) = execs (.Expr (.Call (.Attribute (.Call (.Name "super" p0) [] [] p1) "__init__" p2) [.Constant (.str txt) j p3] [] p4) p5 :: rest) (ksEnv qual scope s.heap.objs.size fI (.ref cda) cc) := by rw [hbd]
  rw [hbx]
  refine ks_wpAt_execs_cons ?_
  refine sup_first (x := a) T F1 M0 (kp _ _ hoa) aL (PySem.W.hideAll_none _ (List.mem_singleton.mpr rfl)) lk hp (zip_look ndP ha hu0) hks (S.frk _ (List.mem_singleton.mpr rfl)) (S.par _ (List.mem_of_getElem? ha)) S.kind hev fun h3 tk t3 F3 hx3 => ?_
  have k3 : ∀ b o, b ≠ a → s.heap.get? b = some o → h3.get? b = some o := fun b o hb e => F3.keep _ _ (PySem.W.hideAll_get _ e fun z => hb (List.mem_singleton.mp z))
  have old : ∀ b o, b ≠ s.heap.objs.size → h₁.get? b = some o → s.heap.get? b = some o := fun b o hb e => by
    exact (Heap.get?_push_ne _ _ _ hb).symm.trans ((hsb.2 b hb).symm.trans e)
  have na : ∀ {b : Addr}, H b = none → b ≠ a := fun {b} n z => by
    rw [z, hHa] at n
    cases n
  have eu : upd H a (exo a C none) = H := by
    funext b
    by_cases hb : b = a
    · rw [hb, upd_same, hHa]
    · rw [upd_ne hb]
  have hok3 : HOk P w H h3 := by
    have z := e0.hok.write (x := a) (e := a) (o' := exo a C none) (h' := h3) (by rw [hHa]; exact True.intro) (.inl rfl) k3 ⟨_, hx3⟩ (exo_ok hx3)
    rw [eu] at z
    exact z
  have I3 : Inv (ncx CXN P w K mg base N ⟨name, qual, params, body, scope, [("__class__", cc)], cda⟩ fI A outer s H E) [] (startF N vs [some (.ref C)]) H { s with heap := h3, toks := tk } := by
    refine Inv.step (s := { s with heap := h₁, toks := s.toks + (ps.zip us).length }) (h' := h3) I1 (g' := s.gens) (d' := s.drawn) (t' := tk) (ch := []) (fun _ z => nomatch z) (fun b o hL _ _ e n => k3 b o (na n) (old b o hL e)) (fun b o hL _ _ e n => ⟨o.slots, k3 b o (na n) (old b o hL e)⟩) (fun _ _ _ _ n => n) (fun b o _ e => ?_)
      (fun _ _ z => z) (fun _ _ _ z => z) (fun b ps z => ⟨#[], by rw [z]; simp⟩) (fun m hm => ?_) hok3 e0.bare
    · by_cases hL : b = s.heap.objs.size
      · obtain ⟨o', _, _, q, _⟩ := F3.ns
        exact ⟨o', by rw [hL]; exact q⟩
      · by_cases hb : b = a
        · exact ⟨_, by rw [hb]; exact hx3⟩
        · exact ⟨o, k3 b o hb (old b o hL e)⟩
    · have q : m = fun y => (ps.zip us).reverse.lookup y := funext fun y => Heap.Ns.agree (show h₁.Ns s.heap.objs.size m from hm) hns y
      rw [q]
      exact F3.ns
  refine wpAt_of_wpAny ?_
  refine wpAny_mono (ht.run [] _ (startF N vs [some (.ref C)]) H _ I3 hq) (fun fl s' hs => ?_) fun e s' hs => ?_
  · have fin : ∀ {σ' : L2.St} {H' : Hp} {v : V} {u : Value}, Inv (ncx CXN P w K mg base N ⟨name, qual, params, body, scope, [("__class__", cc)], cda⟩ fI A outer s H E) [] σ' H' s' → L2.RelV v u → Q v H' → CE outer P w H s Q u s' :=
      fun {σ' H' v u} J rv q => ⟨v, H', J.os, J.bare, J.base, J.hok, rv, q⟩
    cases fl with
    | ret u =>
      obtain ⟨v, σ', H', J, rv, q⟩ := hs
      exact fin J rv q
    | next =>
      obtain ⟨σ', H', J, q⟩ := hs
      exact fin (v := V.non) (u := Value.none) J rfl q
    | brk =>
      obtain ⟨_, _, _, q⟩ := hs
      exact False.elim q
    | cont =>
      obtain ⟨_, _, _, q⟩ := hs
      exact False.elim q
  · exact wpAny_mono hs (fun _ _ z => z.elim) fun _ _ z => z.elim
end Ls
namespace Ls
open PySem PySem.Spec PyProof.Rows L2 NdefX
open PySem.W (ksEnv)

/-! ### the texts of such __init__ -/
/-- self.f = f -/
def StoreSt (f : Str) (st : Stmt) : Prop := (∃ p p' p'' pos, st = .Assign [.Attribute (.Name "self" p) f p'] (.Name f p'') pos) ∧ (f == ("__debug__" : Str)) = false ∧ (f == ("__classdict__" : Str)) = false
def Stores : List Str → List Stmt → Prop
  | [], [] => True
  | f :: fs, st :: r => StoreSt f st ∧ Stores fs r
  | _, _ => False
/-- what is asked of the text st of an own error's __init__ with the fields fs -/
structure ErrTx (st : Stmt) (qual : Str) (fs : List Str) : Prop where
  nsc : NScope (("self" : Str) :: (fs ++ [("__class__" : Str)])) (("self" : Str) :: fs) [("__class__" : Str)] (defScope st)
  hsup : (defScope st).names.lookup ("super" : Str) = some .globalImplicit
  par : ∃ ar, ((defArgs st).posonlyargs ++ (defArgs st).args).head? = some ar ∧ ar.arg = "self"
  body : ∃ (txt : Str) (j : Nat) (p0 p1 p2 p3 p4 p5 : Pos) (rest : List Stmt), defBody st = .Expr (.Call (.Attribute (.Call (.Name "super" p0) [] [] p1) "__init__" p2) [.Constant (.str txt) j p3] [] p4) p5 :: rest ∧ Stores fs rest ∧
    ∀ f cc cda, SupEv qual (defScope st) f cc cda txt j p0 p1 p2 p3 p4
  bind : ∀ (cc cda : Addr) (doc pm ct : Value) (us : List Value), us.length = (("self" : Str) :: fs).length → bindArgs (PySem.W.fnX "__init__" qual (defArgs st) (defBody st) (defScope st) [("__class__", cc)] .none .none doc pm none (.ref cda) ct) ⟨us, []⟩ = pure ((("self" : Str) :: fs).zip us)

/-! ### what they promise -/
/-- an exception of C at a, its dict (fields fs) at d -/
def exoD (H : Hp) (a C d : Addr) (fs : List (Str × V)) : Hp := upd (upd H d (exd d fs)) a (exo a C (some d))
def spI0 (C : Addr) : Sp := fun vs H Q _ => ∃ a, vs = [.ref a] ∧ H a = some (exo a C none) ∧ Q .non H
def spI1 (C : Addr) (f : Str) : Sp := fun vs H Q _ => ∃ a v, vs = [.ref a, v] ∧ H a = some (exo a C none) ∧ ∀ d, H d = none → d ≠ a → Q .non (exoD H a C d [(f, v)])
def spI2 (C : Addr) (f g : Str) : Sp := fun vs H Q _ => ∃ a v w, vs = [.ref a, v, w] ∧ H a = some (exo a C none) ∧ ∀ d, H d = none → d ≠ a → Q .non (exoD H a C d [(g, w), (f, v)])

section
variable {CX : CXT} {P : Program} {w : World} {K : PySem.W.Frag} {mg : Str → Option Value} {base : Heap} {fI C cc cda : Addr} {st : Stmt} {qual f g : Str} {doc pm ct oc : Value} {od : Option Addr} {osl : Array (Option Value)}
theorem err_fn0 (T : SupC P K C cc cda) (Tx : ErrTx st qual [])
    (lk : K.lookup fI = some ⟨oc, od, .func (PySem.W.fnX "__init__" qual (defArgs st) (defBody st) (defScope st) [("__class__", cc)] .none .none doc pm none (.ref cda) ct), osl⟩) (hcd : PySem.W.codeIn K (.ref cda) qual = true) :
    FnOk P w K mg base CX 1 fI (PySem.W.fnX "__init__" qual (defArgs st) (defBody st) (defScope st) [("__class__", cc)] .none .none doc pm none (.ref cda) ct) ["self"] (spI0 C) := by
  obtain ⟨txt, j, p0, p1, p2, p3, p4, p5, rest, hb, hst, hev⟩ := Tx.body
  obtain ⟨ar, hp, ha⟩ := Tx.par
  refine sup_fn (N := ["self", "__class__"]) T lk hcd Tx.nsc hb hp (by rw [ha]; rfl) Tx.hsup (hev _ _ _) (fun vs H Q E ⟨a, e, _⟩ => by rw [e]; rfl) (fun vs H Q E ⟨a, e, h, _⟩ => ⟨a, by rw [e]; rfl, h⟩) fun A outer s H vs Q E ⟨a, e, h, q⟩ => ?_
  cases rest with
  | nil => exact ⟨_, pss_nil, q⟩
  | cons x r => exact hst.elim
theorem err_fn1 (T : SupC P K C cc cda) (Tx : ErrTx st qual [f]) (hno : PySem.W.findIn K (.ref C) f = some none)
    (lk : K.lookup fI = some ⟨oc, od, .func (PySem.W.fnX "__init__" qual (defArgs st) (defBody st) (defScope st) [("__class__", cc)] .none .none doc pm none (.ref cda) ct), osl⟩) (hcd : PySem.W.codeIn K (.ref cda) qual = true) :
    FnOk P w K mg base CX 1 fI (PySem.W.fnX "__init__" qual (defArgs st) (defBody st) (defScope st) [("__class__", cc)] .none .none doc pm none (.ref cda) ct) ["self", f] (spI1 C f) := by
  obtain ⟨txt, j, p0, p1, p2, p3, p4, p5, rest, hb, hst, hev⟩ := Tx.body
  obtain ⟨ar, hp, ha⟩ := Tx.par
  refine sup_fn (N := ["self", f, "__class__"]) T lk hcd Tx.nsc hb hp (by rw [ha]; rfl) Tx.hsup (hev _ _ _) (fun vs H Q E ⟨a, v, e, _⟩ => by rw [e]; rfl) (fun vs H Q E ⟨a, v, e, h, _⟩ => ⟨a, by rw [e]; rfl, h⟩) fun A outer s H vs Q E ⟨a, v, e, h, q⟩ => ?_
  subst e
  match rest, hst with
  | [x], hst =>
    obtain ⟨⟨⟨q1, q2, q3, q4, rfl⟩, d1, d2⟩, _⟩ := hst
    refine ⟨_, pss_one (ps_ost (pe_var (i := 0) rfl (.inl (Tx.nsc.par _ (List.mem_cons_self ..)))) (pe_var (i := 1) rfl (.inl (Tx.nsc.par _ (.tail _ (.head _)))) d1 d2)), ?_⟩
    exact ⟨v, rfl, .ref a, rfl, a, C, rfl, T.ox, hno, .inl ⟨h, fun dx n ne => q dx n ne⟩⟩
  | [], hst => exact hst.elim
  | _ :: _ :: _, hst => exact hst.2.elim
theorem err_fn2 (T : SupC P K C cc cda) (Tx : ErrTx st qual [f, g]) (hno : PySem.W.findIn K (.ref C) f = some none) (hno2 : PySem.W.findIn K (.ref C) g = some none)
    (lk : K.lookup fI = some ⟨oc, od, .func (PySem.W.fnX "__init__" qual (defArgs st) (defBody st) (defScope st) [("__class__", cc)] .none .none doc pm none (.ref cda) ct), osl⟩) (hcd : PySem.W.codeIn K (.ref cda) qual = true) :
    FnOk P w K mg base CX 1 fI (PySem.W.fnX "__init__" qual (defArgs st) (defBody st) (defScope st) [("__class__", cc)] .none .none doc pm none (.ref cda) ct) ["self", f, g] (spI2 C f g) := by
  obtain ⟨txt, j, p0, p1, p2, p3, p4, p5, rest, hb, hst, hev⟩ := Tx.body
  obtain ⟨ar, hp, ha⟩ := Tx.par
  refine sup_fn (N := ["self", f, g, "__class__"]) T lk hcd Tx.nsc hb hp (by rw [ha]; rfl) Tx.hsup (hev _ _ _) (fun vs H Q E ⟨a, v, u, e, _⟩ => by rw [e]; rfl) (fun vs H Q E ⟨a, v, u, e, h, _⟩ => ⟨a, by rw [e]; rfl, h⟩) fun A outer s H vs Q E ⟨a, v, u, e, h, q⟩ => ?_
  subst e
  match rest, hst with
  | [x, y], hst =>
    obtain ⟨⟨⟨q1, q2, q3, q4, rfl⟩, d1, d2⟩, ⟨⟨q5, q6, q7, q8, rfl⟩, d3, d4⟩, _⟩ := hst
    refine ⟨_, pss_cons (ps_ost (pe_var (i := 0) rfl (.inl (Tx.nsc.par _ (List.mem_cons_self ..)))) (pe_var (i := 1) rfl (.inl (Tx.nsc.par _ (.tail _ (.head _)))) d1 d2))
      (pss_one (ps_ost (pe_var (i := 0) rfl (.inl (Tx.nsc.par _ (List.mem_cons_self ..)))) (pe_var (i := 2) rfl (.inl (Tx.nsc.par _ (.tail _ (.tail _ (.head _))))) d3 d4))), ?_⟩
    refine ⟨v, rfl, .ref a, rfl, a, C, rfl, T.ox, hno, .inl ⟨h, fun dx n ne => ?_⟩⟩
    refine ⟨u, rfl, .ref a, rfl, a, C, rfl, T.ox, hno2, .inr ⟨dx, [(f, v)], upd_same, (upd_ne ne).trans upd_same, Nat.le_of_ble_eq_true rfl, ?_⟩⟩
    have e : upd (upd (upd H dx (exd dx [(f, v)])) a (exo a C (some dx))) dx (exd dx [(g, u), (f, v)]) = exoD H a C dx [(g, u), (f, v)] := by
      funext b
      unfold exoD
      by_cases hb : b = dx
      · subst hb
        rw [upd_same, upd_ne ne, upd_same]
      · rw [upd_ne hb]
        by_cases h2 : b = a
        · subst h2
          rw [upd_same, upd_same]
        · rw [upd_ne h2, upd_ne h2, upd_ne hb, upd_ne hb]
    show Q _ (upd (upd (upd H dx (exd dx [(f, v)])) a (exo a C (some dx))) dx (exd dx [(g, u), (f, v)]))
    rw [e]
    exact q dx n ne
  | [], hst => exact hst.elim
  | [_], hst => exact hst.2.elim
  | _ :: _ :: _ :: _, hst => exact hst.2.2.elim
end
end Ls
namespace Ls
open PySem PySem.Spec PyProof.Rows L2 NdefX

/-! ### a class of own errors -/
/-- x names the class at C, its fields fs, sp what its __init__ promises -/
structure OwnX (P : Program) (w : World) (K : PySem.W.Frag) (mg : Str → Option Value) (base : Heap) (x : Str) (fs : List Str) (sp : Sp) (C : Addr) : Prop where
  ox : OexC K C
  xf : XfC K C
  gl : mg x = some (.ref C)
  nof : ∀ f ∈ fs, PySem.W.findIn K (.ref C) f = some none
  ini : ∃ (fI : Addr) (fd : FuncData), PySem.W.findIn K (.ref C) "__init__" = some (some (.ref fI)) ∧ PySem.W.typeIn K (.ref fI) = some (.type "function") ∧ FnOk P w K mg base CX0 1 fI fd (("self" : Str) :: fs) sp ∧ Binds K fd (("self" : Str) :: fs) []

/-- a reading of arguments that may be weakened -/
def upA (ta : TA) : TA := fun σ H Q => ∃ Q' : List V → Hp → Prop, ta σ H Q' ∧ ∀ vs H', Q' vs H' → Q vs H'
section
variable {X : Cx} {x f g : Str} {C : Addr} {fs : List Str} {sp : Sp} {e : Expr} {es : List Expr} {ta : TA} {p pos : Pos}
theorem pa_up (h : PA X es ta) : PA X es (upA ta) := ⟨fun pos pins s σ H Q I ⟨Q', h', k⟩ => thn (h.run pos pins s σ H Q' I h') fun us s1 ⟨vs, H1, I1, r, q⟩ => ⟨vs, H1, I1, r, k _ _ q⟩⟩
theorem pmk_imp {t t' : L2.St → Hp → XK → Prop} (h : PMk X e t) (i : ∀ σ H Q, t' σ H Q → t σ H Q) : PMk X e t' := fun pins s σ H Q I q => h pins s σ H Q I (i _ _ _ q)
theorem pass0E {E : XK} : Passes CX0 X E := fun _ _ _ _ _ _ _ h => h.elim
theorem exoD_end {H : Hp} {a d : Addr} {l : List (Str × V)} (ha : H a = none) : upd (del (exoD (upd H a (exo a C none)) a C d l) a) d (.xd l) = upd H d (.xd l) := by
  funext b
  by_cases hb : b = d
  · rw [hb, upd_same, upd_same]
  · rw [upd_ne hb, upd_ne hb]
    by_cases h2 : b = a
    · rw [h2, del_same, ha]
    · unfold exoD
      rw [del_ne h2, upd_ne h2, upd_ne hb, upd_ne h2]
def tErr1 (C : Addr) (f : Str) (ta : TA) : L2.St → Hp → XK → Prop := fun σ H Q => ta σ H fun vs H1 => ∃ v, vs = [v] ∧ ∀ d, H1 d = none → Q (.ref C) (some d) (upd H1 d (.xd [(f, v)]))
def tErr2 (C : Addr) (f g : Str) (ta : TA) : L2.St → Hp → XK → Prop := fun σ H Q => ta σ H fun vs H1 => ∃ v w, vs = [v, w] ∧ ∀ d, H1 d = none → Q (.ref C) (some d) (upd H1 d (.xd [(g, w), (f, v)]))
def tErr0 (C : Addr) : L2.St → Hp → XK → Prop := fun _ H Q => Q (.ref C) none H
theorem xd_of {H : Hp} {a d : Addr} {l : List (Str × V)} : exoD H a C d l a = some (exo a C (some d)) := upd_same
/-- x(e) -/
theorem pmk_err1 (O : OwnX X.prog X.w X.K X.mg X.base x [f] (spI1 C f) C) (hr : Room 2 X.A) (ha : PA X [e] ta) (hg : Gl X x := by rfl) (hdb : (x == ("__debug__" : Str)) = false := by decide)
    (he : starEach [e] X.env = (false, eval e X.env) :: starEach [] X.env := by rfl) : PMk X (.Call (.Name x p) [e] [] pos) (tErr1 C f ta) := by
  obtain ⟨fI, fd, iC, tI, F1, hb⟩ := O.ini
  refine pmk_imp (pmk_oex O.ox iC tI F1 hr hb .nil pass0E hg O.gl (pa_up ha) hdb he rfl) fun σ H Q q => ?_
  refine ⟨_, q, fun vs H1 ⟨v, ev, k⟩ => ?_⟩
  subst ev
  refine ⟨Nat.le_of_ble_eq_true rfl, fun a ha => ⟨a, v, rfl, upd_same, fun d hd hda => ⟨rfl, d, [(f, v)], xd_of, ?_, ?_, ?_⟩⟩⟩
  · unfold exoD
    rw [upd_ne hda, upd_same]
  · rw [upd_ne hda] at hd
    exact hd
  · rw [exoD_end ha]
    rw [upd_ne hda] at hd
    exact k d hd
/-- x(e, e2) -/
theorem pmk_err2 {e2 : Expr} (O : OwnX X.prog X.w X.K X.mg X.base x [f, g] (spI2 C f g) C) (hr : Room 2 X.A) (ha : PA X [e, e2] ta) (hg : Gl X x := by rfl) (hdb : (x == ("__debug__" : Str)) = false := by decide)
    (he : starEach [e, e2] X.env = (false, eval e X.env) :: starEach [e2] X.env := by rfl) (hpl : (backTo pos (starEach [e2] X.env)).any (·.1) = false := by rfl) : PMk X (.Call (.Name x p) [e, e2] [] pos) (tErr2 C f g ta) := by
  obtain ⟨fI, fd, iC, tI, F1, hb⟩ := O.ini
  refine pmk_imp (pmk_oex O.ox iC tI F1 hr hb .nil pass0E hg O.gl (pa_up ha) hdb he hpl) fun σ H Q q => ?_
  refine ⟨_, q, fun vs H1 ⟨v, w, ev, k⟩ => ?_⟩
  subst ev
  refine ⟨Nat.le_of_ble_eq_true rfl, fun a ha => ⟨a, v, w, rfl, upd_same, fun d hd hda => ⟨rfl, d, [(g, w), (f, v)], xd_of, ?_, ?_, ?_⟩⟩⟩
  · unfold exoD
    rw [upd_ne hda, upd_same]
  · rw [upd_ne hda] at hd
    exact hd
  · rw [exoD_end ha]
    rw [upd_ne hda] at hd
    exact k d hd
/-- the end of x(): the exception, which has no dict, is let go -/
theorem mk_endN {pins : List (Addr × Obj)} {σ : L2.St} {H1 : Hp} {Q : XK} {hp hp2 h2 : Heap} {g1 g2 : Array GenState} {d1 d2 : Drawn} {t1 t2 : Nat} {os1 os2 : OsState} {a : Addr} (T : Raises X (.ref C)) (I1 : Inv X pins σ H1 ⟨hp, g1, d1, t1, os1⟩)
    (ha : hp.objs.size ≤ a) (k : ∀ b o, hp.get? b = some o → hp2.get? b = some o) (un : Un (frs X.stack) [] (upd H1 a (exo a C none)) (upd H1 a (exo a C none)) hp2 h2) (hok : HOk X.prog X.w (upd H1 a (exo a C none)) h2) (ho : os2 = os1) (hb : AllBare g2)
    (q : Q (.ref C) none H1) : MkP X pins σ Q (.ref a) ⟨h2, g2, d2, t2, os2⟩ := by
  obtain ⟨t0, hoe⟩ := exo_at (e := a) (C := C) (d := none) hok upd_same
  have hn : H1 a = none := I1.hok.fresh ha
  obtain ⟨G, g1', g2'⟩ := restrict h2 fun b => decide (b ≠ a)
  have gk : ∀ b, b ≠ a → G.get? b = h2.get? b := fun b hb => g1' b (decide_eq_true hb)
  have ge : G.get? a = none := g2' a (by simp)
  have nha : ∀ {b : Addr} {o : Obj}, hp.get? b = some o → b ≠ a := fun {b o} z => Nat.ne_of_lt (Nat.lt_of_lt_of_le (Heap.lt_size z) ha)
  have up : ∀ {b : Addr}, b ≠ a → H1 b = none → upd H1 a (exo a C none) b = none := fun {b} hb n => by rw [upd_ne hb]; exact n
  have U : Un (frs X.stack) [] H1 H1 hp G := {
    keep := fun b o z n hf hx => by
      rw [gk b (nha z)]
      exact un.keep b o (k b o z) (up (nha z) n) hf hx
    slot := fun b o z n hf hx => by
      rw [gk b (nha z)]
      exact un.slot b o (k b o z) (up (nha z) n) hf hx
    free := fun b o z n hx => n
    there := fun b o z hx => by
      rw [gk b (nha z)]
      exact un.there b o (k b o z) hx
    tups := fun b xs z => z
    frzs := fun b o v z => z
    tbls := fun b ps z => ⟨#[], by rw [z]; simp⟩ }
  have hok3 : HOk X.prog X.w H1 G := fun b o z => by
    have hba : b ≠ a := fun e => by
      rw [e, hn] at z
      cases z
    have z2 : upd H1 a (exo a C none) b = some o := (upd_ne hba).trans z
    have noa : ∀ {c : Addr}, upd H1 a (exo a C none) c = some (.own b) → c ≠ a := fun {c} hc e => by
      rw [e, upd_same] at hc
      exact exo_own (Option.some.inj hc)
    exact (hok b o z2).stay (fun c v hc y => by
        have hca : c ≠ a := by
          rcases hc with hc | hc
          · rw [hc]
            exact hba
          · exact noa hc
        rw [gk c hca]
        exact y)
      (fun c hc => by rw [upd_ne (noa hc)] at hc; exact hc) (fun c xs hc => by
        have hca : c ≠ a := fun e => by
          rw [e, upd_same] at hc
          exact exo_tup (Option.some.inj hc)
        rw [upd_ne hca] at hc
        exact hc)
  have J : Inv X pins σ H1 ⟨G, g2, d2, t2, os2⟩ := I1.call' (ch := []) ho U hok3 hb (fun b z => absurd z (by simp))
  refine ⟨a, _, _, ⟨G, g2, d2, t2, os2⟩, H1, .ref C, none, rfl, J, fun b o z => ?_, ge, hoe, ⟨rfl, rfl⟩, rfl, rfl, hn, rfl, hb, T, q⟩
  by_cases hba : b = a
  · rw [hba, ge] at z
    cases z
  · exact (gk b hba).symm.trans z
/-- x() -/
theorem pmk_err0 (O : OwnX X.prog X.w X.K X.mg X.base x [] (spI0 C) C) (hr : Room 2 X.A) (hg : Gl X x := by rfl) (hdb : (x == ("__debug__" : Str)) = false := by decide) : PMk X (.Call (.Name x p) [] [] pos) (tErr0 C) := by
  obtain ⟨fI, fd, iC, tI, F1, hb⟩ := O.ini
  intro pins s σ H Q I h
  obtain ⟨nm, q, N, bs, bm, sn, sub, ab, col, dd, k0, k1, k2, k3, k5, hC, hbm⟩ := O.ox.cls
  refine wpAny_Call_Name_kw (ld_glob I hg O.gl ?_ hdb)
  refine PySem.W.callWith_K0 I.kIn O.ox.kC ?_
  show wpAny _ _ (call (.ref C) []) _ _ _
  obtain ⟨hp, g, dr, tk, os⟩ := s
  have hsz : hp.objs.size ≤ hp.objs.size + 1 := Nat.le_succ _
  have hn : H (hp.objs.size + 1) = none := I.hok.fresh hsz
  have kk : ∀ b o, hp.get? b = some o → ((hp.push (PySem.W.kdv_tup [])).push (PySem.HandSPX.excO C hp.objs.size)).get? b = some o := fun b o e => Heap.get?_push_of_some _ (Heap.get?_push_of_some _ e)
  have hget : ((hp.push (PySem.W.kdv_tup [])).push (PySem.HandSPX.excO C hp.objs.size)).get? (hp.objs.size + 1) = some (PySem.HandSPX.excO C hp.objs.size) := by heap_get
  have I2 : Inv X pins σ (upd H (hp.objs.size + 1) (exo (hp.objs.size + 1) C none)) ⟨(hp.push (PySem.W.kdv_tup [])).push (PySem.HandSPX.excO C hp.objs.size), g, dr, tk, os⟩ :=
    I.laid (t' := tk) (a := hp.objs.size + 1) (o := exo (hp.objs.size + 1) C none) (h' := (hp.push (PySem.W.kdv_tup [])).push (PySem.HandSPX.excO C hp.objs.size)) kk hsz (exo_ok hget)
  have r2 : Vals [V.ref (hp.objs.size + 1)] [Value.ref (hp.objs.size + 1)] := .cons rfl .nil
  have hq : spI0 C [V.ref (hp.objs.size + 1)] (upd H (hp.objs.size + 1) (exo (hp.objs.size + 1) C none)) (fun v H2 => v = .non ∧ H2 = upd H (hp.objs.size + 1) (exo (hp.objs.size + 1) C none)) (fun _ _ _ => False) := ⟨_, rfl, upd_same, rfl, rfl⟩
  refine wpAny_call (PySem.HandSPX.call_own F.excBase_ValueError (fun Y => PySem.HandSPX.refsVE_contains Y bm hbm) (I.kIn _ _ hC) (PySem.W.looks_findIn I.kIn iC) (fun self => PySem.W.bind_fn I.kIn self tI) (Nat.zero_le _)
    (codeAny_mono (F1.run _ X.stack _ _ ⟨[Value.ref (hp.objs.size + 1)], []⟩ [Value.ref (hp.objs.size + 1)] _ _ (fun _ _ _ => False) ((hr.mono (by omega : 2 ≤ 2)).make C [] [] |>.mono (Nat.le_refl _)) (I2.env0.make C [] []) (hb _ [Value.ref (hp.objs.size + 1)] I2.kIn rfl) r2 hq) fun r s' hq' => ?_))
  cases r with
  | error er => exact hq'.elim
  | ok fl =>
    cases fl with
    | ret u =>
      obtain ⟨v, H2, os2, bare2, un2, hok2, rv, ev, eH⟩ := hq'
      subst ev
      subst eH
      obtain ⟨h2, g2, d2, t2, os'⟩ := s'
      exact ⟨rv, mk_endN (raises_own O.ox.exC O.ox.tyC) I hsz kk un2 hok2 os2 bare2 h⟩
    | next => exact False.elim hq'
    | brk => exact False.elim hq'
    | cont => exact False.elim hq'
end
end Ls
namespace Ls
open PySem PySem.Spec PyProof.Rows L2 NdefX
open PySem.W (kdv_tup InitBack Looks looks_findIn)
open PySem.HandSPX (excO)
/-! ### an own error is made by keywords -/
section
variable {prog : Program} {w : World} {A : Around} {E : Value → Shared → Prop} {R : Result → Shared → Prop} {hp : Heap} {gs : Array GenState} {dr : Drawn} {tk : Nat} {os : OsState}
variable {nm q : Str} {C N : Addr} {bs bm : List Value} {hd : Bool} {sn : List Str} {sub : List Value} {ab : Bool} {col : Option Bool} {dd : Option Addr} {k0 k1 k2 k3 k5 : Option Value}
/-- the look at the call of __new__ -/
theorem ek_check (hbm : PySem.HandSPX.refsVE bm = true) {us : List Value} {kw : List (Str × Value)} {Q : Unit → Shared → Prop}
    (hC : hp.get? C = some (excClassObj nm q C N bs bm hd sn sub ab col dd k0 k1 k2 k3 k5 "ValueError.__new__")) (hq : Q () ⟨hp, gs, dr, tk, os⟩) :
    wpAny (model prog w) A (checkBuiltinCall "ValueError.__new__" ⟨.ref C :: us, kw⟩) Q E ⟨hp, gs, dr, tk, os⟩ := by
  have B := F.excBase_ValueError
  have inB : (Value.ref C :: bm).contains (.type "ValueError") = true := by
    rw [List.contains_cons, PySem.HandSPX.refsVE_contains _ _ hbm]
    rfl
  have star := B.noStar
  simp only [checkBuiltinCall, B.newKind, B.newSplit, B.newRow]
  repeat (first
    | wp_step
    | with_reducible refine wpAny_loadPart_at hC ?_
    | (with_reducible refine wpAny_isSubtype_exc hC ?_; rw [inB])
    | with_reducible refine wpAny_staticBase_exc hC ?_
    | with_reducible refine wpAny_madeBy_exc hC ?_
    | simp only [bne_self_eq_false, Bool.false_eq_true, if_false])
  exact hq
/-- __new__: the tuple of its arguments, then the exception -/
theorem ek_new (hbm : PySem.HandSPX.refsVE bm = true) {us : List Value} {kw : List (Str × Value)} (hl : us.length ≤ sizeLine)
    (hC : hp.get? C = some (excClassObj nm q C N bs bm hd sn sub ab col dd k0 k1 k2 k3 k5 "ValueError.__new__"))
    (hq : R (.ok (.ret (.ref (hp.objs.size + 1)))) ⟨(hp.push (kdv_tup us)).push (excO C hp.objs.size), gs, dr, tk, os⟩) :
    codeAny (model prog w) A (.builtin "ValueError.__new__" ⟨.ref C :: us, kw⟩) R ⟨hp, gs, dr, tk, os⟩ := by
  have B := F.excBase_ValueError
  have ends := B.ends
  have has : ∀ X : String, (Value.ref C :: bm).contains (.type X) = PySem.HandSPX.veTail.contains (.type X) := fun X => by
    rw [List.contains_cons, PySem.HandSPX.refsVE_contains X _ hbm]
    rfl
  have i1 := has "ValueError"
  have i2 : (Value.ref C :: bm).contains (.type "AttributeError") = false := (has _).trans (by decide +kernel)
  have i3 : (Value.ref C :: bm).contains (.type "NameError") = false := (has _).trans (by decide +kernel)
  rw [show PySem.HandSPX.veTail.contains (.type "ValueError") = true by decide +kernel] at i1
  refine codeAny_builtinAt B.entry ?_
  unfold Builtin.«BaseException.__new__»
  refine _root_.PySem.wpAt_bind ?_
  show _root_.PySem.wpAt _ _ _ (stack >>= _) _ _ _
  refine _root_.PySem.wpAt_bind (_root_.PySem.wpAt_stack fun _ _ => _root_.PySem.wpAt_of_wpAny ?_)
  wp_walk
  refine _root_.PySem.wpAt_of_wpAny ?_
  rw [B.owner]
  repeat (first
    | wp_step
    | with_reducible refine wpAny_madeHere_exc B.canon hC ?_
    | with_reducible refine wpAny_loadPart_at hC ?_
    | (with_reducible refine wpAny_isSubtype_exc hC ?_; first | rw [i1] | rw [i2] | rw [i3]))
  show R _ _
  rw [Heap.size_push]
  exact hq
/-- type.__call__: __new__, then the own __init__ -/
theorem ek_type (hbm : PySem.HandSPX.refsVE bm = true) {us : List Value} {kw : List (Str × Value)} {fI : Addr} {Q : Fin → Shared → Prop} (hl : us.length ≤ sizeLine)
    (hC : hp.get? C = some (excClassObj nm q C N bs bm hd sn sub ab col dd k0 k1 k2 k3 k5 "ValueError.__new__"))
    (hi : Looks (model prog w) hp (typeLookup (.ref C) "__init__") (some (.ref fI))) (hb : ∀ x, Looks (model prog w) hp (bindSpecial (.ref fI) x) (.ref fI, [x]))
    (hq : codeAny (model prog w) A (.call (.ref fI) ⟨.ref (hp.objs.size + 1) :: us, kw⟩)
      (fun r s' => match r with | .ok (.ret v) => v = .none ∧ Q (.done (.ret (.ref (hp.objs.size + 1)))) s' | .ok _ => False | .error e => E e s')
      ⟨(hp.push (kdv_tup us)).push (excO C hp.objs.size), gs, dr, tk, os⟩) :
    wpAny (model prog w) A (Builtin.«type.__call__» ⟨.ref C :: us, kw⟩) Q E ⟨hp, gs, dr, tk, os⟩ := by
  repeat (first | wp_step | with_reducible refine wpAny_madeBy_exc hC ?_ | with_reducible refine wpAny_loadPart_at hC ?_)
  refine codeAny_call_builtin_code (Code.quiet_builtin _ F.excBase_ValueError.quiet) (ek_check hbm hC ?_)
  refine ek_new hbm hl hC ?_
  show wpAny _ _ _ _ _ _
  have kp : ∀ b o, hp.get? b = some o → ((hp.push (kdv_tup us)).push (excO C hp.objs.size)).get? b = some o := fun b o e => Heap.get?_push_of_some _ (Heap.get?_push_of_some _ e)
  have hC2 := kp _ _ hC
  have at2 : ((hp.push (kdv_tup us)).push (excO C hp.objs.size)).get? (hp.objs.size + 1) = some (excO C hp.objs.size) := by heap_get
  have self : (Value.ref C :: bm).contains (.ref C) = true := by simp
  have i2 := hi.keeps kp
  have b2 := (hb (.ref (hp.objs.size + 1))).keeps kp
  unfold isInstance
  repeat (first | wp_step | with_reducible refine wpAny_loadPart_at at2 ?_ | (with_reducible refine wpAny_isSubtype_exc hC2 ?_; rw [self]))
  show wpAny _ _ (typeLookup (.ref C) _) _ _ _
  refine i2.at (wpAny_holding (wpAny_bind (b2.at ?_)))
  refine wpAny_bind (wpAny_call (codeAny_mono hq fun r s' z => ?_))
  cases r with
  | error e => exact z
  | ok fl =>
    cases fl with
    | ret v =>
      obtain ⟨rfl, z⟩ := z
      first
        | exact wpAny_pure (wpAny_pure z)
        | (wp_walk; exact z)
    | next => exact z.elim
    | brk => exact z.elim
    | cont => exact z.elim
/-- THE CALL -/
theorem ek_call (hbm : PySem.HandSPX.refsVE bm = true) {us : List Value} {kw : List (Str × Value)} {fI : Addr} (hl : us.length ≤ sizeLine)
    (hC : hp.get? C = some (excClassObj nm q C N bs bm hd sn sub ab col dd k0 k1 k2 k3 k5 "ValueError.__new__"))
    (hi : Looks (model prog w) hp (typeLookup (.ref C) "__init__") (some (.ref fI))) (hb : ∀ x, Looks (model prog w) hp (bindSpecial (.ref fI) x) (.ref fI, [x]))
    (hq : codeAny (model prog w) (A.under (.builtin "type.__call__" ⟨.ref C :: us, kw⟩)) (.call (.ref fI) ⟨.ref (hp.objs.size + 1) :: us, kw⟩) (InitBack (hp.objs.size + 1) R)
      ⟨(hp.push (kdv_tup us)).push (excO C hp.objs.size), gs, dr, tk, os⟩) :
    codeAny (model prog w) A (.call (.ref C) ⟨us, kw⟩) R ⟨hp, gs, dr, tk, os⟩ := by
  have ty : (⟨hp, gs, dr, tk, os⟩ : Shared).TypeIs (.ref C) "type" := ⟨_, hC, rfl⟩
  have f1 := PySem.tc_lookup
  have f2 := PySem.tc_bind (.ref C)
  refine codeAny_of_tree ?_
  show wpAny _ _ (callAny (.ref C) _) _ _ _
  repeat (any_goals (first | assumption | wp_step | with_reducible refine wpAny_loadPart_at hC ?_))
  refine ⟨rfl, ?_⟩
  refine codeAny_call_builtin_at (Code.quiet_builtin _ (by decide +kernel)) entry_typeCall (wpAny_check_type_call_sub hC (ek_type hbm hl hC hi hb ?_))
  refine codeAny_mono hq fun r s' z => ?_
  cases r with
  | error e => exact z
  | ok fl => cases fl <;> exact z
end
end Ls
namespace Ls
open PySem PySem.Spec PyProof.Rows L2

/-! ### several clauses «except X as e» -/
/-- the ends of a suite behind which the name at slot i goes -/
def asEnds (D : Ends) (i : Nat) : Ends := { nx := fun σ' H' => D.nx (σ'.set i none) H', rt := D.rt, bk := fun σ' H' => D.bk (σ'.set i none) H', ct := fun σ' H' => D.ct (σ'.set i none) H' }
/-- a clause: its class, its name's slot, its suite -/
structure AsCl where
  c : Value
  i : Nat
  ts : Addr → Value → Option Addr → TS
/-- what the clauses wish of an exception of the body -/
def wAsM (K : PySem.W.Frag) (Wout : WX) (D : Ends) : List AsCl → WX
  | [] => Wout
  | q :: r => fun cls d σ H => ∃ b, PySem.W.exmOne K cls q.c = some b ∧ (b = true → ∀ a, H a = none → q.ts a cls d (asEnds D q.i) (σ.set q.i (some (.ref a))) H) ∧ (b = false → wAsM K Wout D r cls d σ H)
inductive AsOk (X : Cx) : List ExceptHandler → List AsCl → Prop
  | nil : AsOk X [] []
  | cons {x n : Str} {q : AsCl} {st : Stmt} {sts : List Stmt} {p1 p2 : Pos} {hds : List ExceptHandler} {l : List AsCl} (hi : X.N[q.i]? = some n) (hl : X.env.kindOf n = some .local) (hc : Names X x q.c)
      (hsu : ∀ (a : Addr) (oe : Obj) (cls : Value) (d : Option Addr) (pn : List (Addr × Obj)), Zc cls d oe → (∃ vs, oe.data = .fields vs) → PSs (X.suite a ((a, oe) :: pn)) (st :: sts) (q.ts a cls d)) (r : AsOk X hds l) :
      AsOk X (.ExceptHandler (some (.Name x p1)) (some n) (st :: sts) p2 :: hds) (q :: l)
/-- where an exception of the body arrives -/
abbrev xeAs (X : Cx) (pins : List (Addr × Obj)) (hds : List ExceptHandler) (D : Ends) : Value → Shared → Prop := fun e s₁ =>
  wpAny (model X.prog X.w) X.A (noteFrame e X.env) (fun _ s₂ => wpAny (model X.prog X.w) X.A (setFlight e none) (fun _ s₃ => wpAny (model X.prog X.w) X.A (handleBy e X.env hds) (SP X pins D) X.xe s₃) X.xe s₂) X.xe s₁
section
variable {X : Cx} {body : List Stmt} {h₀ : ExceptHandler} {hds : List ExceptHandler} {l : List AsCl} {pos : Pos} {tb : WX → TS} {Wout : WX} {pins : List (Addr × Obj)} {D : Ends}
theorem as_takes (ok : X.Ok) (hs : X.stack = X.env :: X.outer) (hf : X.env.frame = some X.env.locals) (hN : X.N.Nodup) (tk : Takes X Wout) (hh : AsOk X hds l) : Takes (X.tr (X.pn ++ pins) (xeAs X pins hds D)) (wAsM X.K Wout D l) := by
  intro u s' xx
  have hfr : X.A.frames = some (X.env :: X.outer) := by rw [ok.frames, hs]
  obtain ⟨a, B, sI, pins', σ', H', cls, d, rfl, JT, nb, up, sky, na, os, ag, w0⟩ := xx
  have J : Inv X pins σ' H' sI := JT.ofTry ok
  have sky2 : Sky B (X.env :: X.outer) a (Zc cls d) X.env.locals s'.heap := by
    rw [← hs]
    exact sky
  show wpAny _ _ (noteFrame (.ref a) X.env) _ _ _
  refine Sky.land Zc.steady hfr hf sky2 fun hA flA upA => ?_
  have JA : Inv X pins σ' H' { s' with heap := hA } := J.landed nb flA.1 (up.trans upA) os ag
  obtain ⟨oA, vA, eA, zA, dA⟩ := flA.there
  have nfr : a ∉ frs (X.env :: X.outer) := fun hm => by
    obtain ⟨_, o', e', hnf⟩ := (flA.2.2.1).mem hm
    have e2 := eA.symm.trans e'
    cases e2
    exact hnf _ dA
  have nL : a ≠ X.env.locals := fun z => nfr (List.mem_filterMap.mpr ⟨X.env, List.mem_cons_self, by rw [hf, z]⟩)
  have nF : a ∉ X.fs := fun hm => by
    obtain ⟨y, hy, q⟩ := List.mem_filterMap.mp hm
    exact nfr (List.mem_filterMap.mpr ⟨y, .tail _ hy, q⟩)
  have SA := JA.suite eA dA na nL nF
  have LT : PySem.W.Looks (model X.prog X.w) hA (typeOf (.ref a)) cls := fun A Q E s k q => wpAny_typeOf_ref (k _ _ eA) (by rw [zA.1]; exact q)
  have go : ∀ {hds' : List ExceptHandler} {l' : List AsCl}, AsOk X hds' l' → wAsM X.K Wout D l' cls d σ' H' → wpAny (model X.prog X.w) X.A (handleBy (.ref a) X.env hds') (SP X pins D) X.xe { s' with heap := hA } := by
    intro hds' l' hk
    induction hk with
    | nil =>
      intro w
      refine wpAny_handleBy_nil ?_
      obtain ⟨_, _, _, oe, vs, T, _, _, he, _, hd, h1, _⟩ := id flA
      unfold PySem.passOn
      refine wpAny_bind (wpAny_field he hd h1 ?_)
      have nt : ¬ ((Value.ref T == Value.none) = true) := by simp
      rw [if_neg nt]
      have fin : wpAny (model X.prog X.w) X.A (setFlight (.ref a) X.env.frame) (fun _ s4 => wpAny (model X.prog X.w) X.A (throw (.ref a) : Sem Flow) (SP X pins D) X.xe s4) X.xe { s' with heap := hA } := by
        rw [hf]
        refine HandSPX.setFlight_upZ flA fun hB skyB upB => wpAny_throw (tk _ _ ?_)
        refine ⟨a, B, sI, pins, σ', H', cls, d, rfl, J, nb, (up.trans upA).trans upB, .inr (.inr ?_), na, os, ag, w⟩
        rw [hs]
        exact skyB
      first
        | exact wpAny_bind (wpAny_pure (wpAny_bind fin))
        | exact wpAny_bind fin
    | @cons x n q st sts p1 p2 hds2 l2 hi hl hc hsu r ih =>
      intro w
      obtain ⟨b, hb, hyes, hno⟩ := w
      refine wpAny_handleBy_cons (codeAny_handlers_test ?_) (by intro z; cases z)
      have LM := PySem.W.exm_one (M := model X.prog X.w) JA.kIn LT hb
      have test : ∀ {Q : Value → Shared → Prop} {E : Value → Shared → Prop}, Q q.c { s' with heap := hA } → wpAny (model X.prog X.w) (X.A.mark (some (.ref a))) (eval (.Name x p1) X.env) Q E { s' with heap := hA } := fun {Q E} z => by
        obtain ⟨hg, hdb, hm | ⟨hm, hv, hnn⟩⟩ := hc
        · exact ld_glob (X := X.suite a ((a, oA) :: (X.pn ++ pins))) SA hg hm z hdb
        · exact ld_blt (X := X.suite a ((a, oA) :: (X.pn ++ pins))) SA hg hm hv z hnn hdb
      refine test (LM.here ?_)
      cases b with
      | false =>
        show wpAny _ X.A (handleBy (.ref a) X.env hds2) _ _ _
        exact ih (hno rfl)
      | true =>
        refine codeAny_handlers_suite_as ?_
        refine HandSPX.lands_againZ flA fun hB flB upB => ?_
        have JB : Inv X pins σ' H' { s' with heap := hB } := J.landed nb flB.1 ((up.trans upA).trans upB) os ag
        obtain ⟨oB, vB, eB, zB, dB⟩ := flB.there
        have SB := JB.suite eB dB na nL nF
        refine store_ok (X := X.suite a ((a, oB) :: (X.pn ++ pins))) (v := .ref a) SB hN hi (.inl hl) rfl (fun s5 S5 => ?_) (.inr hl)
        refine wpAny_mono ((hsu a oB cls d (X.pn ++ pins) zB ⟨_, dB⟩).run [] s5 _ H' _ S5 (hyes rfl a na)) (fun f s6 hsp => ?_) (fun _ _ z => z.elim)
        have gone : ∀ {σ6 : L2.St} {H6 : Hp} {Q : Shared → Prop}, Inv (X.suite a ((a, oB) :: (X.pn ++ pins))) [] σ6 H6 s6 → (∀ s7, Inv X pins (σ6.set q.i none) H6 s7 → Q s7) →
            wpAny (model X.prog X.w) X.A (do bindName X.env n .none; unbindBehindTheSuite X.env n p2) (fun _ s7 => Q s7) X.xe s6 := fun {σ6 H6 Q} S6 hq => gone_ok (S6.unsuite ok) hN hi hl hq
        cases f with
        | ret u =>
          obtain ⟨v6, σ6, H6, S6, r6, q6⟩ := hsp
          exact gone S6 fun s7 J7 => ⟨v6, _, _, J7, r6, q6⟩
        | next =>
          obtain ⟨σ6, H6, S6, q6⟩ := hsp
          exact gone S6 fun s7 J7 => ⟨_, _, J7, q6⟩
        | brk =>
          obtain ⟨σ6, H6, S6, q6⟩ := hsp
          exact gone S6 fun s7 J7 => ⟨_, _, J7, q6⟩
        | cont =>
          obtain ⟨σ6, H6, S6, q6⟩ := hsp
          exact gone S6 fun s7 J7 => ⟨_, _, J7, q6⟩
  exact go hh w0
/-- THE RULE: try: body / except X as e: .. / except Y as f: .. -/
theorem ps_try_asM (hs : X.stack = X.env :: X.outer) (hf : X.env.frame = some X.env.locals) (hN : X.N.Nodup) (tk : Takes X Wout)
    (hb : ∀ (W : WX) (pn : List (Addr × Obj)) (xe : Value → Shared → Prop), Takes (X.tr pn xe) W → PassesOwn (model X.prog X.w) X.A X.env xe → PSs (X.tr pn xe) body (tb W))
    (hh : AsOk X (h₀ :: hds) l) : PS X (.Try body (h₀ :: hds) [] [] pos) (fun D σ H => tb (wAsM X.K Wout D l) D σ H) := by
  refine ⟨fun pins s σ H D I h => ?_⟩
  have ok := I.ok
  refine wpAny_Try_except ?_
  have PB := hb (wAsM X.K Wout D l) (X.pn ++ pins) (xeAs X pins (h₀ :: hds) D) (as_takes ok hs hf hN tk hh) PassesOwn.looking
  refine wpAny_mono (PB.run [] s σ H D (I.toTry _) h) (fun f s1 hsp => ?_) (fun e s1 he => he)
  cases f with
  | next =>
    obtain ⟨σ', H', J', q⟩ := hsp
    exact wpAny_execs_nil ⟨σ', H', J'.ofTry ok, q⟩
  | ret u =>
    obtain ⟨v, σ', H', J', r, q⟩ := hsp
    exact ⟨v, σ', H', J'.ofTry ok, r, q⟩
  | brk =>
    obtain ⟨σ', H', J', q⟩ := hsp
    exact ⟨σ', H', J'.ofTry ok, q⟩
  | cont =>
    obtain ⟨σ', H', J', q⟩ := hsp
    exact ⟨σ', H', J'.ofTry ok, q⟩
end
end Ls
namespace Ls
open PySem PySem.Spec PyProof.Rows L2 NdefX

/-! ### what the written part must say of an own error, as one test -/
/-- C is an own exception class over ValueError -/
def clsB (K : PySem.W.Frag) (C : Addr) : Bool := match K.lookup C with
  | some ⟨.type "type", _, .cls cd, sl⟩ => (match cd.mro, sl.toList with
    | .ref D :: bm, [_, _, _, _, some (.builtin n), _] => D == C && n == "ValueError.__new__" && cd.hasDict && !cd.hasDel && PySem.HandSPX.refsVE bm
    | _, _ => false)
  | _ => false
def findB (K : PySem.W.Frag) (C : Addr) (x : Str) (v : Option Value) : Bool := decide (PySem.W.findIn K (.ref C) x = some v)
def cellB (K : PySem.W.Frag) (C cc : Addr) : Bool := match K.lookup cc with
  | some ⟨_, _, .cell (some v), _⟩ => v == .ref C
  | _ => false
def codeB (P : Program) (K : PySem.W.Frag) (cda : Addr) : Bool := match K.lookup cda with
  | some ⟨_, _, .fields vs, _⟩ => (match (vs : Array Value)[2]? with
    | some (Value.str file _) => (P.main.file : Str) == file
    | _ => false)
  | _ => false
def errB (P : Program) (K : PySem.W.Frag) (C fI cc cda : Addr) (fs : List Str) : Bool :=
  clsB K C && (findB K C "__setattr__" (some (.builtin "object.__setattr__")) && (decide (PySem.W.subIn K (.ref C) (.type "BaseException") = some true) && (decide (PySem.W.typeIn K (.ref C) = some (.type "type")) &&
  (PySem.W.keepIn K (.ref C) && (xfB K C && (codeB P K cda && (cellB K C cc && (decide (PySem.W.mroIn K C (.ref C) = some true) && (decide (PySem.W.nsIn K mainGlobals "super" = some none) &&
  (decide (PySem.W.nsIn K cStatics "thirdparty.any" = some none) && (decide (PySem.W.ks_superIn K C C "__init__" = some (some (.builtin "ValueError.__init__"))) && (decide (PySem.W.subIn K (.ref C) (.type "ValueError") = some true) &&
  (PySem.W.excInitIn K C bmVE "ValueError.__new__" && (!(P.main.scope.names.lookup ("super" : Str)).isSome && (findB K C "__init__" (some (.ref fI)) && (decide (PySem.W.typeIn K (.ref fI) = some (.type "function")) &&
  fs.all fun f => findB K C f none))))))))))))))))

section
variable {P : Program} {w : World} {K : PySem.W.Frag} {mg : Str → Option Value} {base h : Heap} {C fI cc cda : Addr} {fs : List Str}
theorem clsB_ok (q : clsB K C = true) : ∃ nm qn N bs bm sn sub ab col dd k0 k1 k2 k3 k5, K.lookup C = some (excClassObj nm qn C N bs bm true sn sub ab col dd k0 k1 k2 k3 k5 "ValueError.__new__") ∧ PySem.HandSPX.refsVE bm = true := by
  unfold clsB at q
  split at q
  · rename_i dd cd sl ho
    split at q
    · rename_i D bm k0 k1 k2 k3 n k5 hm hs
      simp only [Bool.and_eq_true, beq_iff_eq, Bool.not_eq_true'] at q
      obtain ⟨⟨⟨⟨rfl, rfl⟩, hd⟩, hdel⟩, hr⟩ := q
      obtain ⟨nm, bs, mro, ns, qn, hd', sn, sub, ab, col, del⟩ := cd
      dsimp only at hm hdel hd
      subst hm hdel hd
      obtain ⟨l⟩ := sl
      simp only at hs
      subst hs
      exact ⟨nm, qn, ns, bs, bm, sn, sub, ab, col, dd, k0, k1, k2, k3, k5, ho, hr⟩
    · cases q
  · cases q
/-- what the test tells -/
structure ErrK (P : Program) (K : PySem.W.Frag) (C fI cc cda : Addr) (fs : List Str) : Prop where
  sup : SupC P K C cc cda
  xf : XfC K C
  ini : PySem.W.findIn K (.ref C) "__init__" = some (some (.ref fI))
  tI : PySem.W.typeIn K (.ref fI) = some (.type "function")
  nof : ∀ f ∈ fs, PySem.W.findIn K (.ref C) f = some none
theorem errB_ok (q : errB P K C fI cc cda fs = true) : ErrK P K C fI cc cda fs := by
  unfold errB at q
  obtain ⟨q1, q⟩ := Bool.and_eq_true_iff.mp q
  obtain ⟨q2, q⟩ := Bool.and_eq_true_iff.mp q
  obtain ⟨q3, q⟩ := Bool.and_eq_true_iff.mp q
  obtain ⟨q4, q⟩ := Bool.and_eq_true_iff.mp q
  obtain ⟨q5, q⟩ := Bool.and_eq_true_iff.mp q
  obtain ⟨q6, q⟩ := Bool.and_eq_true_iff.mp q
  obtain ⟨q7, q⟩ := Bool.and_eq_true_iff.mp q
  obtain ⟨q8, q⟩ := Bool.and_eq_true_iff.mp q
  obtain ⟨q9, q⟩ := Bool.and_eq_true_iff.mp q
  obtain ⟨q10, q⟩ := Bool.and_eq_true_iff.mp q
  obtain ⟨q11, q⟩ := Bool.and_eq_true_iff.mp q
  obtain ⟨q12, q⟩ := Bool.and_eq_true_iff.mp q
  obtain ⟨q13, q⟩ := Bool.and_eq_true_iff.mp q
  obtain ⟨q14, q⟩ := Bool.and_eq_true_iff.mp q
  obtain ⟨q15, q⟩ := Bool.and_eq_true_iff.mp q
  obtain ⟨q16, q⟩ := Bool.and_eq_true_iff.mp q
  obtain ⟨q17, q18⟩ := Bool.and_eq_true_iff.mp q
  have O : OexC K C := ⟨clsB_ok q1, of_decide_eq_true q2, of_decide_eq_true q3, of_decide_eq_true q4, q5⟩
  refine ⟨⟨O, ?_, ?_, of_decide_eq_true q9, of_decide_eq_true q10, of_decide_eq_true q11, of_decide_eq_true q12, of_decide_eq_true q13, q14, by simpa using q15⟩, xfB_ok q6, of_decide_eq_true q16, of_decide_eq_true q17, fun f hf => ?_⟩
  · unfold codeB at q7
    split at q7
    · rename_i c d vs sl ho
      split at q7
      · rename_i file tk hv
        exact ⟨c, d, vs, sl, file, tk, ho, hv, q7⟩
      · cases q7
    · cases q7
  · unfold cellB at q8
    split at q8
    · rename_i c d v sl ho
      have e := beq_iff_eq.mp q8
      subst e
      exact ⟨c, d, sl, ho⟩
    · cases q8
  · exact of_decide_eq_true (List.all_eq_true.mp q18 f hf)

variable {x qual f g : Str} {st : Stmt} {oc doc pm ct : Value} {od : Option Addr} {osl : Array (Option Value)}
theorem own_x0 (X : K.In h) (G : h.Ns mainGlobals mg) (Tx : ErrTx st qual []) (a : PySem.W.nsIn K mainGlobals x = some (some (.ref C)))
    (l : K.lookup fI = some ⟨oc, od, .func (PySem.W.fnX "__init__" qual (defArgs st) (defBody st) (defScope st) [("__class__", cc)] .none .none doc pm none (.ref cda) ct), osl⟩) (c : PySem.W.codeIn K (.ref cda) qual = true)
    (b : errB P K C fI cc cda [] = true) : OwnX P w K mg base x [] (spI0 C) C :=
  have E := errB_ok b
  ⟨E.sup.ox, E.xf, PySem.W.mg_of X G a, E.nof, _, _, E.ini, E.tI, err_fn0 E.sup Tx l c, .all fun us hl => Tx.bind _ _ _ _ _ us hl⟩
theorem own_x1 (X : K.In h) (G : h.Ns mainGlobals mg) (Tx : ErrTx st qual [f]) (a : PySem.W.nsIn K mainGlobals x = some (some (.ref C)))
    (l : K.lookup fI = some ⟨oc, od, .func (PySem.W.fnX "__init__" qual (defArgs st) (defBody st) (defScope st) [("__class__", cc)] .none .none doc pm none (.ref cda) ct), osl⟩) (c : PySem.W.codeIn K (.ref cda) qual = true)
    (b : errB P K C fI cc cda [f] = true) : OwnX P w K mg base x [f] (spI1 C f) C :=
  have E := errB_ok b
  ⟨E.sup.ox, E.xf, PySem.W.mg_of X G a, E.nof, _, _, E.ini, E.tI, err_fn1 E.sup Tx (E.nof _ (.head _)) l c, .all fun us hl => Tx.bind _ _ _ _ _ us hl⟩
theorem own_x2 (X : K.In h) (G : h.Ns mainGlobals mg) (Tx : ErrTx st qual [f, g]) (a : PySem.W.nsIn K mainGlobals x = some (some (.ref C)))
    (l : K.lookup fI = some ⟨oc, od, .func (PySem.W.fnX "__init__" qual (defArgs st) (defBody st) (defScope st) [("__class__", cc)] .none .none doc pm none (.ref cda) ct), osl⟩) (c : PySem.W.codeIn K (.ref cda) qual = true)
    (b : errB P K C fI cc cda [f, g] = true) : OwnX P w K mg base x [f, g] (spI2 C f g) C :=
  have E := errB_ok b
  ⟨E.sup.ox, E.xf, PySem.W.mg_of X G a, E.nof, _, _, E.ini, E.tI, err_fn2 E.sup Tx (E.nof _ (.head _)) (E.nof _ (.tail _ (.head _))) l c, .all fun us hl => Tx.bind _ _ _ _ _ us hl⟩
end
end Ls
namespace Ls
open PySem PySem.Spec PyProof.Rows L2 NdefX
/-! ### own errors as values: made by place and by name, and kept -/
/-- at a: an error of the class at C with these fields -/
def ExcAt (H : Hp) (a C : Addr) (fs : List (Str × V)) : Prop := (fs = [] ∧ H a = some (exo a C none)) ∨ ∃ d, H a = some (exo a C (some d)) ∧ H d = some (exd d fs)
theorem ExcAt.same {H H' : Hp} {a C : Addr} {fs : List (Str × V)} (h : ExcAt H a C fs) (s : Same H H') : ExcAt H' a C fs := by
  rcases h with ⟨e, h⟩ | ⟨d, h1, h2⟩
  · exact .inl ⟨e, s _ _ h⟩
  · exact .inr ⟨d, s _ _ h1, s _ _ h2⟩
structure OwnV (P : Program) (w : World) (K : PySem.W.Frag) (mg : Str → Option Value) (base : Heap) (x : Str) (fs : List Str) (sp : Sp) (C : Addr) (ks : List Str) (g : List Value → List Value → List Value) (gV : List V → List V → List V) : Prop where
  ox : OexC K C
  xf : XfC K C
  ic : ExcC K C
  gl : mg x = some (.ref C)
  nof : ∀ f ∈ fs, PySem.W.findIn K (.ref C) f = some none
  ini : ∃ (fI : Addr) (fd : FuncData), PySem.W.findIn K (.ref C) "__init__" = some (some (.ref fI)) ∧ PySem.W.typeIn K (.ref fI) = some (.type "function") ∧ FnOk P w K mg base CX0 1 fI fd (("self" : Str) :: fs) sp ∧ Binds K fd (("self" : Str) :: fs) [] ∧ KBn K fd (("self" : Str) :: fs) 1 ks g gV
section
variable {X : Cx} {x : Str} {C fI : Addr} {fd : FuncData} {ps : List Str} {sp : Sp}
theorem run_x {pins : List (Addr × Obj)} {σ : L2.St} {H : Hp} {s : Shared} {Q : VK} {us : List Value} {kw : List (Str × Value)} {zs : Value → List Value} {vs : V → List V} (ox : OexC X.K C) (iC : PySem.W.findIn X.K (.ref C) "__init__" = some (some (.ref fI))) (tI : PySem.W.typeIn X.K (.ref fI) = some (.type "function"))
    (F1 : FnOk X.prog X.w X.K X.mg X.base CX0 1 fI fd ps sp) (hr : Room 2 X.A) (I : Inv X pins σ H s) (hl : us.length ≤ sizeLine) (hb : ∀ (s : Shared) (self : Value), X.K.In s.heap → BindsTo s fd ⟨self :: us, kw⟩ (ps.zip (zs self)))
    (rz : ∀ a, Vals (vs (.ref a)) (zs (.ref a))) (h : ∀ a, H a = none → sp (vs (.ref a)) (upd H a (exo a C none)) (fun v H2 => v = .non ∧ Q (.ref a) H2) E0) :
    wpAny (model X.prog X.w) X.A (call (.ref C) us kw) (EP X pins σ Q) X.xe s := by
  obtain ⟨nm, q, N, bs, bm, sn, sub, ab, col, dd, k0, k1, k2, k3, k5, hC, hbm⟩ := ox.cls
  obtain ⟨hp, g, dr, tk, os⟩ := s
  have sz : hp.objs.size ≤ hp.objs.size + 1 := Nat.le_succ _
  have new : H (hp.objs.size + 1) = none := I.hok.fresh sz
  have kp : ∀ b o, hp.get? b = some o → ((hp.push (PySem.W.kdv_tup us)).push (PySem.HandSPX.excO C hp.objs.size)).get? b = some o := fun b o e => Heap.get?_push_of_some _ (Heap.get?_push_of_some _ e)
  have there : ((hp.push (PySem.W.kdv_tup us)).push (PySem.HandSPX.excO C hp.objs.size)).get? (hp.objs.size + 1) = some (PySem.HandSPX.excO C hp.objs.size) := by heap_get
  have J : Inv X pins σ (upd H (hp.objs.size + 1) (exo (hp.objs.size + 1) C none)) ⟨(hp.push (PySem.W.kdv_tup us)).push (PySem.HandSPX.excO C hp.objs.size), g, dr, tk, os⟩ :=
    I.laid (t' := tk) (a := hp.objs.size + 1) (o := exo (hp.objs.size + 1) C none) (h' := (hp.push (PySem.W.kdv_tup us)).push (PySem.HandSPX.excO C hp.objs.size)) kp sz (exo_ok there)
  refine wpAny_call (ek_call hbm hl (I.kIn _ _ hC) (PySem.W.looks_findIn I.kIn iC) (fun self => PySem.W.bind_fn I.kIn self tI)
    (codeAny_mono (F1.run _ X.stack _ _ ⟨Value.ref (hp.objs.size + 1) :: us, kw⟩ (zs (.ref (hp.objs.size + 1))) _ _ E0 ((hr.mono (by omega : 2 ≤ 2)).make C us kw |>.mono (Nat.le_refl _)) (J.env0.make C us kw) (hb _ _ J.kIn) (rz _) (h _ new)) fun r s' z => ?_))
  cases r with
  | error e => exact pass0E (E := E0) pins σ _ _ e s' J z
  | ok fl =>
    cases fl with
    | ret u =>
      obtain ⟨v, H', J3, rv, ev, q3⟩ := J.after z
      subst ev
      exact ⟨rv, ⟨V.ref (hp.objs.size + 1), H', J3, rfl, q3⟩⟩
    | next => exact False.elim z
    | brk => exact False.elim z
    | cont => exact False.elim z
theorem excAt_made {H : Hp} {a d : Addr} {l : List (Str × V)} (ha : H a = none) (hd : (upd H a (exo a C none)) d = none) (n : d ≠ a) : ExcAt (exoD (upd H a (exo a C none)) a C d l) a C l ∧ Same H (exoD (upd H a (exo a C none)) a C d l) := by
  rw [upd_ne n] at hd
  refine ⟨.inr ⟨d, upd_same, ?_⟩, fun b u e => ?_⟩
  · unfold exoD
    rw [upd_ne n, upd_same]
  · unfold exoD
    rw [upd_ne (ne_of_none e ha), upd_ne (ne_of_none e hd), upd_ne (ne_of_none e ha)]
    exact e
/-- a new error with the fields of l, told by the arguments -/
def NewX (C : Addr) (l : List (Str × V)) (H : Hp) (Q : VK) : Prop := ∀ a H', H a = none → Same H H' → ExcAt H' a C l → Q (.ref a) H'
theorem newX0 {H : Hp} {Q : VK} (h : NewX C [] H Q) : ∀ a, H a = none → spI0 C [.ref a] (upd H a (exo a C none)) (fun v H2 => v = .non ∧ Q (.ref a) H2) E0 := fun a ha =>
  ⟨a, rfl, upd_same, rfl, h a _ ha (same_new ha) (.inl ⟨rfl, upd_same⟩)⟩
theorem newX1 {f : Str} {v : V} {H : Hp} {Q : VK} (h : NewX C [(f, v)] H Q) : ∀ a, H a = none → spI1 C f [.ref a, v] (upd H a (exo a C none)) (fun v H2 => v = .non ∧ Q (.ref a) H2) E0 := fun a ha =>
  ⟨a, v, rfl, upd_same, fun d hd n => ⟨rfl, h a _ ha (excAt_made ha hd n).2 (excAt_made ha hd n).1⟩⟩
theorem newX2 {f f2 : Str} {v u : V} {H : Hp} {Q : VK} (h : NewX C [(f2, u), (f, v)] H Q) : ∀ a, H a = none → spI2 C f f2 [.ref a, v, u] (upd H a (exo a C none)) (fun v H2 => v = .non ∧ Q (.ref a) H2) E0 := fun a ha =>
  ⟨a, v, u, rfl, upd_same, fun d hd n => ⟨rfl, h a _ ha (excAt_made ha hd n).2 (excAt_made ha hd n).1⟩⟩
end
section
variable {X : Cx} {x f f2 : Str} {C : Addr} {e e2 : Expr} {ta te te2 : TE} {tA : TA} {p pos kp kp2 : Pos} {ks : List Str} {g : List Value → List Value → List Value} {gV : List V → List V → List V}
def tNew0 (C : Addr) : TE := fun _ H Q => NewX C [] H Q
def tNew1 (C : Addr) (f : Str) (tA : TA) : TE := fun σ H Q => tA σ H fun vs H1 => ∃ v, vs = [v] ∧ NewX C [(f, v)] H1 Q
def tNew2 (C : Addr) (f f2 : Str) (tA : TA) : TE := fun σ H Q => tA σ H fun vs H1 => ∃ v u, vs = [v, u] ∧ NewX C [(f2, u), (f, v)] H1 Q
/-- x(f2 = .., f = ..): the names turned about -/
def tNewR (C : Addr) (f f2 : Str) (tA : TA) : TE := fun σ H Q => tA σ H fun vs H1 => ∃ v u, vs = [u, v] ∧ NewX C [(f2, u), (f, v)] H1 Q
/-- x() -/
theorem pe_new0 (O : OwnV X.prog X.w X.K X.mg X.base x [] (spI0 C) C ks g gV) (hr : Room 2 X.A) (hg : Gl X x := by rfl) (hdb : (x == ("__debug__" : Str)) = false := by decide) : PE X (.Call (.Name x p) [] [] pos) (tNew0 C) := by
  obtain ⟨fI, fd, iC, tI, F1, hb, _⟩ := O.ini
  refine ⟨fun pins s σ H Q I h => ?_⟩
  refine wpAny_Call_Name_kw (ld_glob I hg O.gl ?_ hdb)
  refine PySem.W.callWith_K0 I.kIn O.ox.kC ?_
  exact run_x (us := []) (kw := []) (zs := fun a => [a]) (vs := fun a => [a]) O.ox iC tI F1 hr I (Nat.zero_le _) (fun s self X => hb s [self] X rfl) (fun a => .cons rfl .nil) (newX0 h)
/-- x(e) -/
theorem pe_new1 (O : OwnV X.prog X.w X.K X.mg X.base x [f] (spI1 C f) C ks g gV) (hr : Room 2 X.A) (ha : PA X [e] tA) (hg : Gl X x := by rfl) (hdb : (x == ("__debug__" : Str)) = false := by decide)
    (he : starEach [e] X.env = (false, eval e X.env) :: starEach [] X.env := by rfl) : PE X (.Call (.Name x p) [e] [] pos) (tNew1 C f tA) := by
  obtain ⟨fI, fd, iC, tI, F1, hb, _⟩ := O.ini
  refine ⟨fun pins s σ H Q I h => ?_⟩
  refine wpAny_Call_Name_kw (ld_glob I hg O.gl ?_ hdb)
  refine PySem.W.callWith_K (h₀ := X.base) I.ok.mod.kin O.ox.kC (thn (ha.run pos pins s σ H _ I h) fun us s1 ⟨vs, H1, I1, r, v, ev, q⟩ => ⟨I1.kIn, ?_⟩) he rfl
  subst ev
  cases r with
  | @cons _ u0 _ ur ru rr =>
    cases rr
    exact run_x (us := [u0]) (kw := []) (zs := fun a => [a, u0]) (vs := fun a => [a, v]) O.ox iC tI F1 hr I1 (Nat.le_of_ble_eq_true rfl) (fun s self X => hb s [self, u0] X rfl) (fun a => .cons rfl (.cons ru .nil)) (newX1 q)
/-- x(e, e2) -/
theorem pe_new2 (O : OwnV X.prog X.w X.K X.mg X.base x [f, f2] (spI2 C f f2) C ks g gV) (hr : Room 2 X.A) (ha : PA X [e, e2] tA) (hg : Gl X x := by rfl) (hdb : (x == ("__debug__" : Str)) = false := by decide)
    (he : starEach [e, e2] X.env = (false, eval e X.env) :: starEach [e2] X.env := by rfl) (hpl : (backTo pos (starEach [e2] X.env)).any (·.1) = false := by rfl) : PE X (.Call (.Name x p) [e, e2] [] pos) (tNew2 C f f2 tA) := by
  obtain ⟨fI, fd, iC, tI, F1, hb, _⟩ := O.ini
  refine ⟨fun pins s σ H Q I h => ?_⟩
  refine wpAny_Call_Name_kw (ld_glob I hg O.gl ?_ hdb)
  refine PySem.W.callWith_K (h₀ := X.base) I.ok.mod.kin O.ox.kC (thn (ha.run pos pins s σ H _ I h) fun us s1 ⟨vs, H1, I1, r, v, u, ev, q⟩ => ⟨I1.kIn, ?_⟩) he hpl
  subst ev
  cases r with
  | @cons _ u0 _ ur ru rr =>
    cases rr with
    | @cons _ u1 _ ur ru1 rr =>
      cases rr
      exact run_x (us := [u0, u1]) (kw := []) (zs := fun a => [a, u0, u1]) (vs := fun a => [a, v, u]) O.ox iC tI F1 hr I1 (Nat.le_of_ble_eq_true rfl) (fun s self X => hb s [self, u0, u1] X rfl) (fun a => .cons rfl (.cons ru (.cons ru1 .nil))) (newX2 q)
/-- x(f = e) -/
theorem pe_newK1 {kws : List Keyword} (O : OwnV X.prog X.w X.K X.mg X.base x [f] (spI1 C f) C [f] (fun us ws => us ++ ws) (fun us ws => us ++ ws)) (hr : Room 2 X.A) (hkw : PK X kws tA) (hg : Gl X x := by rfl) (hdb : (x == ("__debug__" : Str)) = false := by decide)
    (hall : (backToKw pos (keywordEach kws X.env)).all (·.1.isSome) = true := by rfl) (hks : (backToKw pos (keywordEach kws X.env)).filterMap (·.1) = [f] := by rfl)
    (hpl : ((backTo pos (starEach [] X.env)).any (·.1) || (backToKw pos (keywordEach kws X.env)).any (·.1.isNone)) = false := by rfl) : PE X (.Call (.Name x p) [] kws pos) (tNew1 C f tA) := by
  obtain ⟨fI, fd, iC, tI, F1, _, hb⟩ := O.ini
  refine ⟨fun pins s σ H Q I h => ?_⟩
  refine wpAny_Call_Name_kw (ld_glob I hg O.gl ?_ hdb)
  refine PySem.W.callWith_KW0 (h₀ := X.base) I.ok.mod.kin O.ox.kC hall ?_ hpl
  refine thn (hkw.run pos pins s σ H _ I h) fun ws s1 ⟨vs, H1, I1, r, v, ev, q⟩ => ⟨I1.kIn, ?_⟩
  rw [hks]
  subst ev
  cases r with
  | @cons _ u0 _ ur ru rr =>
    cases rr
    exact run_x (us := []) (kw := [(f, u0)]) (zs := fun a => [a, u0]) (vs := fun a => [a, v]) O.ox iC tI F1 hr I1 (Nat.zero_le _) (fun s self X => hb.to s [self] [u0] X rfl rfl) (fun a => .cons rfl (.cons ru .nil)) (newX1 q)
/-- x(f2 = e, f = e2) -/
theorem pe_newKR {kws : List Keyword} (O : OwnV X.prog X.w X.K X.mg X.base x [f, f2] (spI2 C f f2) C [f2, f] (fun us ws => us ++ ws.reverse) (fun us ws => us ++ ws.reverse)) (hr : Room 2 X.A) (hkw : PK X kws tA) (hg : Gl X x := by rfl) (hdb : (x == ("__debug__" : Str)) = false := by decide)
    (hall : (backToKw pos (keywordEach kws X.env)).all (·.1.isSome) = true := by rfl) (hks : (backToKw pos (keywordEach kws X.env)).filterMap (·.1) = [f2, f] := by rfl)
    (hpl : ((backTo pos (starEach [] X.env)).any (·.1) || (backToKw pos (keywordEach kws X.env)).any (·.1.isNone)) = false := by rfl) : PE X (.Call (.Name x p) [] kws pos) (tNewR C f f2 tA) := by
  obtain ⟨fI, fd, iC, tI, F1, _, hb⟩ := O.ini
  refine ⟨fun pins s σ H Q I h => ?_⟩
  refine wpAny_Call_Name_kw (ld_glob I hg O.gl ?_ hdb)
  refine PySem.W.callWith_KW0 (h₀ := X.base) I.ok.mod.kin O.ox.kC hall ?_ hpl
  refine thn (hkw.run pos pins s σ H _ I h) fun ws s1 ⟨vs, H1, I1, r, v, u, ev, q⟩ => ⟨I1.kIn, ?_⟩
  rw [hks]
  subst ev
  cases r with
  | @cons _ u0 _ ur ru rr =>
    cases rr with
    | @cons _ u1 _ ur ru1 rr =>
      cases rr
      exact run_x (us := []) (kw := [(f2, u0), (f, u1)]) (zs := fun a => [a, u1, u0]) (vs := fun a => [a, v, u]) O.ox iC tI F1 hr I1 (Nat.zero_le _) (fun s self X => hb.to s [self] [u0, u1] X rfl rfl) (fun a => .cons rfl (.cons ru1 (.cons ru .nil))) (newX2 q)
/-! ### e.f -/
def tFx (f : Str) (K : PySem.W.Frag) (te : TE) : TE := fun σ H Q => te σ H fun y H1 => ∃ (a C : Addr) (fs : List (Str × V)) (v : V), y = .ref a ∧ XfC K C ∧ PySem.W.findIn K (.ref C) f = some none ∧ ExcAt H1 a C fs ∧ fs.lookup f = some v ∧ Q v H1
theorem pe_fx (he : PE X e te) (hb : attributeBase e f X.env (eval e X.env) = eval e X.env := by rfl) : PE X (.Attribute e f pos) (tFx f X.K te) := by
  refine ⟨fun pins s σ H Q I h => ?_⟩
  refine attr_of hb (thn (he.run pins s σ H _ I h) fun u s1 hh => ?_)
  obtain ⟨y, H1, I1, ry, a, C, fs, v, ey, T, hno, ea, l, q⟩ := hh
  subst ey
  obtain rfl : u = Value.ref a := ry
  rcases ea with ⟨e1, _⟩ | ⟨d, e1, e2⟩
  · subst e1
    cases l
  · obtain ⟨t1, ho⟩ := exo_at I1.hok e1
    obtain ⟨mA, hns, hr⟩ := exd_at I1.hok e2
    obtain ⟨od, hod, hl⟩ := lookIn_ns hns
    obtain ⟨u, hu, ru⟩ := RelO.some_of (v := v) (o := mA f) (by rw [← l]; exact hr f)
    exact HandSPX.exc_get I1.kIn ⟨ho, rfl, rfl, hod⟩ T.ga T.gg T.exC (PySem.W.findObj_own T.hdC hno rfl (by rw [hl, hu])) (handed_of ru) ⟨v, H1, I1.tok _, ru, q⟩
/-! ### isinstance(e, c) -/
def rIsX (K : PySem.W.Frag) : List V → Hp → VK → Prop := fun xs H Q => ∃ (a C : Addr) (fs : List (Str × V)) (c : V) (u : Value) (b : Bool), xs = [.ref a, c] ∧ ClsV c u ∧ ExcC K C ∧ ExcAt H a C fs ∧ PySem.W.kitOne K (.ref C) u = some b ∧ Q (.bl b) H
theorem call_isX : CallR X (.builtin "isinstance") (rIsX X.K) := by
  intro pins s σ H xs us Q I r h
  obtain ⟨a, C, fs, c, u, b, rfl, k, T, ea, e, q⟩ := h
  have hcl : (PySem.W.clsIn X.K C).isSome = true := by
    obtain ⟨cd, hc, _⟩ := PySem.W.any_some T.hd
    rw [hc]
    rfl
  cases r with
  | cons rx rr =>
    cases rr with
    | cons rt rr =>
      cases rr
      cases rx
      have ec := k.eq rt
      subst ec
      rcases ea with ⟨_, e1⟩ | ⟨d, e1, e2⟩
      · obtain ⟨t1, ho⟩ := exo_at I.hok e1
        exact PySem.W.kia_one (PySem.W.kitx_exc (od := none) hcl T.hg T.hk T.hs T.ha T.hn T.ht T.hm) I.kIn ⟨ho, rfl, rfl, trivial⟩ e (fun z => nomatch z) fun tk => ⟨.bl b, H, I.kept (t' := tk) fun _ _ z => z, rfl, q⟩
      · obtain ⟨t1, ho⟩ := exo_at I.hok e1
        obtain ⟨mA, hns, hr⟩ := exd_at I.hok e2
        obtain ⟨od, hod, hl⟩ := lookIn_ns hns
        exact PySem.W.kia_one (PySem.W.kitx_exc (od := some od) hcl T.hg T.hk T.hs T.ha T.hn T.ht T.hm) I.kIn ⟨ho, rfl, rfl, hod⟩ e (fun z => nomatch z) fun tk => ⟨.bl b, H, I.kept (t' := tk) fun _ _ z => z, rfl, q⟩
end
abbrev OwnV0 (P : Program) (w : World) (K : PySem.W.Frag) (mg : Str → Option Value) (base : Heap) (x : Str) (C : Addr) : Prop := OwnV P w K mg base x [] (spI0 C) C [] (fun us ws => us ++ ws) (fun us ws => us ++ ws)
abbrev OwnV1 (P : Program) (w : World) (K : PySem.W.Frag) (mg : Str → Option Value) (base : Heap) (x f : Str) (C : Addr) : Prop := OwnV P w K mg base x [f] (spI1 C f) C [f] (fun us ws => us ++ ws) (fun us ws => us ++ ws)
abbrev OwnV2 (P : Program) (w : World) (K : PySem.W.Frag) (mg : Str → Option Value) (base : Heap) (x f f2 : Str) (C : Addr) : Prop := OwnV P w K mg base x [f, f2] (spI2 C f f2) C [f2, f] (fun us ws => us ++ ws.reverse) (fun us ws => us ++ ws.reverse)
/-! ### rows of errors -/
abbrev XRow := Str × List Str × Addr × List (Str × V)
def RowX (H : Hp) (x : V) (r : XRow) : Prop := ∃ t fl e1 e2, x = .ref t ∧ H t = some (.tup [.str r.1, .ref fl, .ref e1, .ref e2]) ∧ H fl = some (.lst (r.2.1.map V.str)) ∧ ExcAt H e1 r.2.2.1 r.2.2.2 ∧ ExcAt H e2 r.2.2.1 r.2.2.2
theorem RowX.same {H H' : Hp} {x : V} {r : XRow} (h : RowX H x r) (s : Same H H') : RowX H' x r := by
  obtain ⟨t, fl, e1, e2, e, h1, h2, h3, h4⟩ := h
  exact ⟨t, fl, e1, e2, e, s _ _ h1, s _ _ h2, h3.same s, h4.same s⟩
def RowsX (H : Hp) (xs : List V) (rs : List XRow) : Prop := Paired (RowX H) xs rs
theorem RowsX.same {H H' : Hp} (s : Same H H') : ∀ {xs : List V} {rs : List XRow}, RowsX H xs rs → RowsX H' xs rs
  | _, _, .nil => .nil
  | _, _, .cons a t => .cons (a.same s) (RowsX.same s t)
theorem RowsX.get {H : Hp} : ∀ {xs : List V} {rs : List XRow} {i : Nat} {v : V}, RowsX H xs rs → xs[i]? = some v → ∃ r, rs[i]? = some r ∧ RowX H v r
  | _, _, 0, _, .cons a _, e => by cases e; exact ⟨_, rfl, a⟩
  | _, _, i + 1, _, .cons _ t, e => RowsX.get (i := i) t e
theorem RowsX.append {H : Hp} : ∀ {xs ys : List V} {rs qs : List XRow}, RowsX H xs rs → RowsX H ys qs → RowsX H (xs ++ ys) (rs ++ qs)
  | _, _, _, _, .nil, h => h
  | _, _, _, _, .cons a t, h => .cons a (RowsX.append t h)
theorem RowsX.len {H : Hp} {xs : List V} {rs : List XRow} (h : RowsX H xs rs) : xs.length = rs.length := Paired.length h
/-- what is read lays such rows -/
def RdTA (σ : L2.St) (ta : TA) (rs : List XRow) : Prop := ∀ (H : Hp) (Q : List V → Hp → Prop), (∀ H' xs, Same H H' → RowsX H' xs rs → Q xs H') → ta σ H Q
theorem rd_nil {σ : L2.St} : RdTA σ tNil [] := fun H _ q => q H [] (Same.refl H) .nil
theorem rd_cons {σ : L2.St} {te : TE} {ta : TA} {r : XRow} {rs : List XRow} (h : ∀ (H : Hp) (Q : VK), (∀ H' t, Same H H' → RowX H' (.ref t) r → Q (.ref t) H') → te σ H Q) (hr : RdTA σ ta rs) : RdTA σ (tCons te ta) (r :: rs) := fun H _ q =>
  h H _ fun H1 t s1 r1 => hr H1 _ fun H2 xs s2 r2 => q H2 (.ref t :: xs) (s1.trans s2) (.cons (r1.same s2) r2)
theorem rd_row {σ : L2.St} {w : Str} {fs : List Str} {C : Addr} {l : List (Str × V)} {tf t1 t2 : TE} (hf : ∀ (H : Hp) (Q : VK), (∀ H' fl, Same H H' → H' fl = some (.lst (fs.map V.str)) → Q (.ref fl) H') → tf σ H Q)
    (h1 : ∀ (H : Hp) (Q : VK), NewX C l H Q → t1 σ H Q) (h2 : ∀ (H : Hp) (Q : VK), NewX C l H Q → t2 σ H Q) (H : Hp) (Q : VK) (q : ∀ H' t, Same H H' → RowX H' (.ref t) (w, fs, C, l) → Q (.ref t) H') : tTup (tCons (tC (.str w)) (tCons tf (tCons t1 (tCons t2 tNil)))) σ H Q := by
  show tf σ H (fun x H1 => t1 σ H1 (fun y H2 => t2 σ H2 (fun z H3 => [V.str w, x, y, z].length ≤ sizeLine ∧ ∀ p, H3 p = none → Q (.ref p) (upd H3 p (.tup [V.str w, x, y, z])))))
  refine hf _ _ fun H1 fl s1 g1 => h1 _ _ fun a1 H2 n1 s2 x1 => h2 _ _ fun a2 H3 n2 s3 x2 => ⟨Nat.le_of_ble_eq_true rfl, fun p hp => ?_⟩
  have s4 := same_new (o := .tup [V.str w, .ref fl, .ref a1, .ref a2]) hp
  exact q _ p (((s1.trans s2).trans s3).trans s4) ⟨p, fl, a1, a2, rfl, upd_same, s4 _ _ (s3 _ _ (s2 _ _ g1)), (x1.same s3).same s4, x2.same s4⟩
theorem rd_f0 {σ : L2.St} (H : Hp) (Q : VK) (q : ∀ H' fl, Same H H' → H' fl = some (.lst (([] : List Str).map V.str)) → Q (.ref fl) H') : tLst tNil σ H Q := ⟨Nat.zero_le _, fun p hp => q _ p (same_new hp) upd_same⟩
theorem rd_f1 {σ : L2.St} {f : Str} (H : Hp) (Q : VK) (q : ∀ H' fl, Same H H' → H' fl = some (.lst ([f].map V.str)) → Q (.ref fl) H') : tLst (tCons (tC (.str f)) tNil) σ H Q := ⟨Nat.le_of_ble_eq_true rfl, fun p hp => q _ p (same_new hp) upd_same⟩
theorem rd_f2 {σ : L2.St} {f g : Str} (H : Hp) (Q : VK) (q : ∀ H' fl, Same H H' → H' fl = some (.lst ([f, g].map V.str)) → Q (.ref fl) H') : tLst (tCons (tC (.str f)) (tCons (tC (.str g)) tNil)) σ H Q := ⟨Nat.le_of_ble_eq_true rfl, fun p hp => q _ p (same_new hp) upd_same⟩
theorem rd_n0 {σ : L2.St} {C : Addr} (H : Hp) (Q : VK) (q : NewX C [] H Q) : tNew0 C σ H Q := q
theorem rd_n1 {σ : L2.St} {C : Addr} {f : Str} {i : Nat} {v : V} (hv : σ[i]? = some (some v)) (H : Hp) (Q : VK) (q : NewX C [(f, v)] H Q) : tNew1 C f (tCons (tVar i) tNil) σ H Q := ⟨v, hv, v, rfl, q⟩
theorem rd_n2 {σ : L2.St} {C : Addr} {f g : Str} {i j : Nat} {v u : V} (hv : σ[i]? = some (some v)) (hu : σ[j]? = some (some u)) (H : Hp) (Q : VK) (q : NewX C [(g, u), (f, v)] H Q) : tNew2 C f g (tCons (tVar i) (tCons (tVar j) tNil)) σ H Q := ⟨v, hv, u, hu, v, u, rfl, q⟩
theorem rd_nR {σ : L2.St} {C : Addr} {f g : Str} {i j : Nat} {v u : V} (hv : σ[i]? = some (some v)) (hu : σ[j]? = some (some u)) (H : Hp) (Q : VK) (q : NewX C [(g, u), (f, v)] H Q) : tNewR C f g (tCons (tVar j) (tCons (tVar i) tNil)) σ H Q := ⟨u, hu, v, hv, v, u, rfl, q⟩
theorem rd_lst {σ : L2.St} {ta : TA} {rs : List XRow} {H : Hp} {Q : VK} (h : RdTA σ ta rs) (hn : rs.length ≤ 100) (q : ∀ H' p xs, H p = none → H' p = some (.lst xs) → RowsX H' xs rs → Same H H' → Q (.ref p) H') : tLst ta σ H Q :=
  h H _ fun H1 xs s1 r1 => ⟨Nat.le_trans (Nat.le_trans (Nat.le_of_eq r1.len) hn) (Nat.le_of_ble_eq_true rfl), fun p hp => q _ p xs (s1.free hp) upd_same (r1.same (same_new hp)) (s1.trans (same_new hp))⟩
/-! ### rows of a word and whether an error is of a class -/
def RowB (H : Hp) (x : V) (p : Str × Bool) : Prop := ∃ t, x = .ref t ∧ H t = some (.tup [.str p.1, .bl p.2])
def RowsB (H : Hp) (xs : List V) (l : List (Str × Bool)) : Prop := Paired (RowB H) xs l
theorem RowsB.same {H H' : Hp} (s : Same H H') : ∀ {xs : List V} {l : List (Str × Bool)}, RowsB H xs l → RowsB H' xs l
  | _, _, .nil => .nil
  | _, _, .cons ⟨t, e, h⟩ r => .cons ⟨t, e, s _ _ h⟩ (RowsB.same s r)
theorem RowsB.get {H : Hp} : ∀ {xs : List V} {l : List (Str × Bool)} {i : Nat} {v : V}, RowsB H xs l → xs[i]? = some v → ∃ r, l[i]? = some r ∧ RowB H v r
  | _, _, 0, _, .cons a _, e => by cases e; exact ⟨_, rfl, a⟩
  | _, _, i + 1, _, .cons _ t, e => RowsB.get (i := i) t e
theorem RowsB.append {H : Hp} : ∀ {xs ys : List V} {l m : List (Str × Bool)}, RowsB H xs l → RowsB H ys m → RowsB H (xs ++ ys) (l ++ m)
  | _, _, _, _, .nil, h => h
  | _, _, _, _, .cons a t, h => .cons a (RowsB.append t h)
theorem RowsB.len {H : Hp} {xs : List V} {l : List (Str × Bool)} (h : RowsB H xs l) : xs.length = l.length := Paired.length h
def RdB (a c : Addr) (fs : List (Str × V)) (σ : L2.St) (ta : TA) (l : List (Str × Bool)) : Prop := ∀ (H : Hp) (Q : List V → Hp → Prop), ExcAt H a c fs → (∀ H' xs, Same H H' → RowsB H' xs l → Q xs H') → ta σ H Q
section
variable {K : PySem.W.Frag} {a c D : Addr} {fs : List (Str × V)} {σ : L2.St} {ta : TA} {l l2 : List (Str × Bool)} {w : Str} {b : Bool}
theorem bd_nil : RdB a c fs σ tNil [] := fun H _ _ q => q H [] (Same.refl H) .nil
theorem bd_cons (hσ : σ[0]? = some (some (.ref a))) (T : ExcC K c) (hk : PySem.W.kitOne K (.ref c) (.ref D) = some b) (hr : RdB a c fs σ ta l) :
    RdB a c fs σ (tCons (tTup (tCons (tC (.str w)) (tCons (tCB (rIsX K) (tCons (tVar 0) (tCons (tC (.ref D)) tNil))) tNil))) ta) ((w, b) :: l) := fun H Q ea q => by
  refine ⟨_, hσ, a, c, fs, .ref D, .ref D, b, rfl, .own D, T, ea, hk, Nat.le_of_ble_eq_true rfl, fun p hp => ?_⟩
  have s := same_new (o := .tup [V.str w, .bl b]) hp
  exact hr _ _ (ea.same s) fun H2 xs s2 r2 => q H2 (.ref p :: xs) (s.trans s2) (.cons ⟨p, rfl, s2 _ _ upd_same⟩ r2)
theorem bd_lst {H : Hp} {Q : VK} (hr : RdB a c fs σ ta l) (ea : ExcAt H a c fs) (hl : l.length ≤ 100) (k : ∀ H' p xs, H p = none → H' p = some (.lst xs) → RowsB H' xs l → Same H H' → Q (.ref p) H') : tLst ta σ H Q :=
  hr H _ ea fun H1 xs s1 r1 => ⟨Nat.le_trans (Nat.le_trans (Nat.le_of_eq r1.len) hl) (Nat.le_of_ble_eq_true rfl), fun p hp => k _ p xs (s1.free hp) upd_same (r1.same (same_new hp)) (s1.trans (same_new hp))⟩
theorem bd_cat {H : Hp} {Q : VK} {p : Addr} {xs : List V} (hσ : σ[1]? = some (some (.ref p))) (hp : H p = some (.lst xs)) (hx : RowsB H xs l) (hr : RdB a c fs σ ta l2) (ea : ExcAt H a c fs) (hl : l.length + l2.length ≤ 100)
    (k : ∀ H' p' xs', H' p' = some (.lst xs') → RowsB H' xs' (l ++ l2) → Same H H' → Q (.ref p') H') : tOp rCat (tVar 1) (tLst ta) σ H Q := by
  refine ⟨_, hσ, bd_lst hr ea (by omega) fun H1 p1 xs1 n1 h1 r1 s1 => ⟨p, p1, xs, xs1, rfl, rfl, s1 _ _ hp, h1, ?_, fun p2 hp2 => ?_⟩⟩
  · rw [hx.len, r1.len]
    exact Nat.le_trans hl (Nat.le_of_ble_eq_true rfl)
  · exact k _ p2 _ upd_same (((hx.same s1).append r1).same (same_new hp2)) (s1.trans (same_new hp2))
theorem bd_firstS {rest : TS} {Dn : Ends} {H : Hp} (hr : RdB a c fs σ ta l) (ea : ExcAt H a c fs) (hl : l.length ≤ 100) (k : ∀ H' p xs, H' p = some (.lst xs) → RowsB H' xs l → Same H H' → rest Dn (σ.set 1 (some (.ref p))) H') : tSeq (tAsg (tLst ta) (gName 1)) rest Dn σ H := by
  show tLst ta σ H (fun x H1 => rest Dn (σ.set 1 (some x)) H1)
  exact bd_lst hr ea hl fun H' p xs _ h r s => k H' p xs h r s
theorem bd_catS {rest : TS} {Dn : Ends} {H : Hp} {p : Addr} {xs : List V} (hσ : σ[1]? = some (some (.ref p))) (hp : H p = some (.lst xs)) (hx : RowsB H xs l) (hr : RdB a c fs σ ta l2) (ea : ExcAt H a c fs) (hl : l.length + l2.length ≤ 100)
    (k : ∀ H' p' xs', H' p' = some (.lst xs') → RowsB H' xs' (l ++ l2) → Same H H' → rest Dn (σ.set 1 (some (.ref p'))) H') : tSeq (tAsg (tOp rCat (tVar 1) (tLst ta)) (gName 1)) rest Dn σ H := by
  show tOp rCat (tVar 1) (tLst ta) σ H (fun x H1 => rest Dn (σ.set 1 (some x)) H1)
  exact bd_cat hσ hp hx hr ea hl k
end
/-! ### what is asked of the written part -/
def KwTx (st : Stmt) (qual : Str) (fs ks : List Str) (g : List Value → List Value → List Value) : Prop := ∀ (cc cda : Addr) (doc pm ct : Value) (us ws : List Value), us.length = 1 → ws.length = ks.length →
  bindArgs (PySem.W.fnX "__init__" qual (defArgs st) (defBody st) (defScope st) [("__class__", cc)] .none .none doc pm none (.ref cda) ct) ⟨us, ks.zip ws⟩ = pure ((("self" : Str) :: fs).zip (g us ws))
def excB (K : PySem.W.Frag) (D : Addr) : Bool := findB K D "__getattribute__" (some (.builtin "BaseException.__getattribute__")) && (findB K D "__getattr__" none && (decide (PySem.W.subIn K (.ref D) (.type "BaseException") = some true) && (PySem.W.hasDictIn K D &&
  (findB K D "__class__" (some (.builtin "object.__class__")) && (decide (PySem.W.specialIn K (.builtin "object.__class__") "__get__" = some (some (.builtin "getset_descriptor.__get__"))) && (decide (PySem.W.takesIn K (.builtin "object.__class__") = some true) && decide (PySem.W.mroIn K D (.type "object") = some true)))))))
theorem excB_ok {K : PySem.W.Frag} {D : Addr} (q : excB K D = true) : ExcC K D := by
  unfold excB at q
  obtain ⟨q1, q⟩ := Bool.and_eq_true_iff.mp q
  obtain ⟨q2, q⟩ := Bool.and_eq_true_iff.mp q
  obtain ⟨q3, q⟩ := Bool.and_eq_true_iff.mp q
  obtain ⟨q4, q⟩ := Bool.and_eq_true_iff.mp q
  obtain ⟨q5, q⟩ := Bool.and_eq_true_iff.mp q
  obtain ⟨q6, q⟩ := Bool.and_eq_true_iff.mp q
  obtain ⟨q7, q8⟩ := Bool.and_eq_true_iff.mp q
  exact ⟨of_decide_eq_true q1, of_decide_eq_true q2, of_decide_eq_true q3, q4, of_decide_eq_true q5, of_decide_eq_true q6, of_decide_eq_true q7, of_decide_eq_true q8⟩
section
variable {P : Program} {w : World} {K : PySem.W.Frag} {mg : Str → Option Value} {base h : Heap} {C fI cc cda : Addr} {x qual f g : Str} {st : Stmt} {oc doc pm ct : Value} {od : Option Addr} {osl : Array (Option Value)}
theorem vals_app {vs zs : List V} {us ws : List Value} (r : Vals vs us) (rz : Vals zs ws) : Vals (vs ++ zs) (us ++ ws) := r.append rz
theorem vals_snoc : ∀ {vs : List V} {us : List Value} {v : V} {u : Value}, Vals vs us → RelV v u → Vals (vs ++ [v]) (us ++ [u])
  | _, _, _, _, .nil, r => .cons r .nil
  | _, _, _, _, .cons a t, r => .cons a (vals_snoc t r)
theorem vals_rev : ∀ {zs : List V} {ws : List Value}, Vals zs ws → Vals zs.reverse ws.reverse
  | _, _, .nil => .nil
  | _, _, .cons a t => by
    rw [List.reverse_cons, List.reverse_cons]
    exact vals_snoc (vals_rev t) a
theorem own_v0 (X : K.In h) (G : h.Ns mainGlobals mg) (Tx : ErrTx st qual []) (Tk : KwTx st qual [] [] (fun us ws => us ++ ws)) (a : PySem.W.nsIn K mainGlobals x = some (some (.ref C)))
    (l : K.lookup fI = some ⟨oc, od, .func (PySem.W.fnX "__init__" qual (defArgs st) (defBody st) (defScope st) [("__class__", cc)] .none .none doc pm none (.ref cda) ct), osl⟩) (c : PySem.W.codeIn K (.ref cda) qual = true)
    (b : errB P K C fI cc cda [] = true) (v : excB K C = true) : OwnV0 P w K mg base x C :=
  have E := errB_ok b
  ⟨E.sup.ox, E.xf, excB_ok v, PySem.W.mg_of X G a, E.nof, _, _, E.ini, E.tI, err_fn0 E.sup Tx l c, .all fun us hl => Tx.bind _ _ _ _ _ us hl, ⟨fun s us ws _ l1 l2 => .of_eq (Tk _ _ _ _ _ us ws l1 l2), vals_app⟩⟩
theorem own_v1 (X : K.In h) (G : h.Ns mainGlobals mg) (Tx : ErrTx st qual [f]) (Tk : KwTx st qual [f] [f] (fun us ws => us ++ ws)) (a : PySem.W.nsIn K mainGlobals x = some (some (.ref C)))
    (l : K.lookup fI = some ⟨oc, od, .func (PySem.W.fnX "__init__" qual (defArgs st) (defBody st) (defScope st) [("__class__", cc)] .none .none doc pm none (.ref cda) ct), osl⟩) (c : PySem.W.codeIn K (.ref cda) qual = true)
    (b : errB P K C fI cc cda [f] = true) (v : excB K C = true) : OwnV1 P w K mg base x f C :=
  have E := errB_ok b
  ⟨E.sup.ox, E.xf, excB_ok v, PySem.W.mg_of X G a, E.nof, _, _, E.ini, E.tI, err_fn1 E.sup Tx (E.nof _ (.head _)) l c, .all fun us hl => Tx.bind _ _ _ _ _ us hl, ⟨fun s us ws _ l1 l2 => .of_eq (Tk _ _ _ _ _ us ws l1 l2), vals_app⟩⟩
theorem own_v2 (X : K.In h) (G : h.Ns mainGlobals mg) (Tx : ErrTx st qual [f, g]) (Tk : KwTx st qual [f, g] [g, f] (fun us ws => us ++ ws.reverse)) (a : PySem.W.nsIn K mainGlobals x = some (some (.ref C)))
    (l : K.lookup fI = some ⟨oc, od, .func (PySem.W.fnX "__init__" qual (defArgs st) (defBody st) (defScope st) [("__class__", cc)] .none .none doc pm none (.ref cda) ct), osl⟩) (c : PySem.W.codeIn K (.ref cda) qual = true)
    (b : errB P K C fI cc cda [f, g] = true) (v : excB K C = true) : OwnV2 P w K mg base x f g C :=
  have E := errB_ok b
  ⟨E.sup.ox, E.xf, excB_ok v, PySem.W.mg_of X G a, E.nof, _, _, E.ini, E.tI, err_fn2 E.sup Tx (E.nof _ (.head _)) (E.nof _ (.tail _ (.head _))) l c, .all fun us hl => Tx.bind _ _ _ _ _ us hl, ⟨fun s us ws _ l1 l2 => .of_eq (Tk _ _ _ _ _ us ws l1 l2), fun r rz => vals_app r (vals_rev rz)⟩⟩
end
end Ls
namespace Ls
open PySem PySem.Spec PyProof.Rows L2
/-! ### short steps -/
local macro_rules | `(tactic| walk_at "ls_ne") => `(tactic| first | assumption | exact Ne.symm (by assumption) | exact ne_of_none (by assumption) (by assumption) | exact Ne.symm (ne_of_none (by assumption) (by assumption)))
local macro_rules | `(tactic| walk_at "ls_hp") => `(tactic| first
  | with_reducible assumption
  | exact upd_same
  | exact Eq.trans (upd_ne (by walk_at "ls_ne")) (by walk_at "ls_hp"))
local macro_rules | `(tactic| walk_at "ls_st") => `(tactic| first
  | with_reducible assumption
  | exact Stm.upd (by walk_at "ls_st") (by first | walk_at "ls_ne" | exact (Stm.noneS (by assumption) (by assumption)).1) (by first | walk_at "ls_ne" | exact (Stm.noneS (by assumption) (by assumption)).2))
local macro_rules | `(tactic| walk_at "ls1") => `(tactic| first
  | refine ⟨_, rfl, ?_⟩
  | refine ⟨_, _, rfl, rfl, ?_⟩
  | refine ⟨_, _, _, _, rfl, rfl, .inl (.inl (by walk_at "ls_hp")), rfl, ?_⟩
  | refine ⟨_, _, _, _, rfl, rfl, (by walk_at "ls_hp"), rfl, ?_⟩
  | refine ⟨rfl, _, rfl, ?_⟩
  | refine ⟨.inl ⟨rfl, _, .inl (.inl (by walk_at "ls_hp"))⟩, ?_⟩)
local macro_rules | `(tactic| walk_at "ls") => `(tactic| repeat (walk_at "ls1"))

/-! ### the errors of the package: their names and fields, in the law's order -/
def nmX : List (Str × List Str) := [("BadName", ["name"]), ("NameInUse", ["name"]), ("UnknownKind", ["kind"]), ("UnknownColumn", ["column"]), ("BadRule", ["rule"]), ("UnknownCheck", ["check"]), ("UnlikeBooks", []), ("BadNumber", ["number"]), ("Taken", ["kind", "number"]), ("Used", ["kind", "number"]), ("NoRow", ["kind", "number"]), ("OwnOwner", ["column"]), ("Refused", ["check"]), ("NotOpen", ["kind"]), ("Busy", ["hand"]), ("Idle", ["hand"]), ("BadPiece", ["piece"]), ("BadList", ["numbers"]), ("NoFit", ["number"]), ("BadQuestion", ["question"]), ("BadDeed", []), ("BadWeaving", ["index"]), ("NothingToUndo", []), ("NothingToRedo", []), ("BadLine", ["index"])]
def valsX (a b : V) : List Str → List (Str × V)
  | [] => []
  | [f] => [(f, a)]
  | f :: g :: _ => [(g, b), (f, a)]
def rowX (C : Nat → Addr) (a b : V) (i : Nat) (p : Str × List Str) : XRow := (p.1, p.2, C i, valsX a b p.2)
def rowsX (C : Nat → Addr) (a b : V) (k : Nat) (l : List (Str × List Str)) : List XRow := l.mapIdx fun i p => rowX C a b (k + i) p
section
variable {P : Program} {w : World} {K : PySem.W.Frag} {mg : Str → Option Value} {base : Heap}
abbrev s__law_first_half : Stmt := topS 32
theorem sc__law_first_half : FnScope ["_law_a", "_law_b"] ["_law_a", "_law_b"] (defScope s__law_first_half) := ⟨rfl, rfl, rfl, by decide +kernel, rfl, by decide +kernel, by decide +kernel⟩
abbrev N__law_first_half : List Str := ["_law_a", "_law_b"]
def spFirst (C : Nat → Addr) : Sp := fun vs H Q _ => ∃ (a b : V), vs = [a, b] ∧ ∀ (H' : Hp) (p : Addr) (xs : List V), H p = none → H' p = some (.lst xs) → RowsX H' xs (rowsX C a b 0 (nmX.take 13)) → Same H H' → Q (.ref p) H'
theorem ok_law_first_half {C : Nat → Addr} {f : Addr} {fd : FuncData} (F : Fun K "_law_first_half" "_law_first_half" s__law_first_half f fd)
    (O_BadName : OwnV1 P w K mg base "BadName" "name" (C 0))
    (O_NameInUse : OwnV1 P w K mg base "NameInUse" "name" (C 1))
    (O_UnknownKind : OwnV1 P w K mg base "UnknownKind" "kind" (C 2))
    (O_UnknownColumn : OwnV1 P w K mg base "UnknownColumn" "column" (C 3))
    (O_BadRule : OwnV1 P w K mg base "BadRule" "rule" (C 4))
    (O_UnknownCheck : OwnV1 P w K mg base "UnknownCheck" "check" (C 5))
    (O_UnlikeBooks : OwnV0 P w K mg base "UnlikeBooks" (C 6))
    (O_BadNumber : OwnV1 P w K mg base "BadNumber" "number" (C 7))
    (O_Taken : OwnV2 P w K mg base "Taken" "kind" "number" (C 8))
    (O_Used : OwnV2 P w K mg base "Used" "kind" "number" (C 9))
    (O_NoRow : OwnV2 P w K mg base "NoRow" "kind" "number" (C 10))
    (O_OwnOwner : OwnV1 P w K mg base "OwnOwner" "column" (C 11))
    (O_Refused : OwnV1 P w K mg base "Refused" "check" (C 12)) : FnOk P w K mg base CX0 3 f fd ["_law_a", "_law_b"] (spFirst C) := by
  refine F.ok sc__law_first_half (fun vs H Q E h => ?_) (fun cdv A outer s H vs Q E hr h => ?_)
  · obtain ⟨a, b, rfl, _⟩ := h
    rfl
  · obtain ⟨a, b, rfl, q⟩ := h
    have hu := hu_of hr
    refine ⟨_, (pss_one (ps_ret (pe_lst (pa_cons (pe_tup (pa_cons pe_str (pa_cons (pe_lst (pa_cons pe_str pa_nil)) (pa_cons (pe_new1 O_BadName (hr.mono (by omega)) (pa_cons (pv 0) pa_nil)) (pa_cons (pe_newK1 O_BadName (hr.mono (by omega)) (pk_cons (pv 0) pk_nil)) pa_nil))))) (pa_cons (pe_tup (pa_cons pe_str (pa_cons (pe_lst (pa_cons pe_str pa_nil)) (pa_cons (pe_new1 O_NameInUse (hr.mono (by omega)) (pa_cons (pv 0) pa_nil)) (pa_cons (pe_newK1 O_NameInUse (hr.mono (by omega)) (pk_cons (pv 0) pk_nil)) pa_nil))))) (pa_cons (pe_tup (pa_cons pe_str (pa_cons (pe_lst (pa_cons pe_str pa_nil)) (pa_cons (pe_new1 O_UnknownKind (hr.mono (by omega)) (pa_cons (pv 0) pa_nil)) (pa_cons (pe_newK1 O_UnknownKind (hr.mono (by omega)) (pk_cons (pv 0) pk_nil)) pa_nil))))) (pa_cons (pe_tup (pa_cons pe_str (pa_cons (pe_lst (pa_cons pe_str pa_nil)) (pa_cons (pe_new1 O_UnknownColumn (hr.mono (by omega)) (pa_cons (pv 0) pa_nil)) (pa_cons (pe_newK1 O_UnknownColumn (hr.mono (by omega)) (pk_cons (pv 0) pk_nil)) pa_nil))))) (pa_cons (pe_tup (pa_cons pe_str (pa_cons (pe_lst (pa_cons pe_str pa_nil)) (pa_cons (pe_new1 O_BadRule (hr.mono (by omega)) (pa_cons (pv 0) pa_nil)) (pa_cons (pe_newK1 O_BadRule (hr.mono (by omega)) (pk_cons (pv 0) pk_nil)) pa_nil))))) (pa_cons (pe_tup (pa_cons pe_str (pa_cons (pe_lst (pa_cons pe_str pa_nil)) (pa_cons (pe_new1 O_UnknownCheck (hr.mono (by omega)) (pa_cons (pv 0) pa_nil)) (pa_cons (pe_newK1 O_UnknownCheck (hr.mono (by omega)) (pk_cons (pv 0) pk_nil)) pa_nil))))) (pa_cons (pe_tup (pa_cons pe_str (pa_cons (pe_lst pa_nil) (pa_cons (pe_new0 O_UnlikeBooks (hr.mono (by omega))) (pa_cons (pe_new0 O_UnlikeBooks (hr.mono (by omega))) pa_nil))))) (pa_cons (pe_tup (pa_cons pe_str (pa_cons (pe_lst (pa_cons pe_str pa_nil)) (pa_cons (pe_new1 O_BadNumber (hr.mono (by omega)) (pa_cons (pv 0) pa_nil)) (pa_cons (pe_newK1 O_BadNumber (hr.mono (by omega)) (pk_cons (pv 0) pk_nil)) pa_nil))))) (pa_cons (pe_tup (pa_cons pe_str (pa_cons (pe_lst (pa_cons pe_str (pa_cons pe_str pa_nil))) (pa_cons (pe_new2 O_Taken (hr.mono (by omega)) (pa_cons (pv 0) (pa_cons (pv 1) pa_nil))) (pa_cons (pe_newKR O_Taken (hr.mono (by omega)) (pk_cons (pv 1) (pk_cons (pv 0) pk_nil))) pa_nil))))) (pa_cons (pe_tup (pa_cons pe_str (pa_cons (pe_lst (pa_cons pe_str (pa_cons pe_str pa_nil))) (pa_cons (pe_new2 O_Used (hr.mono (by omega)) (pa_cons (pv 0) (pa_cons (pv 1) pa_nil))) (pa_cons (pe_newKR O_Used (hr.mono (by omega)) (pk_cons (pv 1) (pk_cons (pv 0) pk_nil))) pa_nil))))) (pa_cons (pe_tup (pa_cons pe_str (pa_cons (pe_lst (pa_cons pe_str (pa_cons pe_str pa_nil))) (pa_cons (pe_new2 O_NoRow (hr.mono (by omega)) (pa_cons (pv 0) (pa_cons (pv 1) pa_nil))) (pa_cons (pe_newKR O_NoRow (hr.mono (by omega)) (pk_cons (pv 1) (pk_cons (pv 0) pk_nil))) pa_nil))))) (pa_cons (pe_tup (pa_cons pe_str (pa_cons (pe_lst (pa_cons pe_str pa_nil)) (pa_cons (pe_new1 O_OwnOwner (hr.mono (by omega)) (pa_cons (pv 0) pa_nil)) (pa_cons (pe_newK1 O_OwnOwner (hr.mono (by omega)) (pk_cons (pv 0) pk_nil)) pa_nil))))) (pa_cons (pe_tup (pa_cons pe_str (pa_cons (pe_lst (pa_cons pe_str pa_nil)) (pa_cons (pe_new1 O_Refused (hr.mono (by omega)) (pa_cons (pv 0) pa_nil)) (pa_cons (pe_newK1 O_Refused (hr.mono (by omega)) (pk_cons (pv 0) pk_nil)) pa_nil))))) pa_nil)))))))))))))))), ?_⟩
    show tLst _ _ _ _
    refine rd_lst (rs := rowsX C a b 0 (nmX.take 13)) ?_ (by show 13 ≤ 100; decide) (fun H' p xs hp h r s => q H' p xs hp h r s)
    exact (rd_cons (rd_row rd_f1 (rd_n1 (i := 0) rfl) (rd_n1 (i := 0) rfl)) (rd_cons (rd_row rd_f1 (rd_n1 (i := 0) rfl) (rd_n1 (i := 0) rfl)) (rd_cons (rd_row rd_f1 (rd_n1 (i := 0) rfl) (rd_n1 (i := 0) rfl)) (rd_cons (rd_row rd_f1 (rd_n1 (i := 0) rfl) (rd_n1 (i := 0) rfl)) (rd_cons (rd_row rd_f1 (rd_n1 (i := 0) rfl) (rd_n1 (i := 0) rfl)) (rd_cons (rd_row rd_f1 (rd_n1 (i := 0) rfl) (rd_n1 (i := 0) rfl)) (rd_cons (rd_row rd_f0 rd_n0 rd_n0) (rd_cons (rd_row rd_f1 (rd_n1 (i := 0) rfl) (rd_n1 (i := 0) rfl)) (rd_cons (rd_row rd_f2 (rd_n2 (i := 0) (j := 1) rfl rfl) (rd_nR (i := 0) (j := 1) rfl rfl)) (rd_cons (rd_row rd_f2 (rd_n2 (i := 0) (j := 1) rfl rfl) (rd_nR (i := 0) (j := 1) rfl rfl)) (rd_cons (rd_row rd_f2 (rd_n2 (i := 0) (j := 1) rfl rfl) (rd_nR (i := 0) (j := 1) rfl rfl)) (rd_cons (rd_row rd_f1 (rd_n1 (i := 0) rfl) (rd_n1 (i := 0) rfl)) (rd_cons (rd_row rd_f1 (rd_n1 (i := 0) rfl) (rd_n1 (i := 0) rfl)) rd_nil)))))))))))))
abbrev s__law_other_half : Stmt := topS 33
theorem sc__law_other_half : FnScope ["_law_a"] ["_law_a"] (defScope s__law_other_half) := ⟨rfl, rfl, rfl, by decide +kernel, rfl, by decide +kernel, by decide +kernel⟩
abbrev N__law_other_half : List Str := ["_law_a"]
def spOther (C : Nat → Addr) : Sp := fun vs H Q _ => ∃ (a b : V), vs = [a] ∧ ∀ (H' : Hp) (p : Addr) (xs : List V), H p = none → H' p = some (.lst xs) → RowsX H' xs (rowsX C a b 13 (nmX.drop 13)) → Same H H' → Q (.ref p) H'
theorem ok_law_other_half {C : Nat → Addr} {f : Addr} {fd : FuncData} (F : Fun K "_law_other_half" "_law_other_half" s__law_other_half f fd)
    (O_NotOpen : OwnV1 P w K mg base "NotOpen" "kind" (C 13))
    (O_Busy : OwnV1 P w K mg base "Busy" "hand" (C 14))
    (O_Idle : OwnV1 P w K mg base "Idle" "hand" (C 15))
    (O_BadPiece : OwnV1 P w K mg base "BadPiece" "piece" (C 16))
    (O_BadList : OwnV1 P w K mg base "BadList" "numbers" (C 17))
    (O_NoFit : OwnV1 P w K mg base "NoFit" "number" (C 18))
    (O_BadQuestion : OwnV1 P w K mg base "BadQuestion" "question" (C 19))
    (O_BadDeed : OwnV0 P w K mg base "BadDeed" (C 20))
    (O_BadWeaving : OwnV1 P w K mg base "BadWeaving" "index" (C 21))
    (O_NothingToUndo : OwnV0 P w K mg base "NothingToUndo" (C 22))
    (O_NothingToRedo : OwnV0 P w K mg base "NothingToRedo" (C 23))
    (O_BadLine : OwnV1 P w K mg base "BadLine" "index" (C 24)) : FnOk P w K mg base CX0 3 f fd ["_law_a"] (spOther C) := by
  refine F.ok sc__law_other_half (fun vs H Q E h => ?_) (fun cdv A outer s H vs Q E hr h => ?_)
  · obtain ⟨a, b, rfl, _⟩ := h
    rfl
  · obtain ⟨a, b, rfl, q⟩ := h
    have hu := hu_of hr
    refine ⟨_, (pss_one (ps_ret (pe_lst (pa_cons (pe_tup (pa_cons pe_str (pa_cons (pe_lst (pa_cons pe_str pa_nil)) (pa_cons (pe_new1 O_NotOpen (hr.mono (by omega)) (pa_cons (pv 0) pa_nil)) (pa_cons (pe_newK1 O_NotOpen (hr.mono (by omega)) (pk_cons (pv 0) pk_nil)) pa_nil))))) (pa_cons (pe_tup (pa_cons pe_str (pa_cons (pe_lst (pa_cons pe_str pa_nil)) (pa_cons (pe_new1 O_Busy (hr.mono (by omega)) (pa_cons (pv 0) pa_nil)) (pa_cons (pe_newK1 O_Busy (hr.mono (by omega)) (pk_cons (pv 0) pk_nil)) pa_nil))))) (pa_cons (pe_tup (pa_cons pe_str (pa_cons (pe_lst (pa_cons pe_str pa_nil)) (pa_cons (pe_new1 O_Idle (hr.mono (by omega)) (pa_cons (pv 0) pa_nil)) (pa_cons (pe_newK1 O_Idle (hr.mono (by omega)) (pk_cons (pv 0) pk_nil)) pa_nil))))) (pa_cons (pe_tup (pa_cons pe_str (pa_cons (pe_lst (pa_cons pe_str pa_nil)) (pa_cons (pe_new1 O_BadPiece (hr.mono (by omega)) (pa_cons (pv 0) pa_nil)) (pa_cons (pe_newK1 O_BadPiece (hr.mono (by omega)) (pk_cons (pv 0) pk_nil)) pa_nil))))) (pa_cons (pe_tup (pa_cons pe_str (pa_cons (pe_lst (pa_cons pe_str pa_nil)) (pa_cons (pe_new1 O_BadList (hr.mono (by omega)) (pa_cons (pv 0) pa_nil)) (pa_cons (pe_newK1 O_BadList (hr.mono (by omega)) (pk_cons (pv 0) pk_nil)) pa_nil))))) (pa_cons (pe_tup (pa_cons pe_str (pa_cons (pe_lst (pa_cons pe_str pa_nil)) (pa_cons (pe_new1 O_NoFit (hr.mono (by omega)) (pa_cons (pv 0) pa_nil)) (pa_cons (pe_newK1 O_NoFit (hr.mono (by omega)) (pk_cons (pv 0) pk_nil)) pa_nil))))) (pa_cons (pe_tup (pa_cons pe_str (pa_cons (pe_lst (pa_cons pe_str pa_nil)) (pa_cons (pe_new1 O_BadQuestion (hr.mono (by omega)) (pa_cons (pv 0) pa_nil)) (pa_cons (pe_newK1 O_BadQuestion (hr.mono (by omega)) (pk_cons (pv 0) pk_nil)) pa_nil))))) (pa_cons (pe_tup (pa_cons pe_str (pa_cons (pe_lst pa_nil) (pa_cons (pe_new0 O_BadDeed (hr.mono (by omega))) (pa_cons (pe_new0 O_BadDeed (hr.mono (by omega))) pa_nil))))) (pa_cons (pe_tup (pa_cons pe_str (pa_cons (pe_lst (pa_cons pe_str pa_nil)) (pa_cons (pe_new1 O_BadWeaving (hr.mono (by omega)) (pa_cons (pv 0) pa_nil)) (pa_cons (pe_newK1 O_BadWeaving (hr.mono (by omega)) (pk_cons (pv 0) pk_nil)) pa_nil))))) (pa_cons (pe_tup (pa_cons pe_str (pa_cons (pe_lst pa_nil) (pa_cons (pe_new0 O_NothingToUndo (hr.mono (by omega))) (pa_cons (pe_new0 O_NothingToUndo (hr.mono (by omega))) pa_nil))))) (pa_cons (pe_tup (pa_cons pe_str (pa_cons (pe_lst pa_nil) (pa_cons (pe_new0 O_NothingToRedo (hr.mono (by omega))) (pa_cons (pe_new0 O_NothingToRedo (hr.mono (by omega))) pa_nil))))) (pa_cons (pe_tup (pa_cons pe_str (pa_cons (pe_lst (pa_cons pe_str pa_nil)) (pa_cons (pe_new1 O_BadLine (hr.mono (by omega)) (pa_cons (pv 0) pa_nil)) (pa_cons (pe_newK1 O_BadLine (hr.mono (by omega)) (pk_cons (pv 0) pk_nil)) pa_nil))))) pa_nil))))))))))))))), ?_⟩
    show tLst _ _ _ _
    refine rd_lst (rs := rowsX C a b 13 (nmX.drop 13)) ?_ (by show 12 ≤ 100; decide) (fun H' p xs hp h r s => q H' p xs hp h r s)
    exact (rd_cons (rd_row rd_f1 (rd_n1 (i := 0) rfl) (rd_n1 (i := 0) rfl)) (rd_cons (rd_row rd_f1 (rd_n1 (i := 0) rfl) (rd_n1 (i := 0) rfl)) (rd_cons (rd_row rd_f1 (rd_n1 (i := 0) rfl) (rd_n1 (i := 0) rfl)) (rd_cons (rd_row rd_f1 (rd_n1 (i := 0) rfl) (rd_n1 (i := 0) rfl)) (rd_cons (rd_row rd_f1 (rd_n1 (i := 0) rfl) (rd_n1 (i := 0) rfl)) (rd_cons (rd_row rd_f1 (rd_n1 (i := 0) rfl) (rd_n1 (i := 0) rfl)) (rd_cons (rd_row rd_f1 (rd_n1 (i := 0) rfl) (rd_n1 (i := 0) rfl)) (rd_cons (rd_row rd_f0 rd_n0 rd_n0) (rd_cons (rd_row rd_f1 (rd_n1 (i := 0) rfl) (rd_n1 (i := 0) rfl)) (rd_cons (rd_row rd_f0 rd_n0 rd_n0) (rd_cons (rd_row rd_f0 rd_n0 rd_n0) (rd_cons (rd_row rd_f1 (rd_n1 (i := 0) rfl) (rd_n1 (i := 0) rfl)) rd_nil))))))))))))
end
end Ls
namespace Ls
open PySem PySem.Spec PyProof.Rows L2
/-! ### comprehensions over rows of things -/
section
variable {J : It} {n : Nat} {G : Hp → Prop} {Y : Nat → Hp → V → Hp → Prop} {α : Type}
def madeR (l : List α) (f : α → Option V) (i : Nat) : List V := (l.take i).filterMap f
theorem madeR_yes {l : List α} {f : α → Option V} {i : Nat} {a : α} {y : V} (ha : l[i]? = some a) (hf : f a = some y) : madeR l f (i + 1) = madeR l f i ++ [y] := by
  unfold madeR
  rw [List.take_add_one, ha, List.filterMap_append]
  simp [hf]
theorem madeR_no {l : List α} {f : α → Option V} {i : Nat} {a : α} (ha : l[i]? = some a) (hf : f a = none) : madeR l f (i + 1) = madeR l f i := by
  unfold madeR
  rw [List.take_add_one, ha, List.filterMap_append]
  simp [hf]
theorem madeR_len (l : List α) (f : α → Option V) (i : Nat) : (madeR l f i).length ≤ i := by
  unfold madeR
  exact Nat.le_trans (List.length_filterMap_le _ _) (by rw [List.length_take]; exact Nat.min_le_left _ _)
/-- a comprehension whose turns leave the heap as it is; each item stands for a thing of l, f tells what it gives -/
theorem lc_rows (w : Walk J n G Y) (xs : List V) (l : List α) (f : α → Option V) (hn : l.length = n) (hY : ∀ i H x H', i < n → Y i H x H' → H' = H ∧ xs[i]? = some x) {g : TG} {tt : TT} {te : TE} {vs : List Nat} {σ : L2.St} {H1 : Hp} {D : Addr} {Qd : Hp → Prop}
    (hz : n < sizeLine) (hG : ∀ acc, G (upd H1 D (.lst acc)))
    (hs : ∀ i x a, i < n → xs[i]? = some x → l[i]? = some a → g x (wipe σ vs) (upd H1 D (.lst (madeR l f i))) fun σ2 H2 => wipe σ2 vs = wipe σ vs ∧ tt σ2 H2 fun b H3 =>
      if b = true then te σ2 H3 fun y H4 => ∃ acc, H4 D = some (.lst acc) ∧ acc.length < sizeLine ∧ upd H4 D (.lst (acc ++ [y])) = upd H1 D (.lst (madeR l f (i + 1))) else H3 = upd H1 D (.lst (madeR l f (i + 1))))
    (hd : Qd (upd H1 D (.lst (l.filterMap f)))) :
    ∃ W : Nat → Nat → Hp → Prop, (∃ m, W 0 m (upd H1 D (.lst []))) ∧ ∀ i m H, W i m H →
      (J.stop i H ∧ Qd H) ∨ (J.go i H ∧ ∃ Nx : Hp → Prop, (∀ H', Nx H' → ∃ m', m' < m ∧ W (i + 1) m' H') ∧ ∀ x H', J.yld i H x H' → g x (wipe σ vs) H' fun σ2 H2 => wipe σ2 vs = wipe σ vs ∧ tt σ2 H2 fun b H3 =>
        if b = true then te σ2 H3 fun y H4 => ∃ acc, H4 D = some (.lst acc) ∧ acc.length < sizeLine ∧ Nx (upd H4 D (.lst (acc ++ [y]))) else Nx H3) := by
  refine lc_it w (fun i H => H = upd H1 D (.lst (madeR l f i))) rfl (fun i H _ e => by rw [e]; exact hG _) (fun i x H H' hi e y => ?_) (fun H e => ?_)
  · obtain ⟨e2, hx⟩ := hY i H x H' hi y
    have hi2 : i < l.length := by omega
    rw [e2, e]
    exact hs i x l[i] hi hx (List.getElem?_eq_getElem hi2)
  · have : madeR l f n = l.filterMap f := by unfold madeR; rw [← hn, List.take_length]
    rw [e, this]
    exact hd
theorem lr_yes {l : List α} {f : α → Option V} {i : Nat} {a : α} {y : V} {H1 : Hp} {D : Addr} {n : Nat} (ha : l[i]? = some a) (hi : i < n) (hz : n < sizeLine) (hf : f a = some y) :
    ∃ acc, (upd H1 D (.lst (madeR l f i))) D = some (.lst acc) ∧ acc.length < sizeLine ∧ upd (upd H1 D (.lst (madeR l f i))) D (.lst (acc ++ [y])) = upd H1 D (.lst (madeR l f (i + 1))) :=
  ⟨_, upd_same, Nat.lt_of_le_of_lt (madeR_len _ _ _) (Nat.lt_trans hi hz), by rw [upd_upd, madeR_yes ha hf]⟩
theorem lr_no {l : List α} {f : α → Option V} {i : Nat} {a : α} {H1 : Hp} {D : Addr} (ha : l[i]? = some a) (hf : f a = none) : upd H1 D (.lst (madeR l f i)) = upd H1 D (.lst (madeR l f (i + 1))) := by rw [madeR_no ha hf]
end
/-- a choice whose value is known -/
theorem tIf_to {t : TT} {ta tb : TE} {σ : L2.St} {H : Hp} {Q : VK} (v : V) (h : ∀ Q' : VK, Q' v H → tIf t ta tb σ H Q') (hq : Q v H) : tIf t ta tb σ H Q := h Q hq
theorem set_go {i : Nat} {x : V} {σ : L2.St} {H : Hp} {Q : L2.St → Hp → Prop} (h : Q (σ.set i (some x)) H) : gName i x σ H Q := h
theorem seq_go {a b : TS} {D : Ends} {σ : L2.St} {H : Hp} (h : a { D with nx := b D } σ H) : tSeq a b D σ H := h
end Ls
namespace Ls
open PySem PySem.Spec PyProof.Rows L2
/-! ### short steps -/
local macro_rules | `(tactic| walk_at "ls_ne") => `(tactic| first | assumption | exact Ne.symm (by assumption) | exact ne_of_none (by assumption) (by assumption) | exact Ne.symm (ne_of_none (by assumption) (by assumption)))
local macro_rules | `(tactic| walk_at "ls_hp") => `(tactic| first
  | with_reducible assumption
  | exact upd_same
  | exact Eq.trans (upd_ne (by walk_at "ls_ne")) (by walk_at "ls_hp"))
local macro_rules | `(tactic| walk_at "ls_st") => `(tactic| first
  | with_reducible assumption
  | exact Stm.upd (by walk_at "ls_st") (by first | walk_at "ls_ne" | exact (Stm.noneS (by assumption) (by assumption)).1) (by first | walk_at "ls_ne" | exact (Stm.noneS (by assumption) (by assumption)).2))
local macro_rules | `(tactic| walk_at "ls1") => `(tactic| first
  | refine ⟨_, rfl, ?_⟩
  | refine ⟨_, _, rfl, rfl, ?_⟩
  | refine ⟨_, _, _, _, rfl, rfl, .inl (.inl (by walk_at "ls_hp")), rfl, ?_⟩
  | refine ⟨_, _, _, _, rfl, rfl, (by walk_at "ls_hp"), rfl, ?_⟩
  | refine ⟨rfl, _, rfl, ?_⟩
  | refine ⟨.inl ⟨rfl, _, .inl (.inl (by walk_at "ls_hp"))⟩, ?_⟩)
local macro_rules | `(tactic| walk_at "ls") => `(tactic| repeat (walk_at "ls1"))

def clsX (i : Nat) : List (Str × Bool) := [("BadName", decide (i = 0)), ("NameInUse", decide (i = 1)), ("UnknownKind", decide (i = 2)), ("UnknownColumn", decide (i = 3)), ("BadRule", decide (i = 4)), ("UnknownCheck", decide (i = 5)), ("UnlikeBooks", decide (i = 6)), ("BadNumber", decide (i = 7)), ("Taken", decide (i = 8)), ("Used", decide (i = 9)), ("NoRow", decide (i = 10)), ("OwnOwner", decide (i = 11)), ("Refused", decide (i = 12)), ("NotOpen", decide (i = 13)), ("Busy", decide (i = 14)), ("Idle", decide (i = 15)), ("BadPiece", decide (i = 16)), ("BadList", decide (i = 17)), ("NoFit", decide (i = 18)), ("BadQuestion", decide (i = 19)), ("BadDeed", decide (i = 20)), ("BadWeaving", decide (i = 21)), ("NothingToUndo", decide (i = 22)), ("NothingToRedo", decide (i = 23)), ("BadLine", decide (i = 24))]
theorem cls_names : ∀ i : Fin 25, ((clsX i.1).filter (·.2)).map (·.1) = [(nmX.getD i.1 ("", [])).1] := by decide +kernel
theorem cls_one {i : Nat} {p : Str × List Str} (h : nmX[i]? = some p) : (clsX i).filterMap (fun r => if r.2 = true then some (V.str r.1) else none) = [.str p.1] := by
  have hi : i < 25 := (List.getElem?_eq_some_iff.mp h).1
  have e := cls_names ⟨i, hi⟩
  have ep : nmX.getD i ("", []) = p := by rw [List.getD_eq_getElem?_getD, h]; rfl
  rw [show ((⟨i, hi⟩ : Fin 25) : Nat) = i from rfl, ep] at e
  have g : ∀ l : List (Str × Bool), l.filterMap (fun r => if r.2 = true then some (V.str r.1) else none) = ((l.filter (·.2)).map (·.1)).map V.str := by
    intro l
    induction l with
    | nil => rfl
    | cons a l ih =>
      rw [List.filterMap_cons, List.filter_cons]
      by_cases b : a.2 = true
      · rw [if_pos b, if_pos b, ih]
        rfl
      · rw [if_neg b, if_neg b, ih]
  rw [g, e]
  rfl
section
variable {P : Program} {w : World} {K : PySem.W.Frag} {mg : Str → Option Value} {base : Heap}
/-- what the written part says of the errors -/
structure ErrsK (K : PySem.W.Frag) (C : Nat → Addr) (CS : Addr) : Prop where
  xf : ∀ i, i < 25 → XfC K (C i)
  ic : ∀ i, i < 25 → ExcC K (C i)
  nof : ∀ i p, nmX[i]? = some p → ∀ f ∈ p.2, PySem.W.findIn K (.ref (C i)) f = some none
  kit : ∀ i, i < 25 → ∀ j, j < 25 → PySem.W.kitOne K (.ref (C i)) (.ref (C j)) = some (decide (i = j))
  sup : ∀ i, i < 25 → PySem.W.kitOne K (.ref (C i)) (.ref CS) = some true
  val : ∀ i, i < 25 → PySem.W.kitOne K (.ref (C i)) (.type "ValueError") = some true
abbrev s__law_classes : Stmt := topS 34
theorem sc__law_classes : FnScope ["_law_e", "_law_rows", "_law_word", "_law_fits"] ["_law_e"] (defScope s__law_classes) := ⟨rfl, rfl, rfl, by decide +kernel, rfl, by decide +kernel, by decide +kernel⟩
abbrev N__law_classes : List Str := ["_law_e", "_law_rows", "_law_word", "_law_fits"]
def spClasses (C : Nat → Addr) : Sp := fun vs H Q _ => ∃ (a : Addr) (i : Nat) (p : Str × List Str) (fs : List (Str × V)), vs = [.ref a] ∧ nmX[i]? = some p ∧ ExcAt H a (C i) fs ∧ ∀ (H' : Hp) (p' : Addr), H' p' = some (.lst [.str p.1]) → Same H H' → Q (.ref p') H'
theorem ok_classes {C : Nat → Addr} {CS : Addr} {f : Addr} {fd : FuncData} (F : Fun K "_law_classes" "_law_classes" s__law_classes f fd) (T : Bt mg) (EK : ErrsK K C CS)
    (gl_BadName : mg "BadName" = some (.ref (C 0))) (gl_NameInUse : mg "NameInUse" = some (.ref (C 1))) (gl_UnknownKind : mg "UnknownKind" = some (.ref (C 2))) (gl_UnknownColumn : mg "UnknownColumn" = some (.ref (C 3))) (gl_BadRule : mg "BadRule" = some (.ref (C 4))) (gl_UnknownCheck : mg "UnknownCheck" = some (.ref (C 5))) (gl_UnlikeBooks : mg "UnlikeBooks" = some (.ref (C 6))) (gl_BadNumber : mg "BadNumber" = some (.ref (C 7))) (gl_Taken : mg "Taken" = some (.ref (C 8))) (gl_Used : mg "Used" = some (.ref (C 9))) (gl_NoRow : mg "NoRow" = some (.ref (C 10))) (gl_OwnOwner : mg "OwnOwner" = some (.ref (C 11))) (gl_Refused : mg "Refused" = some (.ref (C 12)))
    (gl_NotOpen : mg "NotOpen" = some (.ref (C 13))) (gl_Busy : mg "Busy" = some (.ref (C 14))) (gl_Idle : mg "Idle" = some (.ref (C 15))) (gl_BadPiece : mg "BadPiece" = some (.ref (C 16))) (gl_BadList : mg "BadList" = some (.ref (C 17))) (gl_NoFit : mg "NoFit" = some (.ref (C 18))) (gl_BadQuestion : mg "BadQuestion" = some (.ref (C 19))) (gl_BadDeed : mg "BadDeed" = some (.ref (C 20))) (gl_BadWeaving : mg "BadWeaving" = some (.ref (C 21))) (gl_NothingToUndo : mg "NothingToUndo" = some (.ref (C 22))) (gl_NothingToRedo : mg "NothingToRedo" = some (.ref (C 23))) (gl_BadLine : mg "BadLine" = some (.ref (C 24))) :
    FnOk P w K mg base CX0 1 f fd ["_law_e"] (spClasses C) := by
  refine F.ok sc__law_classes (fun vs H Q E h => ?_) (fun cdv A outer s H vs Q E hr h => ?_)
  · obtain ⟨a, i, p, fs, rfl, _⟩ := h
    rfl
  · obtain ⟨a, i, p, fs, rfl, hp, ha, q⟩ := h
    have hu := hu_of hr
    refine ⟨_, (pss_cons (ps_set (i := 1) sc__law_classes.nd rfl (Or.inl rfl) (pe_lst (pa_cons (pe_tup (pa_cons pe_str (pa_cons (pe_callB call_isX (by rfl) T.m_isinstance (by decide +kernel) (pa_cons (pv 0) (pa_cons (glob_ref gl_BadName) pa_nil))) pa_nil))) (pa_cons (pe_tup (pa_cons pe_str (pa_cons (pe_callB call_isX (by rfl) T.m_isinstance (by decide +kernel) (pa_cons (pv 0) (pa_cons (glob_ref gl_NameInUse) pa_nil))) pa_nil))) pa_nil))))
      (pss_cons (ps_set (i := 1) sc__law_classes.nd rfl (Or.inl rfl) (pe_op op_cat (pv 1) (pe_lst (pa_cons (pe_tup (pa_cons pe_str (pa_cons (pe_callB call_isX (by rfl) T.m_isinstance (by decide +kernel) (pa_cons (pv 0) (pa_cons (glob_ref gl_UnknownKind) pa_nil))) pa_nil))) (pa_cons (pe_tup (pa_cons pe_str (pa_cons (pe_callB call_isX (by rfl) T.m_isinstance (by decide +kernel) (pa_cons (pv 0) (pa_cons (glob_ref gl_UnknownColumn) pa_nil))) pa_nil))) pa_nil)))))
      (pss_cons (ps_set (i := 1) sc__law_classes.nd rfl (Or.inl rfl) (pe_op op_cat (pv 1) (pe_lst (pa_cons (pe_tup (pa_cons pe_str (pa_cons (pe_callB call_isX (by rfl) T.m_isinstance (by decide +kernel) (pa_cons (pv 0) (pa_cons (glob_ref gl_BadRule) pa_nil))) pa_nil))) (pa_cons (pe_tup (pa_cons pe_str (pa_cons (pe_callB call_isX (by rfl) T.m_isinstance (by decide +kernel) (pa_cons (pv 0) (pa_cons (glob_ref gl_UnknownCheck) pa_nil))) pa_nil))) pa_nil)))))
      (pss_cons (ps_set (i := 1) sc__law_classes.nd rfl (Or.inl rfl) (pe_op op_cat (pv 1) (pe_lst (pa_cons (pe_tup (pa_cons pe_str (pa_cons (pe_callB call_isX (by rfl) T.m_isinstance (by decide +kernel) (pa_cons (pv 0) (pa_cons (glob_ref gl_UnlikeBooks) pa_nil))) pa_nil))) (pa_cons (pe_tup (pa_cons pe_str (pa_cons (pe_callB call_isX (by rfl) T.m_isinstance (by decide +kernel) (pa_cons (pv 0) (pa_cons (glob_ref gl_BadNumber) pa_nil))) pa_nil))) pa_nil)))))
      (pss_cons (ps_set (i := 1) sc__law_classes.nd rfl (Or.inl rfl) (pe_op op_cat (pv 1) (pe_lst (pa_cons (pe_tup (pa_cons pe_str (pa_cons (pe_callB call_isX (by rfl) T.m_isinstance (by decide +kernel) (pa_cons (pv 0) (pa_cons (glob_ref gl_Taken) pa_nil))) pa_nil))) (pa_cons (pe_tup (pa_cons pe_str (pa_cons (pe_callB call_isX (by rfl) T.m_isinstance (by decide +kernel) (pa_cons (pv 0) (pa_cons (glob_ref gl_Used) pa_nil))) pa_nil))) (pa_cons (pe_tup (pa_cons pe_str (pa_cons (pe_callB call_isX (by rfl) T.m_isinstance (by decide +kernel) (pa_cons (pv 0) (pa_cons (glob_ref gl_NoRow) pa_nil))) pa_nil))) pa_nil))))))
      (pss_cons (ps_set (i := 1) sc__law_classes.nd rfl (Or.inl rfl) (pe_op op_cat (pv 1) (pe_lst (pa_cons (pe_tup (pa_cons pe_str (pa_cons (pe_callB call_isX (by rfl) T.m_isinstance (by decide +kernel) (pa_cons (pv 0) (pa_cons (glob_ref gl_OwnOwner) pa_nil))) pa_nil))) (pa_cons (pe_tup (pa_cons pe_str (pa_cons (pe_callB call_isX (by rfl) T.m_isinstance (by decide +kernel) (pa_cons (pv 0) (pa_cons (glob_ref gl_Refused) pa_nil))) pa_nil))) pa_nil)))))
      (pss_cons (ps_set (i := 1) sc__law_classes.nd rfl (Or.inl rfl) (pe_op op_cat (pv 1) (pe_lst (pa_cons (pe_tup (pa_cons pe_str (pa_cons (pe_callB call_isX (by rfl) T.m_isinstance (by decide +kernel) (pa_cons (pv 0) (pa_cons (glob_ref gl_NotOpen) pa_nil))) pa_nil))) (pa_cons (pe_tup (pa_cons pe_str (pa_cons (pe_callB call_isX (by rfl) T.m_isinstance (by decide +kernel) (pa_cons (pv 0) (pa_cons (glob_ref gl_Busy) pa_nil))) pa_nil))) (pa_cons (pe_tup (pa_cons pe_str (pa_cons (pe_callB call_isX (by rfl) T.m_isinstance (by decide +kernel) (pa_cons (pv 0) (pa_cons (glob_ref gl_Idle) pa_nil))) pa_nil))) pa_nil))))))
      (pss_cons (ps_set (i := 1) sc__law_classes.nd rfl (Or.inl rfl) (pe_op op_cat (pv 1) (pe_lst (pa_cons (pe_tup (pa_cons pe_str (pa_cons (pe_callB call_isX (by rfl) T.m_isinstance (by decide +kernel) (pa_cons (pv 0) (pa_cons (glob_ref gl_BadPiece) pa_nil))) pa_nil))) (pa_cons (pe_tup (pa_cons pe_str (pa_cons (pe_callB call_isX (by rfl) T.m_isinstance (by decide +kernel) (pa_cons (pv 0) (pa_cons (glob_ref gl_BadList) pa_nil))) pa_nil))) pa_nil)))))
      (pss_cons (ps_set (i := 1) sc__law_classes.nd rfl (Or.inl rfl) (pe_op op_cat (pv 1) (pe_lst (pa_cons (pe_tup (pa_cons pe_str (pa_cons (pe_callB call_isX (by rfl) T.m_isinstance (by decide +kernel) (pa_cons (pv 0) (pa_cons (glob_ref gl_NoFit) pa_nil))) pa_nil))) (pa_cons (pe_tup (pa_cons pe_str (pa_cons (pe_callB call_isX (by rfl) T.m_isinstance (by decide +kernel) (pa_cons (pv 0) (pa_cons (glob_ref gl_BadQuestion) pa_nil))) pa_nil))) pa_nil)))))
      (pss_cons (ps_set (i := 1) sc__law_classes.nd rfl (Or.inl rfl) (pe_op op_cat (pv 1) (pe_lst (pa_cons (pe_tup (pa_cons pe_str (pa_cons (pe_callB call_isX (by rfl) T.m_isinstance (by decide +kernel) (pa_cons (pv 0) (pa_cons (glob_ref gl_BadDeed) pa_nil))) pa_nil))) (pa_cons (pe_tup (pa_cons pe_str (pa_cons (pe_callB call_isX (by rfl) T.m_isinstance (by decide +kernel) (pa_cons (pv 0) (pa_cons (glob_ref gl_BadWeaving) pa_nil))) pa_nil))) pa_nil)))))
      (pss_cons (ps_set (i := 1) sc__law_classes.nd rfl (Or.inl rfl) (pe_op op_cat (pv 1) (pe_lst (pa_cons (pe_tup (pa_cons pe_str (pa_cons (pe_callB call_isX (by rfl) T.m_isinstance (by decide +kernel) (pa_cons (pv 0) (pa_cons (glob_ref gl_NothingToUndo) pa_nil))) pa_nil))) (pa_cons (pe_tup (pa_cons pe_str (pa_cons (pe_callB call_isX (by rfl) T.m_isinstance (by decide +kernel) (pa_cons (pv 0) (pa_cons (glob_ref gl_NothingToRedo) pa_nil))) pa_nil))) pa_nil)))))
      (pss_one (ps_ret (pe_lc (own := [("_law_word", 2), ("_law_fits", 3)]) (g := gTup K 2 (gCons (gName 2) (gCons (gName 3) gNil))) (by rfl) sc__law_classes.nd (pi_list (pe_op op_cat (pv 1) (pe_lst (pa_cons (pe_tup (pa_cons pe_str (pa_cons (pe_callB call_isX (by rfl) T.m_isinstance (by decide +kernel) (pa_cons (pv 0) (pa_cons (glob_ref gl_BadLine) pa_nil))) pa_nil))) pa_nil)))) (blkOk_by (own := [("_law_word", 2), ("_law_fits", 3)]) (N := N__law_classes) (sc := defScope s__law_classes) (by decide +kernel)) (fun _ _ _ _ _ => (pg_tup rfl (pgs_cons (pg_name (i := 2) sc__law_classes.nd rfl (Or.inl rfl) (Or.inr rfl)) (pgs_cons (pg_name (i := 3) sc__law_classes.nd rfl (Or.inl rfl) (Or.inr rfl)) pgs_nil)))) (fun _ _ _ _ _ => (pts_one (pt_val (pv 3)))) (fun _ _ _ _ _ => (pv 2)))))))))))))))), ?_⟩
    have hi : i < 25 := (List.getElem?_eq_some_iff.mp hp).1
    have Tc := EK.ic i hi
    refine bd_firstS (bd_cons rfl Tc (EK.kit i hi 0 (by decide)) (bd_cons rfl Tc (EK.kit i hi 1 (by decide)) bd_nil)) ha (Nat.le_of_ble_eq_true rfl) (fun H1 p1 x1 h1 r1 s1 => ?_)
    have t1 := s1
    refine bd_catS rfl h1 r1 (bd_cons rfl Tc (EK.kit i hi 2 (by decide)) (bd_cons rfl Tc (EK.kit i hi 3 (by decide)) bd_nil)) (ha.same t1) (Nat.le_of_ble_eq_true rfl) (fun H2 p2 x2 h2 r2 s2 => ?_)
    have t2 := t1.trans s2
    clear h1 r1 s2
    refine bd_catS rfl h2 r2 (bd_cons rfl Tc (EK.kit i hi 4 (by decide)) (bd_cons rfl Tc (EK.kit i hi 5 (by decide)) bd_nil)) (ha.same t2) (Nat.le_of_ble_eq_true rfl) (fun H3 p3 x3 h3 r3 s3 => ?_)
    have t3 := t2.trans s3
    clear h2 r2 s3
    refine bd_catS rfl h3 r3 (bd_cons rfl Tc (EK.kit i hi 6 (by decide)) (bd_cons rfl Tc (EK.kit i hi 7 (by decide)) bd_nil)) (ha.same t3) (Nat.le_of_ble_eq_true rfl) (fun H4 p4 x4 h4 r4 s4 => ?_)
    have t4 := t3.trans s4
    clear h3 r3 s4
    refine bd_catS rfl h4 r4 (bd_cons rfl Tc (EK.kit i hi 8 (by decide)) (bd_cons rfl Tc (EK.kit i hi 9 (by decide)) (bd_cons rfl Tc (EK.kit i hi 10 (by decide)) bd_nil))) (ha.same t4) (Nat.le_of_ble_eq_true rfl) (fun H5 p5 x5 h5 r5 s5 => ?_)
    have t5 := t4.trans s5
    clear h4 r4 s5
    refine bd_catS rfl h5 r5 (bd_cons rfl Tc (EK.kit i hi 11 (by decide)) (bd_cons rfl Tc (EK.kit i hi 12 (by decide)) bd_nil)) (ha.same t5) (Nat.le_of_ble_eq_true rfl) (fun H6 p6 x6 h6 r6 s6 => ?_)
    have t6 := t5.trans s6
    clear h5 r5 s6
    refine bd_catS rfl h6 r6 (bd_cons rfl Tc (EK.kit i hi 13 (by decide)) (bd_cons rfl Tc (EK.kit i hi 14 (by decide)) (bd_cons rfl Tc (EK.kit i hi 15 (by decide)) bd_nil))) (ha.same t6) (Nat.le_of_ble_eq_true rfl) (fun H7 p7 x7 h7 r7 s7 => ?_)
    have t7 := t6.trans s7
    clear h6 r6 s7
    refine bd_catS rfl h7 r7 (bd_cons rfl Tc (EK.kit i hi 16 (by decide)) (bd_cons rfl Tc (EK.kit i hi 17 (by decide)) bd_nil)) (ha.same t7) (Nat.le_of_ble_eq_true rfl) (fun H8 p8 x8 h8 r8 s8 => ?_)
    have t8 := t7.trans s8
    clear h7 r7 s8
    refine bd_catS rfl h8 r8 (bd_cons rfl Tc (EK.kit i hi 18 (by decide)) (bd_cons rfl Tc (EK.kit i hi 19 (by decide)) bd_nil)) (ha.same t8) (Nat.le_of_ble_eq_true rfl) (fun H9 p9 x9 h9 r9 s9 => ?_)
    have t9 := t8.trans s9
    clear h8 r8 s9
    refine bd_catS rfl h9 r9 (bd_cons rfl Tc (EK.kit i hi 20 (by decide)) (bd_cons rfl Tc (EK.kit i hi 21 (by decide)) bd_nil)) (ha.same t9) (Nat.le_of_ble_eq_true rfl) (fun H10 p10 x10 h10 r10 s10 => ?_)
    have t10 := t9.trans s10
    clear h9 r9 s10
    refine bd_catS rfl h10 r10 (bd_cons rfl Tc (EK.kit i hi 22 (by decide)) (bd_cons rfl Tc (EK.kit i hi 23 (by decide)) bd_nil)) (ha.same t10) (Nat.le_of_ble_eq_true rfl) (fun H11 p11 x11 h11 r11 s11 => ?_)
    have t11 := t10.trans s11
    show tRet _ _ [some (V.ref a), some (V.ref p11), none, none] H11
    show tOp rCat (tVar 1) (tLst _) _ H11 _
    refine bd_cat rfl h11 r11 (bd_cons rfl Tc (EK.kit i hi 24 (by decide)) bd_nil) (ha.same t11) (Nat.le_of_ble_eq_true rfl) (fun H12 p12 x12 h12 r12 s12 => ?_)
    have t12 := t11.trans s12
    simp only [List.cons_append, List.nil_append] at r12
    replace r12 : RowsB H12 x12 (clsX i) := r12
    clear h11 r11 t11 s12
    have l12 := r12.len
    have lz : x12.length < sizeLine := by
      rw [l12]
      exact Nat.lt_of_le_of_lt (show (clsX i).length ≤ 25 from Nat.le_of_ble_eq_true rfl) (by decide)
    refine ⟨p12, rfl, ⟨_, .inl (.inl h12)⟩, fun D hD => ?_⟩
    have nD : p12 ≠ D := ne_of_none h12 hD
    refine lc_rows (walk_list (xs := x12)) x12 (clsX i) (fun r => if r.2 = true then some (V.str r.1) else none) l12.symm (fun i H x H' hi hy => hy) lz (fun acc => .inl (.inl (by rw [upd_ne nD]; exact h12))) (fun j y r hj hy hr => ?_) ?_
    · obtain ⟨r2, hr2, t, rfl, ht⟩ := RowsB.get (r12.same (same_new (o := .lst (madeR (clsX i) (fun r => if r.2 = true then some (V.str r.1) else none) j)) hD)) hy
      rw [hr] at hr2
      cases hr2
      refine ⟨t, _, rfl, .inl (.inl ht), rfl, _, _, rfl, _, _, rfl, rfl, rfl, ?_⟩
      walk_at "ls"
      refine ite2 (fun e => ?_) (fun e => ?_)
      · walk_at "ls"
        exact lr_yes hr hj lz (if_pos e)
      · exact lr_no hr (if_neg e)
    · rw [cls_one hp]
      exact q _ D upd_same (t12.trans (same_new hD))
end
end Ls
namespace Ls
open PySem PySem.Spec PyProof.Rows L2
/-! ### short steps -/
local macro_rules | `(tactic| walk_at "ls_ne") => `(tactic| first | assumption | exact Ne.symm (by assumption) | exact ne_of_none (by assumption) (by assumption) | exact Ne.symm (ne_of_none (by assumption) (by assumption)))
local macro_rules | `(tactic| walk_at "ls_hp") => `(tactic| first
  | with_reducible assumption
  | exact upd_same
  | exact Eq.trans (upd_ne (by walk_at "ls_ne")) (by walk_at "ls_hp"))
local macro_rules | `(tactic| walk_at "ls_st") => `(tactic| first
  | with_reducible assumption
  | exact Stm.upd (by walk_at "ls_st") (by first | walk_at "ls_ne" | exact (Stm.noneS (by assumption) (by assumption)).1) (by first | walk_at "ls_ne" | exact (Stm.noneS (by assumption) (by assumption)).2))
local macro_rules | `(tactic| walk_at "ls1") => `(tactic| first
  | refine ⟨_, rfl, ?_⟩
  | refine ⟨_, _, rfl, rfl, ?_⟩
  | refine ⟨_, _, _, _, rfl, rfl, .inl (.inl (by walk_at "ls_hp")), rfl, ?_⟩
  | refine ⟨_, _, _, _, rfl, rfl, (by walk_at "ls_hp"), rfl, ?_⟩
  | refine ⟨rfl, _, rfl, ?_⟩
  | refine ⟨.inl ⟨rfl, _, .inl (.inl (by walk_at "ls_hp"))⟩, ?_⟩)
local macro_rules | `(tactic| walk_at "ls") => `(tactic| repeat (walk_at "ls1"))

theorem all_flat : ∀ ts : List Str, (ts.map V.str).all flatV = true
  | [] => rfl
  | t :: r => by rw [List.map_cons, List.all_cons, all_flat r]; rfl
theorem in_strs (z : Str) : ∀ ts : List Str, inV (.str z) (ts.map V.str) = decide (z ∈ ts)
  | [] => rfl
  | t :: r => by
    have ih := in_strs z r
    unfold inV at ih ⊢
    rw [List.map_cons, List.any_cons, ih]
    by_cases h : t = z
    · subst h
      simp [eqV]
    · have h2 : ¬ z = t := fun e => h e.symm
      simp [eqV, h, h2]
theorem exo_lst {e C : Addr} {d : Option Addr} {xs : List V} : exo e C d ≠ .lst xs := fun z => by
  have z' : HO.ext _ = HO.lst xs := z
  cases z'
theorem exd_lst {e : Addr} {fs : List (Str × V)} {xs : List V} : exd e fs ≠ .lst xs := fun z => by
  have z' : HO.ext _ = HO.lst xs := z
  cases z'
/-- how far the asking has come -/
structure FdAt (H0 H : Hp) (fl fo e c : Addr) (fs : List Str) (l : List (Str × V)) (m : Nat) (xs : List V) : Prop where
  len : xs.length ≤ m
  hfl : H fl = some (.lst (fs.map V.str))
  hfo : H fo = some (.lst xs)
  ne : fl ≠ fo
  ex : ExcAt H e c l
  same : Same H0 H
  new : H0 fo = none
theorem FdAt.add {H0 H : Hp} {fl fo e c : Addr} {fs : List Str} {l : List (Str × V)} {m m' : Nat} {xs ys : List V} (a : FdAt H0 H fl fo e c fs l m xs) (hm : ys.length ≤ m') : FdAt H0 (upd H fo (.lst ys)) fl fo e c fs l m' ys := by
  obtain ⟨_, h1, h2, h3, h4, h5, h6⟩ := a
  refine ⟨hm, by rw [upd_ne h3]; exact h1, upd_same, h3, ?_, fun b o z => ?_, h6⟩
  · rcases h4 with ⟨e1, e2⟩ | ⟨d, e1, e2⟩
    · exact .inl ⟨e1, by rw [upd_ne (ne_of e2 h2 exo_lst)]; exact e2⟩
    · exact .inr ⟨d, by rw [upd_ne (ne_of e1 h2 exo_lst)]; exact e1, by rw [upd_ne (ne_of e2 h2 exd_lst)]; exact e2⟩
  · rw [upd_ne (ne_of_none z h6)]
    exact h5 _ _ z
theorem FdAt.up {H0 H : Hp} {fl fo e c : Addr} {fs : List Str} {l : List (Str × V)} {m : Nat} {xs : List V} (a : FdAt H0 H fl fo e c fs l m xs) : FdAt H0 H fl fo e c fs l (m + 1) xs := ⟨Nat.le_succ_of_le a.len, a.hfl, a.hfo, a.ne, a.ex, a.same, a.new⟩
theorem fd_step {K' : PySem.W.Frag} {H0 H : Hp} {fl fo e c : Addr} {fs : List Str} {l : List (Str × V)} {m : Nat} {xs : List V} {n : Str} {rest : TS} {Dn : Ends} (a : FdAt H0 H fl fo e c fs l m xs) (T : XfC K' c) (nof : n ∈ fs → PySem.W.findIn K' (.ref c) n = some none) (hl : n ∈ fs → ∃ v, l.lookup n = some v) (sm : m ≤ 20)
    (k : ∀ H', FdAt H0 H' fl fo e c fs l (m + 1) (if n ∈ fs then xs ++ [(l.lookup n).getD .non] else xs) → rest Dn [some (.ref e), some (.ref fl), some (.ref fo)] H') :
    tSeq (tIfS (tTest (tOp (rIn K' false) (tC (.str n)) (tVar 1))) (tDrop (tBM K' "list" rAppend (tVar 2) (tCons (tFx n K' (tVar 0)) tNil))) tNext) rest Dn [some (.ref e), some (.ref fl), some (.ref fo)] H := by
  refine ⟨.ref fl, rfl, fl, _, rfl, .inl (.inl (.inl a.hfl)), rfl, all_flat _, _, rfl, ?_⟩
  show if inV (.str n) (fs.map V.str) = true then _ else _
  rw [in_strs]
  by_cases h : n ∈ fs
  · rw [if_pos h] at k
    obtain ⟨v, hv⟩ := hl h
    rw [hv] at k
    rw [if_pos (decide_eq_true h)]
    exact ⟨.ref fo, rfl, .inl ⟨rfl, _, .inl (.inl a.hfo)⟩, .ref e, rfl, e, c, l, v, rfl, T, nof h, a.ex, hv, fo, xs, v, rfl, rfl, a.hfo, Nat.lt_of_le_of_lt (Nat.le_trans a.len sm) (by decide), k _ (a.add (by rw [List.length_append]; exact Nat.succ_le_succ a.len))⟩
  · rw [if_neg h] at k
    rw [if_neg (fun z => h (of_decide_eq_true z))]
    exact k H a.up
section
variable {P : Program} {w : World} {K : PySem.W.Frag} {mg : Str → Option Value} {base : Heap}
abbrev s__law_fields : Stmt := topS 31
theorem sc__law_fields : FnScope ["_law_e", "_law_row", "_law_found"] ["_law_e", "_law_row"] (defScope s__law_fields) := ⟨rfl, rfl, rfl, by decide +kernel, rfl, by decide +kernel, by decide +kernel⟩
abbrev N__law_fields : List Str := ["_law_e", "_law_row", "_law_found"]
def dueX (a b : V) : List Str → List V
  | [] => []
  | [_] => [a]
  | _ :: _ :: _ => [a, b]
def spFields (C : Nat → Addr) : Sp := fun vs H Q _ => ∃ (e fl : Addr) (i : Nat) (p : Str × List Str) (a b : V), vs = [.ref e, .ref fl] ∧ nmX[i]? = some p ∧ H fl = some (.lst (p.2.map V.str)) ∧ ExcAt H e (C i) (valsX a b p.2) ∧ ∀ (H' : Hp) (p' : Addr), H' p' = some (.lst (dueX a b p.2)) → Same H H' → Q (.ref p') H'
/-- the names that are asked after, in the order of the asking -/
def askX : List Str := ["name", "kind", "column", "rule", "check", "number", "hand", "piece", "numbers", "question", "index"]
theorem fld_there {i : Nat} {p : Str × List Str} (h : nmX[i]? = some p) (a b : V) : ∀ n ∈ p.2, ∃ v, (valsX a b p.2).lookup n = some v := by
  intro n hn
  have l2 : p.2.length ≤ 2 := (by decide +kernel : ∀ p ∈ nmX, p.2.length ≤ 2) p (List.mem_of_getElem? h)
  obtain ⟨w, fs⟩ := p
  match fs, hn, l2 with
  | [f], hn, _ =>
    rw [List.mem_singleton.mp hn]
    exact ⟨a, by simp [valsX, List.lookup]⟩
  | [f, g], hn, _ =>
    by_cases hg : n = g
    · rw [hg]
      exact ⟨b, by simp [valsX, List.lookup]⟩
    · have hf : n = f := by
        simp only [List.mem_cons, List.not_mem_nil, or_false] at hn
        exact hn.resolve_right hg
      have hg2 : (n == g) = false := by simpa using hg
      refine ⟨a, ?_⟩
      rw [← hf]
      simp [valsX, List.lookup, hg2]
  | _ :: _ :: _ :: _, _, l2 => exact absurd l2 (by simp)
def finX (a b : V) (fs : List Str) : List V := askX.foldl (fun xs n => if n ∈ fs then xs ++ [((valsX a b fs).lookup n).getD .non] else xs) []
theorem fin_due {i : Nat} {p : Str × List Str} (h : nmX[i]? = some p) (a b : V) : finX a b p.2 = dueX a b p.2 := by
  have m := List.mem_of_getElem? h
  simp only [nmX, List.mem_cons, List.not_mem_nil, or_false] at m
  rcases m with rfl | rfl | rfl | rfl | rfl | rfl | rfl | rfl | rfl | rfl | rfl | rfl | rfl | rfl | rfl | rfl | rfl | rfl | rfl | rfl | rfl | rfl | rfl | rfl | rfl <;> kernel_rfl
theorem ok_fields {C : Nat → Addr} {CS : Addr} {f : Addr} {fd : FuncData} (F : Fun K "_law_fields" "_law_fields" s__law_fields f fd) (T : Bt mg) (EK : ErrsK K C CS) : FnOk P w K mg base CX0 1 f fd ["_law_e", "_law_row"] (spFields C) := by
  refine F.ok sc__law_fields (fun vs H Q E h => ?_) (fun cdv A outer s H vs Q E hr h => ?_)
  · obtain ⟨e, fl, i, p, a, b, rfl, _⟩ := h
    rfl
  · obtain ⟨e, fl, i, p, a, b, rfl, hp, hfl, he, q⟩ := h
    have hu := hu_of hr
    refine ⟨_, (pss_cons (ps_set (i := 2) sc__law_fields.nd rfl (Or.inl rfl) (pe_lst pa_nil))
      (pss_cons (ps_if (pt_cmpR (in_seq K) pe_str (pv 1) (by rfl)) (pss_one (ps_expr (pe_bm PySem.F.plainAttrs_list PySem.F.slot_list_append PySem.F.type_list_append mt_append (pv 2) (pa_cons (pe_fx (pv 0)) pa_nil)))) pss_nil)
      (pss_cons (ps_if (pt_cmpR (in_seq K) pe_str (pv 1) (by rfl)) (pss_one (ps_expr (pe_bm PySem.F.plainAttrs_list PySem.F.slot_list_append PySem.F.type_list_append mt_append (pv 2) (pa_cons (pe_fx (pv 0)) pa_nil)))) pss_nil)
      (pss_cons (ps_if (pt_cmpR (in_seq K) pe_str (pv 1) (by rfl)) (pss_one (ps_expr (pe_bm PySem.F.plainAttrs_list PySem.F.slot_list_append PySem.F.type_list_append mt_append (pv 2) (pa_cons (pe_fx (pv 0)) pa_nil)))) pss_nil)
      (pss_cons (ps_if (pt_cmpR (in_seq K) pe_str (pv 1) (by rfl)) (pss_one (ps_expr (pe_bm PySem.F.plainAttrs_list PySem.F.slot_list_append PySem.F.type_list_append mt_append (pv 2) (pa_cons (pe_fx (pv 0)) pa_nil)))) pss_nil)
      (pss_cons (ps_if (pt_cmpR (in_seq K) pe_str (pv 1) (by rfl)) (pss_one (ps_expr (pe_bm PySem.F.plainAttrs_list PySem.F.slot_list_append PySem.F.type_list_append mt_append (pv 2) (pa_cons (pe_fx (pv 0)) pa_nil)))) pss_nil)
      (pss_cons (ps_if (pt_cmpR (in_seq K) pe_str (pv 1) (by rfl)) (pss_one (ps_expr (pe_bm PySem.F.plainAttrs_list PySem.F.slot_list_append PySem.F.type_list_append mt_append (pv 2) (pa_cons (pe_fx (pv 0)) pa_nil)))) pss_nil)
      (pss_cons (ps_if (pt_cmpR (in_seq K) pe_str (pv 1) (by rfl)) (pss_one (ps_expr (pe_bm PySem.F.plainAttrs_list PySem.F.slot_list_append PySem.F.type_list_append mt_append (pv 2) (pa_cons (pe_fx (pv 0)) pa_nil)))) pss_nil)
      (pss_cons (ps_if (pt_cmpR (in_seq K) pe_str (pv 1) (by rfl)) (pss_one (ps_expr (pe_bm PySem.F.plainAttrs_list PySem.F.slot_list_append PySem.F.type_list_append mt_append (pv 2) (pa_cons (pe_fx (pv 0)) pa_nil)))) pss_nil)
      (pss_cons (ps_if (pt_cmpR (in_seq K) pe_str (pv 1) (by rfl)) (pss_one (ps_expr (pe_bm PySem.F.plainAttrs_list PySem.F.slot_list_append PySem.F.type_list_append mt_append (pv 2) (pa_cons (pe_fx (pv 0)) pa_nil)))) pss_nil)
      (pss_cons (ps_if (pt_cmpR (in_seq K) pe_str (pv 1) (by rfl)) (pss_one (ps_expr (pe_bm PySem.F.plainAttrs_list PySem.F.slot_list_append PySem.F.type_list_append mt_append (pv 2) (pa_cons (pe_fx (pv 0)) pa_nil)))) pss_nil)
      (pss_cons (ps_if (pt_cmpR (in_seq K) pe_str (pv 1) (by rfl)) (pss_one (ps_expr (pe_bm PySem.F.plainAttrs_list PySem.F.slot_list_append PySem.F.type_list_append mt_append (pv 2) (pa_cons (pe_fx (pv 0)) pa_nil)))) pss_nil)
      (pss_one (ps_ret (pv 2))))))))))))))), ?_⟩
    refine ⟨Nat.zero_le _, fun fo hfo => ?_⟩
    have nlf : fl ≠ fo := ne_of_none hfl hfo
    have hi : i < 25 := (List.getElem?_eq_some_iff.mp hp).1
    have Tx := EK.xf i hi
    have nf := EK.nof i p hp
    have a0 : FdAt H (upd H fo (.lst [])) fl fo e (C i) p.2 (valsX a b p.2) 0 [] := ⟨Nat.le_refl _, same_new hfo _ _ hfl, upd_same, nlf, he.same (same_new hfo), same_new hfo, hfo⟩
    have lk : ∀ n ∈ p.2, ∃ v, (valsX a b p.2).lookup n = some v := fld_there hp a b
    show tSeq _ _ _ [some (V.ref e), some (V.ref fl), some (V.ref fo)] _
    refine fd_step a0 Tx (fun h => nf _ h) (fun h => lk _ h) (by decide) (fun H1 a1 => ?_)
    refine fd_step a1 Tx (fun h => nf _ h) (fun h => lk _ h) (by decide) (fun H2 a2 => ?_)
    refine fd_step a2 Tx (fun h => nf _ h) (fun h => lk _ h) (by decide) (fun H3 a3 => ?_)
    refine fd_step a3 Tx (fun h => nf _ h) (fun h => lk _ h) (by decide) (fun H4 a4 => ?_)
    refine fd_step a4 Tx (fun h => nf _ h) (fun h => lk _ h) (by decide) (fun H5 a5 => ?_)
    refine fd_step a5 Tx (fun h => nf _ h) (fun h => lk _ h) (by decide) (fun H6 a6 => ?_)
    refine fd_step a6 Tx (fun h => nf _ h) (fun h => lk _ h) (by decide) (fun H7 a7 => ?_)
    refine fd_step a7 Tx (fun h => nf _ h) (fun h => lk _ h) (by decide) (fun H8 a8 => ?_)
    refine fd_step a8 Tx (fun h => nf _ h) (fun h => lk _ h) (by decide) (fun H9 a9 => ?_)
    refine fd_step a9 Tx (fun h => nf _ h) (fun h => lk _ h) (by decide) (fun H10 a10 => ?_)
    refine fd_step a10 Tx (fun h => nf _ h) (fun h => lk _ h) (by decide) (fun H11 a11 => ?_)
    have g := a11.hfo
    exact ⟨_, rfl, q H11 fo (g.trans (congrArg (fun l => some (HO.lst l)) (fin_due hp a b))) a11.same⟩
end
end Ls
namespace Ls
open PySem PySem.Spec PyProof.Rows L2
/-! ### short steps -/
local macro_rules | `(tactic| walk_at "ls_ne") => `(tactic| first | assumption | exact Ne.symm (by assumption) | exact ne_of_none (by assumption) (by assumption) | exact Ne.symm (ne_of_none (by assumption) (by assumption)))
local macro_rules | `(tactic| walk_at "ls_hp") => `(tactic| first
  | with_reducible assumption
  | exact upd_same
  | exact Eq.trans (upd_ne (by walk_at "ls_ne")) (by walk_at "ls_hp"))
local macro_rules | `(tactic| walk_at "ls_st") => `(tactic| first
  | with_reducible assumption
  | exact Stm.upd (by walk_at "ls_st") (by first | walk_at "ls_ne" | exact (Stm.noneS (by assumption) (by assumption)).1) (by first | walk_at "ls_ne" | exact (Stm.noneS (by assumption) (by assumption)).2))
local macro_rules | `(tactic| walk_at "ls1") => `(tactic| first
  | refine ⟨_, rfl, ?_⟩
  | refine ⟨_, _, rfl, rfl, ?_⟩
  | refine ⟨_, _, _, _, rfl, rfl, .inl (.inl (by walk_at "ls_hp")), rfl, ?_⟩
  | refine ⟨_, _, _, _, rfl, rfl, (by walk_at "ls_hp"), rfl, ?_⟩
  | refine ⟨rfl, _, rfl, ?_⟩
  | refine ⟨.inl ⟨rfl, _, .inl (.inl (by walk_at "ls_hp"))⟩, ?_⟩)
local macro_rules | `(tactic| walk_at "ls") => `(tactic| repeat (walk_at "ls1"))

section
variable {P : Program} {w : World} {K : PySem.W.Frag} {mg : Str → Option Value} {base : Heap}
/-! ### _law_same -/
abbrev s__law_same : Stmt := topS 30
theorem sc__law_same : FnScope ["_law_found", "_law_due"] ["_law_found", "_law_due"] (defScope s__law_same) := ⟨rfl, rfl, rfl, by decide +kernel, rfl, by decide +kernel, by decide +kernel⟩
abbrev N__law_same : List Str := ["_law_found", "_law_due"]
def spSame (K : PySem.W.Frag) : Sp := fun vs H Q _ => ∃ (a b : Addr) (d : PyData), vs = [.ref a, .ref b] ∧ DpX K H (.ref a) d ∧ DpX K H (.ref b) d ∧ (d.showable = true ∧ d.depth ≤ 60 ∧ d.shown.length ≤ sizeLine) ∧ Q (.bl true) H
theorem ok_same {f : Addr} {fd : FuncData} (F : Fun K "_law_same" "_law_same" s__law_same f fd) (T : Bt mg) : FnG P w K mg base CX0 1 f fd ["_law_found", "_law_due"] (spSame K) := by
  refine fun_okG F sc__law_same (fun vs H Q E h => ?_) (fun cdv A outer s H vs Q E hgd hr h => ?_)
  · obtain ⟨a, b, d, rfl, _⟩ := h
    rfl
  · obtain ⟨a, b, d, rfl, ha, hb, ⟨h1, h3, h4⟩, q⟩ := h
    have hu := hu_of hr
    refine ⟨_, (pss_one (ps_ret (pe_cmpR op_eq (pe_callB (call_repr_dataX hgd hr) (by rfl) T.m_repr (by decide +kernel) (pa_cons (pv 0) pa_nil)) (pe_callB (call_repr_dataX hgd hr) (by rfl) T.m_repr (by decide +kernel) (pa_cons (pv 1) pa_nil)) (nomark _)))), ?_⟩
    walk_at "ls"
    refine ⟨a, d, rfl, ha, h1, h3, h4, ?_⟩
    walk_at "ls"
    refine ⟨b, d, rfl, hb, h1, h3, h4, ?_⟩
    refine ⟨rfl, ?_⟩
    rw [decide_eq_true rfl]
    exact q
end
end Ls
namespace Ls
open PySem PySem.Spec PyProof.Rows L2
/-! ### a list of any things, compared with an empty list -/
def rNeE (K : PySem.W.Frag) : R2 := fun x y H Q => ∃ (a b : Addr) (xs : List V), x = .ref a ∧ y = .ref b ∧ SqL K H a xs ∧ SqL K H b [] ∧ Q (.bl (!xs.isEmpty)) H
theorem op_neE {X : Cx} (hu : X.A.units + 64 < cLine) : OpR X (compareOp .NotEq) (rNeE X.K) := by
  intro pins s σ H x y v u Q I rx ry h
  obtain ⟨a, b, xs, rfl, rfl, ha, hb, q⟩ := h
  cases rx
  cases ry
  obtain ⟨its, rv, p, hz⟩ := I.list ha
  obtain ⟨its2, rv2, p2, hz2⟩ := I.list hb
  cases rv2
  have hc : X.A.units < cLine := by omega
  cases xs with
  | nil =>
    cases rv
    have h1 := SeqAt.RcNeAt.lists (A := X.A) (s := s) (e := fun _ => true) p.isList p2.isList rfl hc (fun j h1 _ => absurd h1 (by simp))
    exact h1 X.prog X.w X.xe _ ⟨.bl _, H, I, rfl, q⟩
  | cons z r =>
    have hl : its.length ≠ 0 := by rw [← rv.length]; simp
    have h1 := SeqAt.RcNeAt.lists_lengths (A := X.A) (s := s) p.isList p2.isList (by simpa using hl) hc
    exact h1 X.prog X.w X.xe _ ⟨.bl _, H, I, rfl, q⟩
theorem neE {X : Cx} (K : PySem.W.Frag) {k : Nat} (hr : Room k X.A) (h : X.K = K := by rfl) : OpR X (compareOp .NotEq) (rNeE K) := by subst h; exact op_neE hr.units
/-! ### methods of built-in types where the context is bound -/
section
variable {X : Cx} {o e : Expr} {es : List Expr} {to : TE} {t : TA} {name : Str} {apos cpos : Pos} {T id : String} {r : V → List V → Hp → VK → Prop}
theorem pe_bm0K (K : PySem.W.Frag) (pa : PlainAttrs T) (slot : Slot T name id) (hty : typeOf (.builtin id) = pure (.type "method_descriptor")) (hm : MtM X id r) (ho : PE X o to) (hK : X.K = K := by rfl)
    (hbase : attributeBase o name X.env (eval o X.env) = eval o X.env := by rfl) (hline : (apos.endLine == cpos.line) = true := by rfl) : PE X (.Call (.Attribute o name apos) [] [] cpos) (tBM0 K T r to) := by
  subst hK
  exact pe_bm0 pa slot hty hm ho hbase hline
theorem pe_bmK (K : PySem.W.Frag) (pa : PlainAttrs T) (slot : Slot T name id) (hty : typeOf (.builtin id) = pure (.type "method_descriptor")) (hm : MtM X id r) (ho : PE X o to) (ha : PA X (e :: es) t) (hK : X.K = K := by rfl)
    (hbase : attributeBase o name X.env (eval o X.env) = eval o X.env := by rfl)
    (hfew : ((backTo cpos (starEach (e :: es) X.env)).all (fun x => !x.1) && (backToKw cpos (keywordEach [] X.env)).all (fun x => x.1.isSome)
      && decide ((e :: es).length + ([] : List Keyword).length + (if ([] : List Keyword).isEmpty then 0 else 1) < 30)) = true := by rfl)
    (hline : (apos.endLine == cpos.line) = true := by rfl) (hs : starEach (e :: es) X.env = (false, eval e X.env) :: starEach es X.env := by rfl) (hplain : (backTo cpos (starEach es X.env)).any (·.1) = false := by rfl) :
    PE X (.Call (.Attribute o name apos) (e :: es) [] cpos) (tBM K T r to t) := by
  subst hK
  exact pe_bm pa slot hty hm ho ha hbase hfew hline hs hplain
end
end Ls
namespace Ls
open PySem PySem.Spec PyProof.Rows L2
/-! ### short steps -/
local macro_rules | `(tactic| walk_at "ls_ne") => `(tactic| first | assumption | exact Ne.symm (by assumption) | exact ne_of_none (by assumption) (by assumption) | exact Ne.symm (ne_of_none (by assumption) (by assumption)))
local macro_rules | `(tactic| walk_at "ls_hp") => `(tactic| first
  | with_reducible assumption
  | exact upd_same
  | exact Eq.trans (upd_ne (by walk_at "ls_ne")) (by walk_at "ls_hp"))
local macro_rules | `(tactic| walk_at "ls_st") => `(tactic| first
  | with_reducible assumption
  | exact Stm.upd (by walk_at "ls_st") (by first | walk_at "ls_ne" | exact (Stm.noneS (by assumption) (by assumption)).1) (by first | walk_at "ls_ne" | exact (Stm.noneS (by assumption) (by assumption)).2))
local macro_rules | `(tactic| walk_at "ls1") => `(tactic| first
  | refine ⟨_, rfl, ?_⟩
  | refine ⟨_, _, rfl, rfl, ?_⟩
  | refine ⟨_, _, _, _, rfl, rfl, .inl (.inl (by walk_at "ls_hp")), rfl, ?_⟩
  | refine ⟨_, _, _, _, rfl, rfl, (by walk_at "ls_hp"), rfl, ?_⟩
  | refine ⟨rfl, _, rfl, ?_⟩
  | refine ⟨.inl ⟨rfl, _, .inl (.inl (by walk_at "ls_hp"))⟩, ?_⟩)
local macro_rules | `(tactic| walk_at "ls") => `(tactic| repeat (walk_at "ls1"))

structure Bt5 (mg : Str → Option Value) : Prop where
  m_ValueError : mg "ValueError" = none
theorem boot_ValueError : bootBuiltins "ValueError" = some (.type "ValueError") := PyProof.Rows.Boot.«ValueError»
theorem Thn.tk {H H' : Hp} {v : V} {d : PyData} (h : Thn H v d) (k : ∀ t ys, H t = some (.tup ys) → H' t = some (.tup ys)) : Thn H' v d := by
  rcases h with h | h | h | ⟨t, e1, e2, h⟩ | ⟨t, t2, e1, e2, h, h2⟩
  · exact .inl h
  · exact .inr (.inl h)
  · exact .inr (.inr (.inl h))
  · exact .inr (.inr (.inr (.inl ⟨t, e1, e2, k _ _ h⟩)))
  · exact .inr (.inr (.inr (.inr ⟨t, t2, e1, e2, k _ _ h, k _ _ h2⟩)))
theorem Thn.old {S L : Addr} {H H' : Hp} {n : Nat} {v : V} {d : PyData} (h : Thn H v d) (st : Stm H S L n) (od : Old S L H H') : Thn H' v d := h.tk fun t ys e => by
  obtain ⟨ns, d, c, k, h1, h2, _⟩ := st
  exact od _ _ (ne_of e h1 fun z => nomatch z) (ne_of e h2 fun z => nomatch z) e
theorem Thn.same {H H' : Hp} {v : V} {d : PyData} (h : Thn H v d) (s : Same H H') : Thn H' v d := h.tk fun t ys e => s _ _ e
theorem Thn.dp {K : PySem.W.Frag} {H : Hp} {v : V} {d : PyData} (h : Thn H v d) : Dp K H v d := by
  rcases h with ⟨n, rfl, rfl, _⟩ | ⟨z, rfl, rfl, _⟩ | ⟨rfl, rfl⟩ | ⟨t, rfl, rfl, h⟩ | ⟨t, t2, rfl, rfl, h, h2⟩
  · exact .int _
  · exact .str _
  · exact .non
  · exact .tup (.inl (.inl h)) (.cons (.int _) (.cons (.str _) .nil))
  · exact .tup (.inl (.inl h)) (.cons (.str _) (.cons (.int _) (.cons (.tup (.inl (.inl h2)) (.cons (.int _) (.cons (.int _) .nil))) .nil)))
theorem Thn.ok {H : Hp} {v : V} {d : PyData} (h : Thn H v d) : DOk 2 1000 d := by
  rcases h with ⟨n, rfl, rfl, n0, n1⟩ | ⟨z, rfl, rfl, oz⟩ | ⟨rfl, rfl⟩ | ⟨t, rfl, rfl, h⟩ | ⟨t, t2, rfl, rfl, h, h2⟩
  · refine (DOk.int ?_).mono (by decide) (Nat.le_refl 1000)
    have e1 : (10 : Int) ^ 30 = 1000000000000000000000000000000 := by decide
    have e2 : (10 : Nat) ^ 60 = 1000000000000000000000000000000000000000000000000000000000000 := by decide
    rw [e1] at n0 n1
    rw [e2]
    omega
  · exact (DOk.str oz).mono (by decide) (by decide)
  · exact DOk.none.mono (by decide) (Nat.le_refl 1000)
  · refine (DOk.tuple' (k := 0) (m := 20) (n := 2) (fun x hx => ?_) (Nat.le_refl _)).mono (by decide) (by decide)
    simp only [List.mem_cons, List.not_mem_nil, or_false] at hx
    rcases hx with rfl | rfl
    · exact DOk.int (by decide)
    · exact DOk.str (by decide +kernel)
  · refine (DOk.tuple' (k := 1) (m := 100) (n := 3) (fun x hx => ?_) (Nat.le_refl _)).mono (by decide) (by decide)
    simp only [List.mem_cons, List.not_mem_nil, or_false] at hx
    rcases hx with rfl | rfl | rfl
    · exact (DOk.str (m := 100) (by decide +kernel)).mono (by decide) (Nat.le_refl _)
    · exact (DOk.int (m := 100) (by decide)).mono (by decide) (Nat.le_refl _)
    · refine (DOk.tuple' (k := 0) (m := 20) (n := 2) (fun x hx => ?_) (Nat.le_refl _)).mono (by decide) (by decide)
      simp only [List.mem_cons, List.not_mem_nil, or_false] at hx
      rcases hx with rfl | rfl
      · exact DOk.int (by decide)
      · exact DOk.int (by decide)
def dueD (a b : PyData) : List Str → List PyData
  | [] => []
  | [_] => [a]
  | _ :: _ :: _ => [a, b]
theorem due_dps {K : PySem.W.Frag} {H : Hp} {a b : V} {da db : PyData} (ha : Thn H a da) (hb : Thn H b db) (fs : List Str) : DpAll K H (dueX a b fs) (dueD da db fs) := by
  match fs with
  | [] => exact .nil
  | [_] => exact .cons ha.dp .nil
  | _ :: _ :: _ => exact .cons ha.dp (.cons hb.dp .nil)
theorem due_ok {H : Hp} {a b : V} {da db : PyData} (ha : Thn H a da) (hb : Thn H b db) (fs : List Str) : DOk 3 3000 (.list (dueD da db fs)) := by
  refine (DOk.list' (k := 2) (m := 1000) (n := 2) (fun x hx => ?_) ?_).mono (Nat.le_refl _) (by decide)
  · match fs with
    | [] => cases hx
    | [_] =>
      rw [List.mem_singleton.mp hx]
      exact ha.ok
    | _ :: _ :: _ =>
      simp only [dueD, List.mem_cons, List.not_mem_nil, or_false] at hx
      rcases hx with rfl | rfl
      · exact ha.ok
      · exact hb.ok
  · match fs with
    | [] => exact Nat.zero_le _
    | [_] => exact Nat.le_of_ble_eq_true rfl
    | _ :: _ :: _ => exact Nat.le_refl _
theorem due_cut {a b : V} {fs : List Str} (h : fs.length ≤ 2) : cutV [a, b] none (some ((fs.length : Nat) : Int)) = dueX a b fs := by
  match fs, h with
  | [], _ => rfl
  | [_], _ => rfl
  | [_, _], _ => rfl
  | _ :: _ :: _ :: _, h => exact absurd h (by simp)
theorem nm_shape : ∀ p ∈ nmX, SeqAt.shaped (.list [.str p.1]) = true ∧ PyData.eqv (.list [.str p.1]) (.list [.str p.1]) = true ∧ p.2.length ≤ 2 := by decide +kernel
theorem rows_all (C : Nat → Addr) (a b : V) : rowsX C a b 0 (nmX.take 13) ++ rowsX C a b 13 (nmX.drop 13) = nmX.mapIdx fun i p => rowX C a b i p := by
  have l13 : (nmX.take 13).length = 13 := by
    rw [List.length_take]
    exact Nat.min_eq_left (Nat.le_of_ble_eq_true rfl)
  have e := List.mapIdx_append (f := fun i p => rowX C a b i p) (xs := nmX.take 13) (ys := nmX.drop 13)
  rw [List.take_append_drop, l13] at e
  rw [e]
  unfold rowsX
  simp only [Nat.add_comm, Nat.add_zero]
section
variable {P : Program} {w : World} {K : PySem.W.Frag} {mg : Str → Option Value} {base : Heap}
abbrev s_law : Stmt := topS 36
theorem sc_law : FnScope ["_law_script", "_law_stream", "_law_a", "_law_b", "_law_word", "_law_fields_here", "_law_one", "_law_other", "_law_e"] ["_law_script"] (defScope s_law) := ⟨rfl, rfl, rfl, by decide +kernel, rfl, by decide +kernel, by decide +kernel⟩
abbrev N_law : List Str := ["_law_script", "_law_stream", "_law_a", "_law_b", "_law_word", "_law_fields_here", "_law_one", "_law_other", "_law_e"]
def spLaw (K : PySem.W.Frag) : Sp := fun vs H Q _ => ∃ (a : Addr) (ns : List Int), vs = [.ref a] ∧ SqL K H a (ns.map V.int) ∧ ns.length ≤ 63 ∧ ∀ H', Q (.bl true) H'
theorem ok_law {C : Nat → Addr} {CS : Addr} {f : Addr} {fd : FuncData} (F : Fun K "law" "law" s_law f fd) (T : Bt mg) (T5 : Bt5 mg) (EK : ErrsK K C CS) (gl_StrikeError : mg "StrikeError" = some (.ref CS)) (O__law_thing : Own P w K mg base CX0 3 "_law_thing" ["_law_stream"] spThing)
    (O__law_first_half : Own P w K mg base CX0 3 "_law_first_half" ["_law_a", "_law_b"] (spFirst C)) (O__law_other_half : Own P w K mg base CX0 3 "_law_other_half" ["_law_a"] (spOther C)) (O__law_classes : Own P w K mg base CX0 1 "_law_classes" ["_law_e"] (spClasses C))
    (O__law_fields : Own P w K mg base CX0 1 "_law_fields" ["_law_e", "_law_row"] (spFields C)) (O__law_same : OwnG P w K mg base CX0 1 "_law_same" ["_law_found", "_law_due"] (spSame K)) : FnG P w K mg base CX0 4 f fd ["_law_script"] (spLaw K) := by
  refine fun_okG F sc_law (fun vs H Q E h => ?_) (fun cdv A' outer s H vs Q E hgd hr h => ?_)
  · obtain ⟨a, ns, rfl, _⟩ := h
    rfl
  · obtain ⟨a, ns, rfl, ha, hl, q⟩ := h
    have hu := hu_of hr
    refine ⟨_, (pss_cons (ps_set (i := 1) sc_law.nd rfl (Or.inl rfl) (pe_lst (pa_cons (pe_callTy (list_of K) (by rfl) T.m_list (by decide +kernel) (pa_cons (pv 0) pa_nil)) (pa_cons pe_int (pa_cons pe_int (pa_cons pe_int pa_nil))))))
      (pss_cons (ps_par (i := 2) (j := 3) (by rfl) sc_law.nd rfl rfl (by decide) rfl rfl (pa_cons (own_call O__law_thing hr (by first | decide | omega) (pa_cons (pv 1) pa_nil)) (pa_cons (own_call O__law_thing hr (by first | decide | omega) (pa_cons (pv 1) pa_nil)) pa_nil)) (by rfl))
      (pss_cons (ps_for PassesOwn.never rfl (pi_list (pe_op op_cat (own_call O__law_first_half hr (by first | decide | omega) (pa_cons (pv 2) (pa_cons (pv 3) pa_nil))) (own_call O__law_other_half hr (by first | decide | omega) (pa_cons (pv 2) pa_nil)))) (pg_tup rfl (pgs_cons (pg_name (i := 4) sc_law.nd rfl (Or.inl rfl)) (pgs_cons (pg_name (i := 5) sc_law.nd rfl (Or.inl rfl)) (pgs_cons (pg_name (i := 6) sc_law.nd rfl (Or.inl rfl)) (pgs_cons (pg_name (i := 7) sc_law.nd rfl (Or.inl rfl)) pgs_nil))))) (pss_one (ps_for PassesOwn.never rfl (pi_tup (pe_tup (pa_cons (pv 6) (pa_cons (pv 7) pa_nil)))) (pg_name (i := 8) sc_law.nd rfl (Or.inl rfl)) (pss_cons (ps_if (PW.pt (pw_or (pt_not (pt_val (pe_callB call_isX (by rfl) T.m_isinstance (by decide +kernel) (pa_cons (pv 8) (pa_cons (glob_ref gl_StrikeError) pa_nil))))) (pw_or (pt_not (pt_val (pe_callB call_isX (by rfl) T.m_isinstance (by decide +kernel) (pa_cons (pv 8) (pa_cons (pe_bltn (v := V.ty "ValueError") (by rfl) T5.m_ValueError boot_ValueError rfl) pa_nil))))) (pw_or1 (pt_cmpR (neD K hr) (own_call O__law_classes hr (by first | decide | omega) (pa_cons (pv 8) pa_nil)) (pe_lst (pa_cons (pv 4) pa_nil)) (nomark _)))))) (pss_one (ps_ret pe_bl)) pss_nil)
      (pss_one (ps_if (pt_not (pt_val (own_callG O__law_same hgd hr (by first | decide | omega) (pa_cons (own_call O__law_fields hr (by first | decide | omega) (pa_cons (pv 8) (pa_cons (pv 5) pa_nil))) (pa_cons (pe_slice sl_list (pe_lst (pa_cons (pv 2) (pa_cons (pv 3) pa_nil))) po_none (po_some (pe_callB (len_seq K) (by rfl) T.m_len (by decide +kernel) (pa_cons (pv 5) pa_nil)))) pa_nil))))) (pss_one (ps_ret pe_bl)) pss_nil))))))
      (pss_one (ps_ret pe_bl))))), ?_⟩
    walk_at "ls"
    refine ⟨a, _, rfl, .inl ha, fun L hL => ⟨(by show 4 ≤ sizeLine; decide), fun S hS => ?_⟩⟩
    have nSL : S ≠ L := fun e => by rw [e, upd_same] at hS; cases hS
    refine at_heap (φ := fun H1 => Stm H1 S L 0) ⟨ns, 0, 0, 0, upd_same, (by rw [upd_ne nSL.symm]; exact upd_same), by decide, by decide, by decide, by decide, by decide⟩ ?_
    intro H1 st1
    walk_at "ls"
    refine ⟨S, L, _, rfl, st1, by decide, fun H2 va da ha2 st2 od2 => ?_⟩
    walk_at "ls"
    refine ⟨S, L, _, rfl, st2, by decide, fun H3 vb db hb3 st3 od3 => ?_⟩
    have ha3 := ha2.old st2 od3
    clear ha2 st2 od2 od3 st1
    refine ⟨_, _, rfl, ?_⟩
    walk_at "ls"
    refine ⟨va, vb, rfl, fun H4 p1 x1 n1 h4 r4 s4 => ?_⟩
    walk_at "ls"
    refine ⟨va, vb, rfl, fun H5 p2 x2 n2 h5 r5 s5 => ?_⟩
    have l4 := r4.len
    have l5 := r5.len
    refine ⟨p1, p2, x1, x2, rfl, rfl, s5 _ _ h4, h5, ?_, fun p3 hp3 => ?_⟩
    · rw [l4, l5]
      show 13 + 12 ≤ sizeLine
      decide
    have r6 := (((r4.same s5).append r5)).same (same_new (o := .lst (x1 ++ x2)) hp3)
    rw [rows_all] at r6
    have h6 := upd_same (H := H5) (a := p3) (o := .lst (x1 ++ x2))
    have hb6 := hb3.same ((s4.trans s5).trans (same_new (o := .lst (x1 ++ x2)) hp3))
    have ha6 := ha3.same ((s4.trans s5).trans (same_new (o := .lst (x1 ++ x2)) hp3))
    generalize upd H5 p3 (.lst (x1 ++ x2)) = H6 at *
    generalize x1 ++ x2 = xs at *
    clear r4 r5 h4 h5 hb3 ha3 hp3 s5 s4
    refine ⟨p3, rfl, ⟨_, .inl (.inl h6)⟩, ?_⟩
    refine for_it (walk_list (xs := xs)) (fun i σ H7 => ∃ v4 v5 v6 v7 v8 : Option V, σ = [some (.ref a), some (.ref S), some va, some vb, v4, v5, v6, v7, v8] ∧ Same H6 H7) ⟨none, none, none, none, none, rfl, Same.refl _⟩ (fun i σ H7 _ ⟨_, _, _, _, _, _, s7⟩ => .inl (.inl (s7 _ _ h6))) ?_ ?_
    · rintro i y σ Hy H7 hi ⟨v4, v5, v6, v7, v8, rfl, s7⟩ ⟨rfl, hy⟩
      obtain ⟨r, hr2, t, fl, e1, e2, rfl, ht, hfl, x1, x2⟩ := RowsX.get (r6.same s7) hy
      rw [List.getElem?_mapIdx] at hr2
      obtain ⟨p, hp, rfl⟩ := Option.map_eq_some_iff.mp hr2
      have ha7 := ha6.same s7
      have hb7 := hb6.same s7
      refine ⟨t, _, rfl, .inl (.inl ht), rfl, _, _, rfl, _, _, rfl, _, _, rfl, _, _, rfl, rfl, ?_⟩
      walk_at "ls"
      refine ⟨(by show 2 ≤ sizeLine; decide), fun tp htp => ?_⟩
      have sn := same_new (o := .tup [V.ref e1, .ref e2]) htp
      have htp2 := upd_same (H := H7) (a := tp) (o := .tup [V.ref e1, .ref e2])
      have s8 := s7.trans sn
      have hfl8 := sn _ _ hfl
      have x18 := x1.same sn
      have x28 := x2.same sn
      have ha8 := ha7.same sn
      have hb8 := hb7.same sn
      generalize upd H7 tp (.tup [V.ref e1, .ref e2]) = H8 at *
      refine ⟨tp, rfl, ⟨_, .inl (.inl htp2)⟩, ?_⟩
      refine for_it (walk_tup (xs := [V.ref e1, .ref e2])) (fun j σ H9 => ∃ v8 : Option V, σ = [some (.ref a), some (.ref S), some va, some vb, some (.str p.1), some (.ref fl), some (.ref e1), some (.ref e2), v8] ∧ Same H8 H9) ⟨v8, rfl, Same.refl _⟩ (fun j σ H9 _ ⟨_, _, s9⟩ => .inl (.inl (s9 _ _ htp2))) ?_ ?_
      · rintro j y σ Hy2 H9 hj ⟨v8, rfl, s9⟩ ⟨rfl, hy2⟩
        obtain ⟨ex, rfl, xx⟩ : ∃ ex : Addr, y = .ref ex ∧ ExcAt H9 ex (C i) (valsX va vb p.2) := by
          match j, hy2 with
          | 0, hy2 => exact ⟨e1, (Option.some.inj hy2).symm, x18.same s9⟩
          | 1, hy2 => exact ⟨e2, (Option.some.inj hy2).symm, x28.same s9⟩
        have hi25 : i < 25 := (List.getElem?_eq_some_iff.mp hp).1
        walk_at "ls"
        refine ⟨ex, C i, _, .ref CS, .ref CS, true, rfl, .own CS, EK.ic i hi25, xx, EK.sup i hi25, _, rfl, iteF ?_⟩
        walk_at "ls"
        refine ⟨ex, C i, _, .ty "ValueError", .type "ValueError", true, rfl, .ty _, EK.ic i hi25, xx, EK.val i hi25, _, rfl, iteF ?_⟩
        walk_at "ls"
        refine ⟨ex, i, p, _, rfl, hp, xx, fun H10 pc h10 s10 => ?_⟩
        walk_at "ls"
        refine ⟨(by show 1 ≤ sizeLine; decide), fun lw hlw => ?_⟩
        have s11 := s10.trans (same_new (o := .lst [V.str p.1]) hlw)
        have h11 := same_new (o := .lst [V.str p.1]) hlw _ _ h10
        have h11w := upd_same (H := H10) (a := lw) (o := .lst [V.str p.1])
        generalize upd H10 lw (.lst [V.str p.1]) = H11 at *
        obtain ⟨sh, eq, l2⟩ := nm_shape p (List.mem_of_getElem? hp)
        refine ⟨.list [.str p.1], .list [.str p.1], .lst (.inl (.inl h11)) (.cons (.str _) .nil), .lst (.inl (.inl h11w)) (.cons (.str _) .nil), sh, sh, _, rfl, ?_⟩
        rw [eq]
        refine iteF ?_
        clear h11w hlw h11 h10 s10
        walk_at "ls"
        have hfl11 := s11 _ _ (s9 _ _ hfl8)
        refine ⟨ex, fl, i, p, va, vb, rfl, hp, hfl11, xx.same s11, fun H12 pf h12 s12 => ?_⟩
        walk_at "ls"
        refine ⟨(by show 2 ≤ sizeLine; decide), fun lab hlab => ?_⟩
        have s13 := s12.trans (same_new (o := .lst [va, vb]) hlab)
        have h13f := same_new (o := .lst [va, vb]) hlab _ _ h12
        have h13 := upd_same (H := H12) (a := lab) (o := .lst [va, vb])
        generalize upd H12 lab (.lst [va, vb]) = H13 at *
        walk_at "ls"
        have hfl13 := (s11.trans s13) _ _ (s9 _ _ hfl8)
        have hfl13b : H13 fl = some (.lst (p.2.map V.str)) := hfl13
        refine ⟨fl, p.2.map V.str, rfl, .inl (.inl (.inl hfl13b)), _, rfl, ?_⟩
        refine ⟨lab, _, rfl, .inl (.inl h13), fun ld hld => ?_⟩
        rw [List.length_map, due_cut l2]
        have s14 := same_new (o := .lst (dueX va vb p.2)) hld
        have h14f := s14 _ _ h13f
        have h14 := upd_same (H := H13) (a := ld) (o := .lst (dueX va vb p.2))
        generalize upd H13 ld (.lst (dueX va vb p.2)) = H14 at *
        have sA := ((s9.trans s11).trans s13).trans s14
        have ha14 := ha8.same sA
        have hb14 := hb8.same sA
        have ok := due_ok ha14 hb14 p.2
        walk_at "ls"
        refine ⟨pf, ld, .list (dueD da db p.2), rfl, .inl ⟨.lst (.inl (.inl h14f)) (due_dps ha14 hb14 p.2), ok.nd⟩, .inl ⟨.lst (.inl (.inl h14)) (due_dps ha14 hb14 p.2), ok.nd⟩, ok.fits (by decide) (by decide), ?_⟩
        refine ⟨_, rfl, iteF ?_⟩
        exact ⟨_, rfl, sA⟩
      · rintro σ H9 ⟨v8, rfl, s9⟩
        exact ⟨_, _, _, _, _, rfl, s8.trans s9⟩
    · rintro σ H7 ⟨v4, v5, v6, v7, v8, rfl, s7⟩
      walk_at "ls"
      exact q H7
end
end Ls
namespace Ls
open PySem PySem.Spec PyProof.Rows L2
/-! ### all errors at once -/
def errsB (K : PySem.W.Frag) (as : List Addr) (CS : Addr) : Bool :=
  (as.all fun c => xfB K c && (excB K c && (decide (PySem.W.kitOne K (.ref c) (.ref CS) = some true) && decide (PySem.W.kitOne K (.ref c) (.type "ValueError") = some true)))) &&
  (((nmX.zip as).all fun p => p.1.2.all fun f => findB K p.2 f none) &&
  ((List.range 25).all fun i => (List.range 25).all fun j => decide (PySem.W.kitOne K (.ref (as.getD i 0)) (.ref (as.getD j 0)) = some (decide (i = j)))))
theorem errsB_ok {K : PySem.W.Frag} {as : List Addr} {CS : Addr} (hl : as.length = 25) (q : errsB K as CS = true) : ErrsK K (fun n => as.getD n 0) CS := by
  unfold errsB at q
  obtain ⟨q1, q⟩ := Bool.and_eq_true_iff.mp q
  obtain ⟨q2, q3⟩ := Bool.and_eq_true_iff.mp q
  have mem : ∀ i, i < 25 → as.getD i 0 ∈ as := fun i hi => by
    rw [List.getD_eq_getElem?_getD, List.getElem?_eq_getElem (by omega)]
    exact List.getElem_mem _
  have a1 : ∀ i, i < 25 → _ := fun i hi => List.all_eq_true.mp q1 _ (mem i hi)
  refine ⟨fun i hi => ?_, fun i hi => ?_, fun i p hp f hf => ?_, fun i hi j hj => ?_, fun i hi => ?_, fun i hi => ?_⟩
  · exact xfB_ok (Bool.and_eq_true_iff.mp (a1 i hi)).1
  · exact excB_ok (Bool.and_eq_true_iff.mp (Bool.and_eq_true_iff.mp (a1 i hi)).2).1
  · have hi : i < 25 := (List.getElem?_eq_some_iff.mp hp).1
    have hz : (nmX.zip as)[i]? = some (p, as.getD i 0) := by
      rw [List.getElem?_zip_eq_some]
      refine ⟨hp, ?_⟩
      rw [List.getD_eq_getElem?_getD, List.getElem?_eq_getElem (by omega)]
      rfl
    exact of_decide_eq_true (List.all_eq_true.mp (List.all_eq_true.mp q2 _ (List.mem_of_getElem? hz)) f hf)
  · exact of_decide_eq_true (List.all_eq_true.mp (List.all_eq_true.mp q3 i (List.mem_range.mpr hi)) j (List.mem_range.mpr hj))
  · exact of_decide_eq_true (Bool.and_eq_true_iff.mp (Bool.and_eq_true_iff.mp (Bool.and_eq_true_iff.mp (a1 i hi)).2).2).1
  · exact of_decide_eq_true (Bool.and_eq_true_iff.mp (Bool.and_eq_true_iff.mp (Bool.and_eq_true_iff.mp (a1 i hi)).2).2).2
end Ls
namespace Ls
open PySem PySem.Spec PyProof.Rows L2 NdefX
/-! ### the texts of the own errors -/
abbrev s_BadName_init : Stmt := inClass (topS 2) 0
theorem tx_BadName : ErrTx s_BadName_init "BadName.__init__" [("name" : Str)] where
  nsc := nscope_by (by decide +kernel)
  hsup := rfl
  par := ⟨_, rfl, rfl⟩
  body := ⟨_, _, _, _, _, _, _, _, _, rfl, ⟨⟨⟨_, _, _, _, rfl⟩, by decide, by decide⟩, trivial⟩, fun f cc cda L => ⟨_, rfl⟩⟩
  bind := fun cc cda doc pm ct us hl => match us, hl with | [_, _], _ => rfl
abbrev s_NameInUse_init : Stmt := inClass (topS 3) 0
theorem tx_NameInUse : ErrTx s_NameInUse_init "NameInUse.__init__" [("name" : Str)] where
  nsc := nscope_by (by decide +kernel)
  hsup := rfl
  par := ⟨_, rfl, rfl⟩
  body := ⟨_, _, _, _, _, _, _, _, _, rfl, ⟨⟨⟨_, _, _, _, rfl⟩, by decide, by decide⟩, trivial⟩, fun f cc cda L => ⟨_, rfl⟩⟩
  bind := fun cc cda doc pm ct us hl => match us, hl with | [_, _], _ => rfl
abbrev s_UnknownKind_init : Stmt := inClass (topS 4) 0
theorem tx_UnknownKind : ErrTx s_UnknownKind_init "UnknownKind.__init__" [("kind" : Str)] where
  nsc := nscope_by (by decide +kernel)
  hsup := rfl
  par := ⟨_, rfl, rfl⟩
  body := ⟨_, _, _, _, _, _, _, _, _, rfl, ⟨⟨⟨_, _, _, _, rfl⟩, by decide, by decide⟩, trivial⟩, fun f cc cda L => ⟨_, rfl⟩⟩
  bind := fun cc cda doc pm ct us hl => match us, hl with | [_, _], _ => rfl
abbrev s_UnknownColumn_init : Stmt := inClass (topS 5) 0
theorem tx_UnknownColumn : ErrTx s_UnknownColumn_init "UnknownColumn.__init__" [("column" : Str)] where
  nsc := nscope_by (by decide +kernel)
  hsup := rfl
  par := ⟨_, rfl, rfl⟩
  body := ⟨_, _, _, _, _, _, _, _, _, rfl, ⟨⟨⟨_, _, _, _, rfl⟩, by decide, by decide⟩, trivial⟩, fun f cc cda L => ⟨_, rfl⟩⟩
  bind := fun cc cda doc pm ct us hl => match us, hl with | [_, _], _ => rfl
abbrev s_BadRule_init : Stmt := inClass (topS 6) 0
theorem tx_BadRule : ErrTx s_BadRule_init "BadRule.__init__" [("rule" : Str)] where
  nsc := nscope_by (by decide +kernel)
  hsup := rfl
  par := ⟨_, rfl, rfl⟩
  body := ⟨_, _, _, _, _, _, _, _, _, rfl, ⟨⟨⟨_, _, _, _, rfl⟩, by decide, by decide⟩, trivial⟩, fun f cc cda L => ⟨_, rfl⟩⟩
  bind := fun cc cda doc pm ct us hl => match us, hl with | [_, _], _ => rfl
abbrev s_UnknownCheck_init : Stmt := inClass (topS 7) 0
theorem tx_UnknownCheck : ErrTx s_UnknownCheck_init "UnknownCheck.__init__" [("check" : Str)] where
  nsc := nscope_by (by decide +kernel)
  hsup := rfl
  par := ⟨_, rfl, rfl⟩
  body := ⟨_, _, _, _, _, _, _, _, _, rfl, ⟨⟨⟨_, _, _, _, rfl⟩, by decide, by decide⟩, trivial⟩, fun f cc cda L => ⟨_, rfl⟩⟩
  bind := fun cc cda doc pm ct us hl => match us, hl with | [_, _], _ => rfl
abbrev s_UnlikeBooks_init : Stmt := inClass (topS 8) 0
theorem tx_UnlikeBooks : ErrTx s_UnlikeBooks_init "UnlikeBooks.__init__" [] where
  nsc := nscope_by (by decide +kernel)
  hsup := rfl
  par := ⟨_, rfl, rfl⟩
  body := ⟨_, _, _, _, _, _, _, _, _, rfl, trivial, fun f cc cda L => ⟨_, rfl⟩⟩
  bind := fun cc cda doc pm ct us hl => match us, hl with | [_], _ => rfl
abbrev s_BadNumber_init : Stmt := inClass (topS 9) 0
theorem tx_BadNumber : ErrTx s_BadNumber_init "BadNumber.__init__" [("number" : Str)] where
  nsc := nscope_by (by decide +kernel)
  hsup := rfl
  par := ⟨_, rfl, rfl⟩
  body := ⟨_, _, _, _, _, _, _, _, _, rfl, ⟨⟨⟨_, _, _, _, rfl⟩, by decide, by decide⟩, trivial⟩, fun f cc cda L => ⟨_, rfl⟩⟩
  bind := fun cc cda doc pm ct us hl => match us, hl with | [_, _], _ => rfl
abbrev s_Taken_init : Stmt := inClass (topS 10) 0
theorem tx_Taken : ErrTx s_Taken_init "Taken.__init__" [("kind" : Str), ("number" : Str)] where
  nsc := nscope_by (by decide +kernel)
  hsup := rfl
  par := ⟨_, rfl, rfl⟩
  body := ⟨_, _, _, _, _, _, _, _, _, rfl, ⟨⟨⟨_, _, _, _, rfl⟩, by decide, by decide⟩, ⟨⟨⟨_, _, _, _, rfl⟩, by decide, by decide⟩, trivial⟩⟩, fun f cc cda L => ⟨_, rfl⟩⟩
  bind := fun cc cda doc pm ct us hl => match us, hl with | [_, _, _], _ => rfl
abbrev s_Used_init : Stmt := inClass (topS 11) 0
theorem tx_Used : ErrTx s_Used_init "Used.__init__" [("kind" : Str), ("number" : Str)] where
  nsc := nscope_by (by decide +kernel)
  hsup := rfl
  par := ⟨_, rfl, rfl⟩
  body := ⟨_, _, _, _, _, _, _, _, _, rfl, ⟨⟨⟨_, _, _, _, rfl⟩, by decide, by decide⟩, ⟨⟨⟨_, _, _, _, rfl⟩, by decide, by decide⟩, trivial⟩⟩, fun f cc cda L => ⟨_, rfl⟩⟩
  bind := fun cc cda doc pm ct us hl => match us, hl with | [_, _, _], _ => rfl
abbrev s_NoRow_init : Stmt := inClass (topS 12) 0
theorem tx_NoRow : ErrTx s_NoRow_init "NoRow.__init__" [("kind" : Str), ("number" : Str)] where
  nsc := nscope_by (by decide +kernel)
  hsup := rfl
  par := ⟨_, rfl, rfl⟩
  body := ⟨_, _, _, _, _, _, _, _, _, rfl, ⟨⟨⟨_, _, _, _, rfl⟩, by decide, by decide⟩, ⟨⟨⟨_, _, _, _, rfl⟩, by decide, by decide⟩, trivial⟩⟩, fun f cc cda L => ⟨_, rfl⟩⟩
  bind := fun cc cda doc pm ct us hl => match us, hl with | [_, _, _], _ => rfl
abbrev s_OwnOwner_init : Stmt := inClass (topS 13) 0
theorem tx_OwnOwner : ErrTx s_OwnOwner_init "OwnOwner.__init__" [("column" : Str)] where
  nsc := nscope_by (by decide +kernel)
  hsup := rfl
  par := ⟨_, rfl, rfl⟩
  body := ⟨_, _, _, _, _, _, _, _, _, rfl, ⟨⟨⟨_, _, _, _, rfl⟩, by decide, by decide⟩, trivial⟩, fun f cc cda L => ⟨_, rfl⟩⟩
  bind := fun cc cda doc pm ct us hl => match us, hl with | [_, _], _ => rfl
abbrev s_Refused_init : Stmt := inClass (topS 14) 0
theorem tx_Refused : ErrTx s_Refused_init "Refused.__init__" [("check" : Str)] where
  nsc := nscope_by (by decide +kernel)
  hsup := rfl
  par := ⟨_, rfl, rfl⟩
  body := ⟨_, _, _, _, _, _, _, _, _, rfl, ⟨⟨⟨_, _, _, _, rfl⟩, by decide, by decide⟩, trivial⟩, fun f cc cda L => ⟨_, rfl⟩⟩
  bind := fun cc cda doc pm ct us hl => match us, hl with | [_, _], _ => rfl
abbrev s_NotOpen_init : Stmt := inClass (topS 15) 0
theorem tx_NotOpen : ErrTx s_NotOpen_init "NotOpen.__init__" [("kind" : Str)] where
  nsc := nscope_by (by decide +kernel)
  hsup := rfl
  par := ⟨_, rfl, rfl⟩
  body := ⟨_, _, _, _, _, _, _, _, _, rfl, ⟨⟨⟨_, _, _, _, rfl⟩, by decide, by decide⟩, trivial⟩, fun f cc cda L => ⟨_, rfl⟩⟩
  bind := fun cc cda doc pm ct us hl => match us, hl with | [_, _], _ => rfl
abbrev s_Busy_init : Stmt := inClass (topS 16) 0
theorem tx_Busy : ErrTx s_Busy_init "Busy.__init__" [("hand" : Str)] where
  nsc := nscope_by (by decide +kernel)
  hsup := rfl
  par := ⟨_, rfl, rfl⟩
  body := ⟨_, _, _, _, _, _, _, _, _, rfl, ⟨⟨⟨_, _, _, _, rfl⟩, by decide, by decide⟩, trivial⟩, fun f cc cda L => ⟨_, rfl⟩⟩
  bind := fun cc cda doc pm ct us hl => match us, hl with | [_, _], _ => rfl
abbrev s_Idle_init : Stmt := inClass (topS 17) 0
theorem tx_Idle : ErrTx s_Idle_init "Idle.__init__" [("hand" : Str)] where
  nsc := nscope_by (by decide +kernel)
  hsup := rfl
  par := ⟨_, rfl, rfl⟩
  body := ⟨_, _, _, _, _, _, _, _, _, rfl, ⟨⟨⟨_, _, _, _, rfl⟩, by decide, by decide⟩, trivial⟩, fun f cc cda L => ⟨_, rfl⟩⟩
  bind := fun cc cda doc pm ct us hl => match us, hl with | [_, _], _ => rfl
abbrev s_BadPiece_init : Stmt := inClass (topS 18) 0
theorem tx_BadPiece : ErrTx s_BadPiece_init "BadPiece.__init__" [("piece" : Str)] where
  nsc := nscope_by (by decide +kernel)
  hsup := rfl
  par := ⟨_, rfl, rfl⟩
  body := ⟨_, _, _, _, _, _, _, _, _, rfl, ⟨⟨⟨_, _, _, _, rfl⟩, by decide, by decide⟩, trivial⟩, fun f cc cda L => ⟨_, rfl⟩⟩
  bind := fun cc cda doc pm ct us hl => match us, hl with | [_, _], _ => rfl
abbrev s_BadList_init : Stmt := inClass (topS 19) 0
theorem tx_BadList : ErrTx s_BadList_init "BadList.__init__" [("numbers" : Str)] where
  nsc := nscope_by (by decide +kernel)
  hsup := rfl
  par := ⟨_, rfl, rfl⟩
  body := ⟨_, _, _, _, _, _, _, _, _, rfl, ⟨⟨⟨_, _, _, _, rfl⟩, by decide, by decide⟩, trivial⟩, fun f cc cda L => ⟨_, rfl⟩⟩
  bind := fun cc cda doc pm ct us hl => match us, hl with | [_, _], _ => rfl
abbrev s_NoFit_init : Stmt := inClass (topS 20) 0
theorem tx_NoFit : ErrTx s_NoFit_init "NoFit.__init__" [("number" : Str)] where
  nsc := nscope_by (by decide +kernel)
  hsup := rfl
  par := ⟨_, rfl, rfl⟩
  body := ⟨_, _, _, _, _, _, _, _, _, rfl, ⟨⟨⟨_, _, _, _, rfl⟩, by decide, by decide⟩, trivial⟩, fun f cc cda L => ⟨_, rfl⟩⟩
  bind := fun cc cda doc pm ct us hl => match us, hl with | [_, _], _ => rfl
abbrev s_BadQuestion_init : Stmt := inClass (topS 21) 0
theorem tx_BadQuestion : ErrTx s_BadQuestion_init "BadQuestion.__init__" [("question" : Str)] where
  nsc := nscope_by (by decide +kernel)
  hsup := rfl
  par := ⟨_, rfl, rfl⟩
  body := ⟨_, _, _, _, _, _, _, _, _, rfl, ⟨⟨⟨_, _, _, _, rfl⟩, by decide, by decide⟩, trivial⟩, fun f cc cda L => ⟨_, rfl⟩⟩
  bind := fun cc cda doc pm ct us hl => match us, hl with | [_, _], _ => rfl
abbrev s_BadDeed_init : Stmt := inClass (topS 22) 0
theorem tx_BadDeed : ErrTx s_BadDeed_init "BadDeed.__init__" [] where
  nsc := nscope_by (by decide +kernel)
  hsup := rfl
  par := ⟨_, rfl, rfl⟩
  body := ⟨_, _, _, _, _, _, _, _, _, rfl, trivial, fun f cc cda L => ⟨_, rfl⟩⟩
  bind := fun cc cda doc pm ct us hl => match us, hl with | [_], _ => rfl
abbrev s_BadWeaving_init : Stmt := inClass (topS 23) 0
theorem tx_BadWeaving : ErrTx s_BadWeaving_init "BadWeaving.__init__" [("index" : Str)] where
  nsc := nscope_by (by decide +kernel)
  hsup := rfl
  par := ⟨_, rfl, rfl⟩
  body := ⟨_, _, _, _, _, _, _, _, _, rfl, ⟨⟨⟨_, _, _, _, rfl⟩, by decide, by decide⟩, trivial⟩, fun f cc cda L => ⟨_, rfl⟩⟩
  bind := fun cc cda doc pm ct us hl => match us, hl with | [_, _], _ => rfl
abbrev s_NothingToUndo_init : Stmt := inClass (topS 24) 0
theorem tx_NothingToUndo : ErrTx s_NothingToUndo_init "NothingToUndo.__init__" [] where
  nsc := nscope_by (by decide +kernel)
  hsup := rfl
  par := ⟨_, rfl, rfl⟩
  body := ⟨_, _, _, _, _, _, _, _, _, rfl, trivial, fun f cc cda L => ⟨_, rfl⟩⟩
  bind := fun cc cda doc pm ct us hl => match us, hl with | [_], _ => rfl
abbrev s_NothingToRedo_init : Stmt := inClass (topS 25) 0
theorem tx_NothingToRedo : ErrTx s_NothingToRedo_init "NothingToRedo.__init__" [] where
  nsc := nscope_by (by decide +kernel)
  hsup := rfl
  par := ⟨_, rfl, rfl⟩
  body := ⟨_, _, _, _, _, _, _, _, _, rfl, trivial, fun f cc cda L => ⟨_, rfl⟩⟩
  bind := fun cc cda doc pm ct us hl => match us, hl with | [_], _ => rfl
abbrev s_BadLine_init : Stmt := inClass (topS 26) 0
theorem tx_BadLine : ErrTx s_BadLine_init "BadLine.__init__" [("index" : Str)] where
  nsc := nscope_by (by decide +kernel)
  hsup := rfl
  par := ⟨_, rfl, rfl⟩
  body := ⟨_, _, _, _, _, _, _, _, _, rfl, ⟨⟨⟨_, _, _, _, rfl⟩, by decide, by decide⟩, trivial⟩, fun f cc cda L => ⟨_, rfl⟩⟩
  bind := fun cc cda doc pm ct us hl => match us, hl with | [_, _], _ => rfl
theorem txk_BadName : KwTx s_BadName_init "BadName.__init__" [("name" : Str)] [("name" : Str)] (fun us ws => us ++ ws) := fun cc cda doc pm ct us ws l1 l2 => match us, ws, l1, l2 with | [_], [_], _, _ => rfl
theorem txk_NameInUse : KwTx s_NameInUse_init "NameInUse.__init__" [("name" : Str)] [("name" : Str)] (fun us ws => us ++ ws) := fun cc cda doc pm ct us ws l1 l2 => match us, ws, l1, l2 with | [_], [_], _, _ => rfl
theorem txk_UnknownKind : KwTx s_UnknownKind_init "UnknownKind.__init__" [("kind" : Str)] [("kind" : Str)] (fun us ws => us ++ ws) := fun cc cda doc pm ct us ws l1 l2 => match us, ws, l1, l2 with | [_], [_], _, _ => rfl
theorem txk_UnknownColumn : KwTx s_UnknownColumn_init "UnknownColumn.__init__" [("column" : Str)] [("column" : Str)] (fun us ws => us ++ ws) := fun cc cda doc pm ct us ws l1 l2 => match us, ws, l1, l2 with | [_], [_], _, _ => rfl
theorem txk_BadRule : KwTx s_BadRule_init "BadRule.__init__" [("rule" : Str)] [("rule" : Str)] (fun us ws => us ++ ws) := fun cc cda doc pm ct us ws l1 l2 => match us, ws, l1, l2 with | [_], [_], _, _ => rfl
theorem txk_UnknownCheck : KwTx s_UnknownCheck_init "UnknownCheck.__init__" [("check" : Str)] [("check" : Str)] (fun us ws => us ++ ws) := fun cc cda doc pm ct us ws l1 l2 => match us, ws, l1, l2 with | [_], [_], _, _ => rfl
theorem txk_UnlikeBooks : KwTx s_UnlikeBooks_init "UnlikeBooks.__init__" [] [] (fun us ws => us ++ ws) := fun cc cda doc pm ct us ws l1 l2 => match us, ws, l1, l2 with | [_], [], _, _ => rfl
theorem txk_BadNumber : KwTx s_BadNumber_init "BadNumber.__init__" [("number" : Str)] [("number" : Str)] (fun us ws => us ++ ws) := fun cc cda doc pm ct us ws l1 l2 => match us, ws, l1, l2 with | [_], [_], _, _ => rfl
theorem txk_Taken : KwTx s_Taken_init "Taken.__init__" [("kind" : Str), ("number" : Str)] [("number" : Str), ("kind" : Str)] (fun us ws => us ++ ws.reverse) := fun cc cda doc pm ct us ws l1 l2 => match us, ws, l1, l2 with | [_], [_, _], _, _ => rfl
theorem txk_Used : KwTx s_Used_init "Used.__init__" [("kind" : Str), ("number" : Str)] [("number" : Str), ("kind" : Str)] (fun us ws => us ++ ws.reverse) := fun cc cda doc pm ct us ws l1 l2 => match us, ws, l1, l2 with | [_], [_, _], _, _ => rfl
theorem txk_NoRow : KwTx s_NoRow_init "NoRow.__init__" [("kind" : Str), ("number" : Str)] [("number" : Str), ("kind" : Str)] (fun us ws => us ++ ws.reverse) := fun cc cda doc pm ct us ws l1 l2 => match us, ws, l1, l2 with | [_], [_, _], _, _ => rfl
theorem txk_OwnOwner : KwTx s_OwnOwner_init "OwnOwner.__init__" [("column" : Str)] [("column" : Str)] (fun us ws => us ++ ws) := fun cc cda doc pm ct us ws l1 l2 => match us, ws, l1, l2 with | [_], [_], _, _ => rfl
theorem txk_Refused : KwTx s_Refused_init "Refused.__init__" [("check" : Str)] [("check" : Str)] (fun us ws => us ++ ws) := fun cc cda doc pm ct us ws l1 l2 => match us, ws, l1, l2 with | [_], [_], _, _ => rfl
theorem txk_NotOpen : KwTx s_NotOpen_init "NotOpen.__init__" [("kind" : Str)] [("kind" : Str)] (fun us ws => us ++ ws) := fun cc cda doc pm ct us ws l1 l2 => match us, ws, l1, l2 with | [_], [_], _, _ => rfl
theorem txk_Busy : KwTx s_Busy_init "Busy.__init__" [("hand" : Str)] [("hand" : Str)] (fun us ws => us ++ ws) := fun cc cda doc pm ct us ws l1 l2 => match us, ws, l1, l2 with | [_], [_], _, _ => rfl
theorem txk_Idle : KwTx s_Idle_init "Idle.__init__" [("hand" : Str)] [("hand" : Str)] (fun us ws => us ++ ws) := fun cc cda doc pm ct us ws l1 l2 => match us, ws, l1, l2 with | [_], [_], _, _ => rfl
theorem txk_BadPiece : KwTx s_BadPiece_init "BadPiece.__init__" [("piece" : Str)] [("piece" : Str)] (fun us ws => us ++ ws) := fun cc cda doc pm ct us ws l1 l2 => match us, ws, l1, l2 with | [_], [_], _, _ => rfl
theorem txk_BadList : KwTx s_BadList_init "BadList.__init__" [("numbers" : Str)] [("numbers" : Str)] (fun us ws => us ++ ws) := fun cc cda doc pm ct us ws l1 l2 => match us, ws, l1, l2 with | [_], [_], _, _ => rfl
theorem txk_NoFit : KwTx s_NoFit_init "NoFit.__init__" [("number" : Str)] [("number" : Str)] (fun us ws => us ++ ws) := fun cc cda doc pm ct us ws l1 l2 => match us, ws, l1, l2 with | [_], [_], _, _ => rfl
theorem txk_BadQuestion : KwTx s_BadQuestion_init "BadQuestion.__init__" [("question" : Str)] [("question" : Str)] (fun us ws => us ++ ws) := fun cc cda doc pm ct us ws l1 l2 => match us, ws, l1, l2 with | [_], [_], _, _ => rfl
theorem txk_BadDeed : KwTx s_BadDeed_init "BadDeed.__init__" [] [] (fun us ws => us ++ ws) := fun cc cda doc pm ct us ws l1 l2 => match us, ws, l1, l2 with | [_], [], _, _ => rfl
theorem txk_BadWeaving : KwTx s_BadWeaving_init "BadWeaving.__init__" [("index" : Str)] [("index" : Str)] (fun us ws => us ++ ws) := fun cc cda doc pm ct us ws l1 l2 => match us, ws, l1, l2 with | [_], [_], _, _ => rfl
theorem txk_NothingToUndo : KwTx s_NothingToUndo_init "NothingToUndo.__init__" [] [] (fun us ws => us ++ ws) := fun cc cda doc pm ct us ws l1 l2 => match us, ws, l1, l2 with | [_], [], _, _ => rfl
theorem txk_NothingToRedo : KwTx s_NothingToRedo_init "NothingToRedo.__init__" [] [] (fun us ws => us ++ ws) := fun cc cda doc pm ct us ws l1 l2 => match us, ws, l1, l2 with | [_], [], _, _ => rfl
theorem txk_BadLine : KwTx s_BadLine_init "BadLine.__init__" [("index" : Str)] [("index" : Str)] (fun us ws => us ++ ws) := fun cc cda doc pm ct us ws l1 l2 => match us, ws, l1, l2 with | [_], [_], _, _ => rfl
end Ls
namespace Ls
open PySem PySem.Spec PyProof.Rows L2
/-- classes apart, as one test -/
def exmB (K : PySem.W.Frag) (l : List Addr) : Bool := (l.all fun a => l.all fun b => decide (PySem.W.exmOne K (.ref a) (.ref b) = some (decide (a = b)))) && decide l.Nodup
theorem exmB_ok {K : PySem.W.Frag} {l : List Addr} (h : exmB K l = true) : (∀ a ∈ l, ∀ b ∈ l, PySem.W.exmOne K (.ref a) (.ref b) = some (decide (a = b))) ∧ l.Nodup := by
  unfold exmB at h
  obtain ⟨h1, h2⟩ := Bool.and_eq_true_iff.mp h
  exact ⟨fun a ha b hb => of_decide_eq_true (List.all_eq_true.mp (List.all_eq_true.mp h1 a ha) b hb), of_decide_eq_true h2⟩
theorem exm_self {K : PySem.W.Frag} {a : Addr} {l : List Addr} (h : exmB K l = true) (m : a ∈ l) : PySem.W.exmOne K (.ref a) (.ref a) = some true := by
  have := (exmB_ok h).1 a m a m
  rw [decide_eq_true rfl] at this
  exact this
end Ls
namespace Ls
open PySem PySem.Spec PyProof.Rows L2 NdefX
/-! ### what the top has written -/
set_option maxHeartbeats 16000000 in
theorem all_mk {l : PySem.W.OpenLaw} {w : World} {K : PySem.W.Frag} {h : Heap} {mg : Str → Option Value} {fa : Addr} (X : K.In h) (G : h.Ns mainGlobals mg) (hfa : mg "law" = some (.ref fa))
    {f0 : Addr} {oc0 kV0 dc0 pm0 cd0 ct0 : Value} {od0 an0 : Option Addr} {sl0 : Array (Option Value)}
    {f1 : Addr} {oc1 kV1 dc1 pm1 cd1 ct1 : Value} {od1 an1 : Option Addr} {sl1 : Array (Option Value)}
    {f2 : Addr} {oc2 kV2 dc2 pm2 cd2 ct2 : Value} {od2 an2 : Option Addr} {sl2 : Array (Option Value)}
    {f3 : Addr} {oc3 kV3 dc3 pm3 cd3 ct3 : Value} {od3 an3 : Option Addr} {sl3 : Array (Option Value)}
    {f4 : Addr} {oc4 kV4 dc4 pm4 cd4 ct4 : Value} {od4 an4 : Option Addr} {sl4 : Array (Option Value)}
    {f5 : Addr} {oc5 kV5 dc5 pm5 cd5 ct5 : Value} {od5 an5 : Option Addr} {sl5 : Array (Option Value)}
    {f6 : Addr} {oc6 kV6 dc6 pm6 cd6 ct6 : Value} {od6 an6 : Option Addr} {sl6 : Array (Option Value)}
    {f7 : Addr} {oc7 kV7 dc7 pm7 cd7 ct7 : Value} {od7 an7 : Option Addr} {sl7 : Array (Option Value)}
    {f8 : Addr} {oc8 kV8 dc8 pm8 cd8 ct8 : Value} {od8 an8 : Option Addr} {sl8 : Array (Option Value)}
    {C_BadName fIBadName ccBadName cdaBadName : Addr} {ocBadName dcBadName pmBadName ctBadName : Value} {odBadName : Option Addr} {slBadName : Array (Option Value)}
    {C_NameInUse fINameInUse ccNameInUse cdaNameInUse : Addr} {ocNameInUse dcNameInUse pmNameInUse ctNameInUse : Value} {odNameInUse : Option Addr} {slNameInUse : Array (Option Value)}
    {C_UnknownKind fIUnknownKind ccUnknownKind cdaUnknownKind : Addr} {ocUnknownKind dcUnknownKind pmUnknownKind ctUnknownKind : Value} {odUnknownKind : Option Addr} {slUnknownKind : Array (Option Value)}
    {C_UnknownColumn fIUnknownColumn ccUnknownColumn cdaUnknownColumn : Addr} {ocUnknownColumn dcUnknownColumn pmUnknownColumn ctUnknownColumn : Value} {odUnknownColumn : Option Addr} {slUnknownColumn : Array (Option Value)}
    {C_BadRule fIBadRule ccBadRule cdaBadRule : Addr} {ocBadRule dcBadRule pmBadRule ctBadRule : Value} {odBadRule : Option Addr} {slBadRule : Array (Option Value)}
    {C_UnknownCheck fIUnknownCheck ccUnknownCheck cdaUnknownCheck : Addr} {ocUnknownCheck dcUnknownCheck pmUnknownCheck ctUnknownCheck : Value} {odUnknownCheck : Option Addr} {slUnknownCheck : Array (Option Value)}
    {C_UnlikeBooks fIUnlikeBooks ccUnlikeBooks cdaUnlikeBooks : Addr} {ocUnlikeBooks dcUnlikeBooks pmUnlikeBooks ctUnlikeBooks : Value} {odUnlikeBooks : Option Addr} {slUnlikeBooks : Array (Option Value)}
    {C_BadNumber fIBadNumber ccBadNumber cdaBadNumber : Addr} {ocBadNumber dcBadNumber pmBadNumber ctBadNumber : Value} {odBadNumber : Option Addr} {slBadNumber : Array (Option Value)}
    {C_Taken fITaken ccTaken cdaTaken : Addr} {ocTaken dcTaken pmTaken ctTaken : Value} {odTaken : Option Addr} {slTaken : Array (Option Value)}
    {C_Used fIUsed ccUsed cdaUsed : Addr} {ocUsed dcUsed pmUsed ctUsed : Value} {odUsed : Option Addr} {slUsed : Array (Option Value)}
    {C_NoRow fINoRow ccNoRow cdaNoRow : Addr} {ocNoRow dcNoRow pmNoRow ctNoRow : Value} {odNoRow : Option Addr} {slNoRow : Array (Option Value)}
    {C_OwnOwner fIOwnOwner ccOwnOwner cdaOwnOwner : Addr} {ocOwnOwner dcOwnOwner pmOwnOwner ctOwnOwner : Value} {odOwnOwner : Option Addr} {slOwnOwner : Array (Option Value)}
    {C_Refused fIRefused ccRefused cdaRefused : Addr} {ocRefused dcRefused pmRefused ctRefused : Value} {odRefused : Option Addr} {slRefused : Array (Option Value)}
    {C_NotOpen fINotOpen ccNotOpen cdaNotOpen : Addr} {ocNotOpen dcNotOpen pmNotOpen ctNotOpen : Value} {odNotOpen : Option Addr} {slNotOpen : Array (Option Value)}
    {C_Busy fIBusy ccBusy cdaBusy : Addr} {ocBusy dcBusy pmBusy ctBusy : Value} {odBusy : Option Addr} {slBusy : Array (Option Value)}
    {C_Idle fIIdle ccIdle cdaIdle : Addr} {ocIdle dcIdle pmIdle ctIdle : Value} {odIdle : Option Addr} {slIdle : Array (Option Value)}
    {C_BadPiece fIBadPiece ccBadPiece cdaBadPiece : Addr} {ocBadPiece dcBadPiece pmBadPiece ctBadPiece : Value} {odBadPiece : Option Addr} {slBadPiece : Array (Option Value)}
    {C_BadList fIBadList ccBadList cdaBadList : Addr} {ocBadList dcBadList pmBadList ctBadList : Value} {odBadList : Option Addr} {slBadList : Array (Option Value)}
    {C_NoFit fINoFit ccNoFit cdaNoFit : Addr} {ocNoFit dcNoFit pmNoFit ctNoFit : Value} {odNoFit : Option Addr} {slNoFit : Array (Option Value)}
    {C_BadQuestion fIBadQuestion ccBadQuestion cdaBadQuestion : Addr} {ocBadQuestion dcBadQuestion pmBadQuestion ctBadQuestion : Value} {odBadQuestion : Option Addr} {slBadQuestion : Array (Option Value)}
    {C_BadDeed fIBadDeed ccBadDeed cdaBadDeed : Addr} {ocBadDeed dcBadDeed pmBadDeed ctBadDeed : Value} {odBadDeed : Option Addr} {slBadDeed : Array (Option Value)}
    {C_BadWeaving fIBadWeaving ccBadWeaving cdaBadWeaving : Addr} {ocBadWeaving dcBadWeaving pmBadWeaving ctBadWeaving : Value} {odBadWeaving : Option Addr} {slBadWeaving : Array (Option Value)}
    {C_NothingToUndo fINothingToUndo ccNothingToUndo cdaNothingToUndo : Addr} {ocNothingToUndo dcNothingToUndo pmNothingToUndo ctNothingToUndo : Value} {odNothingToUndo : Option Addr} {slNothingToUndo : Array (Option Value)}
    {C_NothingToRedo fINothingToRedo ccNothingToRedo cdaNothingToRedo : Addr} {ocNothingToRedo dcNothingToRedo pmNothingToRedo ctNothingToRedo : Value} {odNothingToRedo : Option Addr} {slNothingToRedo : Array (Option Value)}
    {C_BadLine fIBadLine ccBadLine cdaBadLine : Addr} {ocBadLine dcBadLine pmBadLine ctBadLine : Value} {odBadLine : Option Addr} {slBadLine : Array (Option Value)}
    {C_StrikeError : Addr}
    (a0 : PySem.W.nsIn K mainGlobals "_law_draw" = some (some (.ref f0)))
    (l0 : K.lookup f0 = some ⟨oc0, od0, .func (PySem.W.fnOf "_law_draw" "_law_draw" (defArgs s__law_draw) (defBody s__law_draw) (defScope s__law_draw) .none kV0 dc0 pm0 an0 cd0 ct0), sl0⟩)
    (c0 : PySem.W.codeIn K cd0 "_law_draw" = true)
    (k0 : PySem.W.keepIn K (.ref f0) = true)
    (a1 : PySem.W.nsIn K mainGlobals "_law_pick" = some (some (.ref f1)))
    (l1 : K.lookup f1 = some ⟨oc1, od1, .func (PySem.W.fnOf "_law_pick" "_law_pick" (defArgs s__law_pick) (defBody s__law_pick) (defScope s__law_pick) .none kV1 dc1 pm1 an1 cd1 ct1), sl1⟩)
    (c1 : PySem.W.codeIn K cd1 "_law_pick" = true)
    (k1 : PySem.W.keepIn K (.ref f1) = true)
    (a2 : PySem.W.nsIn K mainGlobals "_law_same" = some (some (.ref f2)))
    (l2 : K.lookup f2 = some ⟨oc2, od2, .func (PySem.W.fnOf "_law_same" "_law_same" (defArgs s__law_same) (defBody s__law_same) (defScope s__law_same) .none kV2 dc2 pm2 an2 cd2 ct2), sl2⟩)
    (c2 : PySem.W.codeIn K cd2 "_law_same" = true)
    (k2 : PySem.W.keepIn K (.ref f2) = true)
    (a3 : PySem.W.nsIn K mainGlobals "_law_fields" = some (some (.ref f3)))
    (l3 : K.lookup f3 = some ⟨oc3, od3, .func (PySem.W.fnOf "_law_fields" "_law_fields" (defArgs s__law_fields) (defBody s__law_fields) (defScope s__law_fields) .none kV3 dc3 pm3 an3 cd3 ct3), sl3⟩)
    (c3 : PySem.W.codeIn K cd3 "_law_fields" = true)
    (k3 : PySem.W.keepIn K (.ref f3) = true)
    (a4 : PySem.W.nsIn K mainGlobals "_law_first_half" = some (some (.ref f4)))
    (l4 : K.lookup f4 = some ⟨oc4, od4, .func (PySem.W.fnOf "_law_first_half" "_law_first_half" (defArgs s__law_first_half) (defBody s__law_first_half) (defScope s__law_first_half) .none kV4 dc4 pm4 an4 cd4 ct4), sl4⟩)
    (c4 : PySem.W.codeIn K cd4 "_law_first_half" = true)
    (k4 : PySem.W.keepIn K (.ref f4) = true)
    (a5 : PySem.W.nsIn K mainGlobals "_law_other_half" = some (some (.ref f5)))
    (l5 : K.lookup f5 = some ⟨oc5, od5, .func (PySem.W.fnOf "_law_other_half" "_law_other_half" (defArgs s__law_other_half) (defBody s__law_other_half) (defScope s__law_other_half) .none kV5 dc5 pm5 an5 cd5 ct5), sl5⟩)
    (c5 : PySem.W.codeIn K cd5 "_law_other_half" = true)
    (k5 : PySem.W.keepIn K (.ref f5) = true)
    (a6 : PySem.W.nsIn K mainGlobals "_law_classes" = some (some (.ref f6)))
    (l6 : K.lookup f6 = some ⟨oc6, od6, .func (PySem.W.fnOf "_law_classes" "_law_classes" (defArgs s__law_classes) (defBody s__law_classes) (defScope s__law_classes) .none kV6 dc6 pm6 an6 cd6 ct6), sl6⟩)
    (c6 : PySem.W.codeIn K cd6 "_law_classes" = true)
    (k6 : PySem.W.keepIn K (.ref f6) = true)
    (a7 : PySem.W.nsIn K mainGlobals "_law_thing" = some (some (.ref f7)))
    (l7 : K.lookup f7 = some ⟨oc7, od7, .func (PySem.W.fnOf "_law_thing" "_law_thing" (defArgs s__law_thing) (defBody s__law_thing) (defScope s__law_thing) .none kV7 dc7 pm7 an7 cd7 ct7), sl7⟩)
    (c7 : PySem.W.codeIn K cd7 "_law_thing" = true)
    (k7 : PySem.W.keepIn K (.ref f7) = true)
    (a8 : PySem.W.nsIn K mainGlobals "law" = some (some (.ref f8)))
    (l8 : K.lookup f8 = some ⟨oc8, od8, .func (PySem.W.fnOf "law" "law" (defArgs s_law) (defBody s_law) (defScope s_law) .none kV8 dc8 pm8 an8 cd8 ct8), sl8⟩)
    (c8 : PySem.W.codeIn K cd8 "law" = true)
    (k8 : PySem.W.keepIn K (.ref f8) = true)
    (aE_BadName : PySem.W.nsIn K mainGlobals "BadName" = some (some (.ref C_BadName)))
    (iE_BadName : PySem.W.findIn K (.ref C_BadName) "__init__" = some (some (.ref fIBadName)))
    (lE_BadName : K.lookup fIBadName = some ⟨ocBadName, odBadName, .func (PySem.W.fnX "__init__" "BadName.__init__" (defArgs s_BadName_init) (defBody s_BadName_init) (defScope s_BadName_init) [("__class__", ccBadName)] .none .none dcBadName pmBadName none (.ref cdaBadName) ctBadName), slBadName⟩)
    (cE_BadName : PySem.W.codeIn K (.ref cdaBadName) "BadName.__init__" = true)
    (bE_BadName : errB l.prog K C_BadName fIBadName ccBadName cdaBadName ["name"] = true)
    (vE_BadName : excB K C_BadName = true)
    (aE_NameInUse : PySem.W.nsIn K mainGlobals "NameInUse" = some (some (.ref C_NameInUse)))
    (iE_NameInUse : PySem.W.findIn K (.ref C_NameInUse) "__init__" = some (some (.ref fINameInUse)))
    (lE_NameInUse : K.lookup fINameInUse = some ⟨ocNameInUse, odNameInUse, .func (PySem.W.fnX "__init__" "NameInUse.__init__" (defArgs s_NameInUse_init) (defBody s_NameInUse_init) (defScope s_NameInUse_init) [("__class__", ccNameInUse)] .none .none dcNameInUse pmNameInUse none (.ref cdaNameInUse) ctNameInUse), slNameInUse⟩)
    (cE_NameInUse : PySem.W.codeIn K (.ref cdaNameInUse) "NameInUse.__init__" = true)
    (bE_NameInUse : errB l.prog K C_NameInUse fINameInUse ccNameInUse cdaNameInUse ["name"] = true)
    (vE_NameInUse : excB K C_NameInUse = true)
    (aE_UnknownKind : PySem.W.nsIn K mainGlobals "UnknownKind" = some (some (.ref C_UnknownKind)))
    (iE_UnknownKind : PySem.W.findIn K (.ref C_UnknownKind) "__init__" = some (some (.ref fIUnknownKind)))
    (lE_UnknownKind : K.lookup fIUnknownKind = some ⟨ocUnknownKind, odUnknownKind, .func (PySem.W.fnX "__init__" "UnknownKind.__init__" (defArgs s_UnknownKind_init) (defBody s_UnknownKind_init) (defScope s_UnknownKind_init) [("__class__", ccUnknownKind)] .none .none dcUnknownKind pmUnknownKind none (.ref cdaUnknownKind) ctUnknownKind), slUnknownKind⟩)
    (cE_UnknownKind : PySem.W.codeIn K (.ref cdaUnknownKind) "UnknownKind.__init__" = true)
    (bE_UnknownKind : errB l.prog K C_UnknownKind fIUnknownKind ccUnknownKind cdaUnknownKind ["kind"] = true)
    (vE_UnknownKind : excB K C_UnknownKind = true)
    (aE_UnknownColumn : PySem.W.nsIn K mainGlobals "UnknownColumn" = some (some (.ref C_UnknownColumn)))
    (iE_UnknownColumn : PySem.W.findIn K (.ref C_UnknownColumn) "__init__" = some (some (.ref fIUnknownColumn)))
    (lE_UnknownColumn : K.lookup fIUnknownColumn = some ⟨ocUnknownColumn, odUnknownColumn, .func (PySem.W.fnX "__init__" "UnknownColumn.__init__" (defArgs s_UnknownColumn_init) (defBody s_UnknownColumn_init) (defScope s_UnknownColumn_init) [("__class__", ccUnknownColumn)] .none .none dcUnknownColumn pmUnknownColumn none (.ref cdaUnknownColumn) ctUnknownColumn), slUnknownColumn⟩)
    (cE_UnknownColumn : PySem.W.codeIn K (.ref cdaUnknownColumn) "UnknownColumn.__init__" = true)
    (bE_UnknownColumn : errB l.prog K C_UnknownColumn fIUnknownColumn ccUnknownColumn cdaUnknownColumn ["column"] = true)
    (vE_UnknownColumn : excB K C_UnknownColumn = true)
    (aE_BadRule : PySem.W.nsIn K mainGlobals "BadRule" = some (some (.ref C_BadRule)))
    (iE_BadRule : PySem.W.findIn K (.ref C_BadRule) "__init__" = some (some (.ref fIBadRule)))
    (lE_BadRule : K.lookup fIBadRule = some ⟨ocBadRule, odBadRule, .func (PySem.W.fnX "__init__" "BadRule.__init__" (defArgs s_BadRule_init) (defBody s_BadRule_init) (defScope s_BadRule_init) [("__class__", ccBadRule)] .none .none dcBadRule pmBadRule none (.ref cdaBadRule) ctBadRule), slBadRule⟩)
    (cE_BadRule : PySem.W.codeIn K (.ref cdaBadRule) "BadRule.__init__" = true)
    (bE_BadRule : errB l.prog K C_BadRule fIBadRule ccBadRule cdaBadRule ["rule"] = true)
    (vE_BadRule : excB K C_BadRule = true)
    (aE_UnknownCheck : PySem.W.nsIn K mainGlobals "UnknownCheck" = some (some (.ref C_UnknownCheck)))
    (iE_UnknownCheck : PySem.W.findIn K (.ref C_UnknownCheck) "__init__" = some (some (.ref fIUnknownCheck)))
    (lE_UnknownCheck : K.lookup fIUnknownCheck = some ⟨ocUnknownCheck, odUnknownCheck, .func (PySem.W.fnX "__init__" "UnknownCheck.__init__" (defArgs s_UnknownCheck_init) (defBody s_UnknownCheck_init) (defScope s_UnknownCheck_init) [("__class__", ccUnknownCheck)] .none .none dcUnknownCheck pmUnknownCheck none (.ref cdaUnknownCheck) ctUnknownCheck), slUnknownCheck⟩)
    (cE_UnknownCheck : PySem.W.codeIn K (.ref cdaUnknownCheck) "UnknownCheck.__init__" = true)
    (bE_UnknownCheck : errB l.prog K C_UnknownCheck fIUnknownCheck ccUnknownCheck cdaUnknownCheck ["check"] = true)
    (vE_UnknownCheck : excB K C_UnknownCheck = true)
    (aE_UnlikeBooks : PySem.W.nsIn K mainGlobals "UnlikeBooks" = some (some (.ref C_UnlikeBooks)))
    (iE_UnlikeBooks : PySem.W.findIn K (.ref C_UnlikeBooks) "__init__" = some (some (.ref fIUnlikeBooks)))
    (lE_UnlikeBooks : K.lookup fIUnlikeBooks = some ⟨ocUnlikeBooks, odUnlikeBooks, .func (PySem.W.fnX "__init__" "UnlikeBooks.__init__" (defArgs s_UnlikeBooks_init) (defBody s_UnlikeBooks_init) (defScope s_UnlikeBooks_init) [("__class__", ccUnlikeBooks)] .none .none dcUnlikeBooks pmUnlikeBooks none (.ref cdaUnlikeBooks) ctUnlikeBooks), slUnlikeBooks⟩)
    (cE_UnlikeBooks : PySem.W.codeIn K (.ref cdaUnlikeBooks) "UnlikeBooks.__init__" = true)
    (bE_UnlikeBooks : errB l.prog K C_UnlikeBooks fIUnlikeBooks ccUnlikeBooks cdaUnlikeBooks [] = true)
    (vE_UnlikeBooks : excB K C_UnlikeBooks = true)
    (aE_BadNumber : PySem.W.nsIn K mainGlobals "BadNumber" = some (some (.ref C_BadNumber)))
    (iE_BadNumber : PySem.W.findIn K (.ref C_BadNumber) "__init__" = some (some (.ref fIBadNumber)))
    (lE_BadNumber : K.lookup fIBadNumber = some ⟨ocBadNumber, odBadNumber, .func (PySem.W.fnX "__init__" "BadNumber.__init__" (defArgs s_BadNumber_init) (defBody s_BadNumber_init) (defScope s_BadNumber_init) [("__class__", ccBadNumber)] .none .none dcBadNumber pmBadNumber none (.ref cdaBadNumber) ctBadNumber), slBadNumber⟩)
    (cE_BadNumber : PySem.W.codeIn K (.ref cdaBadNumber) "BadNumber.__init__" = true)
    (bE_BadNumber : errB l.prog K C_BadNumber fIBadNumber ccBadNumber cdaBadNumber ["number"] = true)
    (vE_BadNumber : excB K C_BadNumber = true)
    (aE_Taken : PySem.W.nsIn K mainGlobals "Taken" = some (some (.ref C_Taken)))
    (iE_Taken : PySem.W.findIn K (.ref C_Taken) "__init__" = some (some (.ref fITaken)))
    (lE_Taken : K.lookup fITaken = some ⟨ocTaken, odTaken, .func (PySem.W.fnX "__init__" "Taken.__init__" (defArgs s_Taken_init) (defBody s_Taken_init) (defScope s_Taken_init) [("__class__", ccTaken)] .none .none dcTaken pmTaken none (.ref cdaTaken) ctTaken), slTaken⟩)
    (cE_Taken : PySem.W.codeIn K (.ref cdaTaken) "Taken.__init__" = true)
    (bE_Taken : errB l.prog K C_Taken fITaken ccTaken cdaTaken ["kind", "number"] = true)
    (vE_Taken : excB K C_Taken = true)
    (aE_Used : PySem.W.nsIn K mainGlobals "Used" = some (some (.ref C_Used)))
    (iE_Used : PySem.W.findIn K (.ref C_Used) "__init__" = some (some (.ref fIUsed)))
    (lE_Used : K.lookup fIUsed = some ⟨ocUsed, odUsed, .func (PySem.W.fnX "__init__" "Used.__init__" (defArgs s_Used_init) (defBody s_Used_init) (defScope s_Used_init) [("__class__", ccUsed)] .none .none dcUsed pmUsed none (.ref cdaUsed) ctUsed), slUsed⟩)
    (cE_Used : PySem.W.codeIn K (.ref cdaUsed) "Used.__init__" = true)
    (bE_Used : errB l.prog K C_Used fIUsed ccUsed cdaUsed ["kind", "number"] = true)
    (vE_Used : excB K C_Used = true)
    (aE_NoRow : PySem.W.nsIn K mainGlobals "NoRow" = some (some (.ref C_NoRow)))
    (iE_NoRow : PySem.W.findIn K (.ref C_NoRow) "__init__" = some (some (.ref fINoRow)))
    (lE_NoRow : K.lookup fINoRow = some ⟨ocNoRow, odNoRow, .func (PySem.W.fnX "__init__" "NoRow.__init__" (defArgs s_NoRow_init) (defBody s_NoRow_init) (defScope s_NoRow_init) [("__class__", ccNoRow)] .none .none dcNoRow pmNoRow none (.ref cdaNoRow) ctNoRow), slNoRow⟩)
    (cE_NoRow : PySem.W.codeIn K (.ref cdaNoRow) "NoRow.__init__" = true)
    (bE_NoRow : errB l.prog K C_NoRow fINoRow ccNoRow cdaNoRow ["kind", "number"] = true)
    (vE_NoRow : excB K C_NoRow = true)
    (aE_OwnOwner : PySem.W.nsIn K mainGlobals "OwnOwner" = some (some (.ref C_OwnOwner)))
    (iE_OwnOwner : PySem.W.findIn K (.ref C_OwnOwner) "__init__" = some (some (.ref fIOwnOwner)))
    (lE_OwnOwner : K.lookup fIOwnOwner = some ⟨ocOwnOwner, odOwnOwner, .func (PySem.W.fnX "__init__" "OwnOwner.__init__" (defArgs s_OwnOwner_init) (defBody s_OwnOwner_init) (defScope s_OwnOwner_init) [("__class__", ccOwnOwner)] .none .none dcOwnOwner pmOwnOwner none (.ref cdaOwnOwner) ctOwnOwner), slOwnOwner⟩)
    (cE_OwnOwner : PySem.W.codeIn K (.ref cdaOwnOwner) "OwnOwner.__init__" = true)
    (bE_OwnOwner : errB l.prog K C_OwnOwner fIOwnOwner ccOwnOwner cdaOwnOwner ["column"] = true)
    (vE_OwnOwner : excB K C_OwnOwner = true)
    (aE_Refused : PySem.W.nsIn K mainGlobals "Refused" = some (some (.ref C_Refused)))
    (iE_Refused : PySem.W.findIn K (.ref C_Refused) "__init__" = some (some (.ref fIRefused)))
    (lE_Refused : K.lookup fIRefused = some ⟨ocRefused, odRefused, .func (PySem.W.fnX "__init__" "Refused.__init__" (defArgs s_Refused_init) (defBody s_Refused_init) (defScope s_Refused_init) [("__class__", ccRefused)] .none .none dcRefused pmRefused none (.ref cdaRefused) ctRefused), slRefused⟩)
    (cE_Refused : PySem.W.codeIn K (.ref cdaRefused) "Refused.__init__" = true)
    (bE_Refused : errB l.prog K C_Refused fIRefused ccRefused cdaRefused ["check"] = true)
    (vE_Refused : excB K C_Refused = true)
    (aE_NotOpen : PySem.W.nsIn K mainGlobals "NotOpen" = some (some (.ref C_NotOpen)))
    (iE_NotOpen : PySem.W.findIn K (.ref C_NotOpen) "__init__" = some (some (.ref fINotOpen)))
    (lE_NotOpen : K.lookup fINotOpen = some ⟨ocNotOpen, odNotOpen, .func (PySem.W.fnX "__init__" "NotOpen.__init__" (defArgs s_NotOpen_init) (defBody s_NotOpen_init) (defScope s_NotOpen_init) [("__class__", ccNotOpen)] .none .none dcNotOpen pmNotOpen none (.ref cdaNotOpen) ctNotOpen), slNotOpen⟩)
    (cE_NotOpen : PySem.W.codeIn K (.ref cdaNotOpen) "NotOpen.__init__" = true)
    (bE_NotOpen : errB l.prog K C_NotOpen fINotOpen ccNotOpen cdaNotOpen ["kind"] = true)
    (vE_NotOpen : excB K C_NotOpen = true)
    (aE_Busy : PySem.W.nsIn K mainGlobals "Busy" = some (some (.ref C_Busy)))
    (iE_Busy : PySem.W.findIn K (.ref C_Busy) "__init__" = some (some (.ref fIBusy)))
    (lE_Busy : K.lookup fIBusy = some ⟨ocBusy, odBusy, .func (PySem.W.fnX "__init__" "Busy.__init__" (defArgs s_Busy_init) (defBody s_Busy_init) (defScope s_Busy_init) [("__class__", ccBusy)] .none .none dcBusy pmBusy none (.ref cdaBusy) ctBusy), slBusy⟩)
    (cE_Busy : PySem.W.codeIn K (.ref cdaBusy) "Busy.__init__" = true)
    (bE_Busy : errB l.prog K C_Busy fIBusy ccBusy cdaBusy ["hand"] = true)
    (vE_Busy : excB K C_Busy = true)
    (aE_Idle : PySem.W.nsIn K mainGlobals "Idle" = some (some (.ref C_Idle)))
    (iE_Idle : PySem.W.findIn K (.ref C_Idle) "__init__" = some (some (.ref fIIdle)))
    (lE_Idle : K.lookup fIIdle = some ⟨ocIdle, odIdle, .func (PySem.W.fnX "__init__" "Idle.__init__" (defArgs s_Idle_init) (defBody s_Idle_init) (defScope s_Idle_init) [("__class__", ccIdle)] .none .none dcIdle pmIdle none (.ref cdaIdle) ctIdle), slIdle⟩)
    (cE_Idle : PySem.W.codeIn K (.ref cdaIdle) "Idle.__init__" = true)
    (bE_Idle : errB l.prog K C_Idle fIIdle ccIdle cdaIdle ["hand"] = true)
    (vE_Idle : excB K C_Idle = true)
    (aE_BadPiece : PySem.W.nsIn K mainGlobals "BadPiece" = some (some (.ref C_BadPiece)))
    (iE_BadPiece : PySem.W.findIn K (.ref C_BadPiece) "__init__" = some (some (.ref fIBadPiece)))
    (lE_BadPiece : K.lookup fIBadPiece = some ⟨ocBadPiece, odBadPiece, .func (PySem.W.fnX "__init__" "BadPiece.__init__" (defArgs s_BadPiece_init) (defBody s_BadPiece_init) (defScope s_BadPiece_init) [("__class__", ccBadPiece)] .none .none dcBadPiece pmBadPiece none (.ref cdaBadPiece) ctBadPiece), slBadPiece⟩)
    (cE_BadPiece : PySem.W.codeIn K (.ref cdaBadPiece) "BadPiece.__init__" = true)
    (bE_BadPiece : errB l.prog K C_BadPiece fIBadPiece ccBadPiece cdaBadPiece ["piece"] = true)
    (vE_BadPiece : excB K C_BadPiece = true)
    (aE_BadList : PySem.W.nsIn K mainGlobals "BadList" = some (some (.ref C_BadList)))
    (iE_BadList : PySem.W.findIn K (.ref C_BadList) "__init__" = some (some (.ref fIBadList)))
    (lE_BadList : K.lookup fIBadList = some ⟨ocBadList, odBadList, .func (PySem.W.fnX "__init__" "BadList.__init__" (defArgs s_BadList_init) (defBody s_BadList_init) (defScope s_BadList_init) [("__class__", ccBadList)] .none .none dcBadList pmBadList none (.ref cdaBadList) ctBadList), slBadList⟩)
    (cE_BadList : PySem.W.codeIn K (.ref cdaBadList) "BadList.__init__" = true)
    (bE_BadList : errB l.prog K C_BadList fIBadList ccBadList cdaBadList ["numbers"] = true)
    (vE_BadList : excB K C_BadList = true)
    (aE_NoFit : PySem.W.nsIn K mainGlobals "NoFit" = some (some (.ref C_NoFit)))
    (iE_NoFit : PySem.W.findIn K (.ref C_NoFit) "__init__" = some (some (.ref fINoFit)))
    (lE_NoFit : K.lookup fINoFit = some ⟨ocNoFit, odNoFit, .func (PySem.W.fnX "__init__" "NoFit.__init__" (defArgs s_NoFit_init) (defBody s_NoFit_init) (defScope s_NoFit_init) [("__class__", ccNoFit)] .none .none dcNoFit pmNoFit none (.ref cdaNoFit) ctNoFit), slNoFit⟩)
    (cE_NoFit : PySem.W.codeIn K (.ref cdaNoFit) "NoFit.__init__" = true)
    (bE_NoFit : errB l.prog K C_NoFit fINoFit ccNoFit cdaNoFit ["number"] = true)
    (vE_NoFit : excB K C_NoFit = true)
    (aE_BadQuestion : PySem.W.nsIn K mainGlobals "BadQuestion" = some (some (.ref C_BadQuestion)))
    (iE_BadQuestion : PySem.W.findIn K (.ref C_BadQuestion) "__init__" = some (some (.ref fIBadQuestion)))
    (lE_BadQuestion : K.lookup fIBadQuestion = some ⟨ocBadQuestion, odBadQuestion, .func (PySem.W.fnX "__init__" "BadQuestion.__init__" (defArgs s_BadQuestion_init) (defBody s_BadQuestion_init) (defScope s_BadQuestion_init) [("__class__", ccBadQuestion)] .none .none dcBadQuestion pmBadQuestion none (.ref cdaBadQuestion) ctBadQuestion), slBadQuestion⟩)
    (cE_BadQuestion : PySem.W.codeIn K (.ref cdaBadQuestion) "BadQuestion.__init__" = true)
    (bE_BadQuestion : errB l.prog K C_BadQuestion fIBadQuestion ccBadQuestion cdaBadQuestion ["question"] = true)
    (vE_BadQuestion : excB K C_BadQuestion = true)
    (aE_BadDeed : PySem.W.nsIn K mainGlobals "BadDeed" = some (some (.ref C_BadDeed)))
    (iE_BadDeed : PySem.W.findIn K (.ref C_BadDeed) "__init__" = some (some (.ref fIBadDeed)))
    (lE_BadDeed : K.lookup fIBadDeed = some ⟨ocBadDeed, odBadDeed, .func (PySem.W.fnX "__init__" "BadDeed.__init__" (defArgs s_BadDeed_init) (defBody s_BadDeed_init) (defScope s_BadDeed_init) [("__class__", ccBadDeed)] .none .none dcBadDeed pmBadDeed none (.ref cdaBadDeed) ctBadDeed), slBadDeed⟩)
    (cE_BadDeed : PySem.W.codeIn K (.ref cdaBadDeed) "BadDeed.__init__" = true)
    (bE_BadDeed : errB l.prog K C_BadDeed fIBadDeed ccBadDeed cdaBadDeed [] = true)
    (vE_BadDeed : excB K C_BadDeed = true)
    (aE_BadWeaving : PySem.W.nsIn K mainGlobals "BadWeaving" = some (some (.ref C_BadWeaving)))
    (iE_BadWeaving : PySem.W.findIn K (.ref C_BadWeaving) "__init__" = some (some (.ref fIBadWeaving)))
    (lE_BadWeaving : K.lookup fIBadWeaving = some ⟨ocBadWeaving, odBadWeaving, .func (PySem.W.fnX "__init__" "BadWeaving.__init__" (defArgs s_BadWeaving_init) (defBody s_BadWeaving_init) (defScope s_BadWeaving_init) [("__class__", ccBadWeaving)] .none .none dcBadWeaving pmBadWeaving none (.ref cdaBadWeaving) ctBadWeaving), slBadWeaving⟩)
    (cE_BadWeaving : PySem.W.codeIn K (.ref cdaBadWeaving) "BadWeaving.__init__" = true)
    (bE_BadWeaving : errB l.prog K C_BadWeaving fIBadWeaving ccBadWeaving cdaBadWeaving ["index"] = true)
    (vE_BadWeaving : excB K C_BadWeaving = true)
    (aE_NothingToUndo : PySem.W.nsIn K mainGlobals "NothingToUndo" = some (some (.ref C_NothingToUndo)))
    (iE_NothingToUndo : PySem.W.findIn K (.ref C_NothingToUndo) "__init__" = some (some (.ref fINothingToUndo)))
    (lE_NothingToUndo : K.lookup fINothingToUndo = some ⟨ocNothingToUndo, odNothingToUndo, .func (PySem.W.fnX "__init__" "NothingToUndo.__init__" (defArgs s_NothingToUndo_init) (defBody s_NothingToUndo_init) (defScope s_NothingToUndo_init) [("__class__", ccNothingToUndo)] .none .none dcNothingToUndo pmNothingToUndo none (.ref cdaNothingToUndo) ctNothingToUndo), slNothingToUndo⟩)
    (cE_NothingToUndo : PySem.W.codeIn K (.ref cdaNothingToUndo) "NothingToUndo.__init__" = true)
    (bE_NothingToUndo : errB l.prog K C_NothingToUndo fINothingToUndo ccNothingToUndo cdaNothingToUndo [] = true)
    (vE_NothingToUndo : excB K C_NothingToUndo = true)
    (aE_NothingToRedo : PySem.W.nsIn K mainGlobals "NothingToRedo" = some (some (.ref C_NothingToRedo)))
    (iE_NothingToRedo : PySem.W.findIn K (.ref C_NothingToRedo) "__init__" = some (some (.ref fINothingToRedo)))
    (lE_NothingToRedo : K.lookup fINothingToRedo = some ⟨ocNothingToRedo, odNothingToRedo, .func (PySem.W.fnX "__init__" "NothingToRedo.__init__" (defArgs s_NothingToRedo_init) (defBody s_NothingToRedo_init) (defScope s_NothingToRedo_init) [("__class__", ccNothingToRedo)] .none .none dcNothingToRedo pmNothingToRedo none (.ref cdaNothingToRedo) ctNothingToRedo), slNothingToRedo⟩)
    (cE_NothingToRedo : PySem.W.codeIn K (.ref cdaNothingToRedo) "NothingToRedo.__init__" = true)
    (bE_NothingToRedo : errB l.prog K C_NothingToRedo fINothingToRedo ccNothingToRedo cdaNothingToRedo [] = true)
    (vE_NothingToRedo : excB K C_NothingToRedo = true)
    (aE_BadLine : PySem.W.nsIn K mainGlobals "BadLine" = some (some (.ref C_BadLine)))
    (iE_BadLine : PySem.W.findIn K (.ref C_BadLine) "__init__" = some (some (.ref fIBadLine)))
    (lE_BadLine : K.lookup fIBadLine = some ⟨ocBadLine, odBadLine, .func (PySem.W.fnX "__init__" "BadLine.__init__" (defArgs s_BadLine_init) (defBody s_BadLine_init) (defScope s_BadLine_init) [("__class__", ccBadLine)] .none .none dcBadLine pmBadLine none (.ref cdaBadLine) ctBadLine), slBadLine⟩)
    (cE_BadLine : PySem.W.codeIn K (.ref cdaBadLine) "BadLine.__init__" = true)
    (bE_BadLine : errB l.prog K C_BadLine fIBadLine ccBadLine cdaBadLine ["index"] = true)
    (vE_BadLine : excB K C_BadLine = true)
    (aS : PySem.W.nsIn K mainGlobals "StrikeError" = some (some (.ref C_StrikeError)))
    (evB : errsB K [C_BadName, C_NameInUse, C_UnknownKind, C_UnknownColumn, C_BadRule, C_UnknownCheck, C_UnlikeBooks, C_BadNumber, C_Taken, C_Used, C_NoRow, C_OwnOwner, C_Refused, C_NotOpen, C_Busy, C_Idle, C_BadPiece, C_BadList, C_NoFit, C_BadQuestion, C_BadDeed, C_BadWeaving, C_NothingToUndo, C_NothingToRedo, C_BadLine] C_StrikeError = true)
    (z_int : PySem.W.nsIn K mainGlobals "int" = some none)
    (z_len : PySem.W.nsIn K mainGlobals "len" = some none)
    (z_range : PySem.W.nsIn K mainGlobals "range" = some none)
    (z_list : PySem.W.nsIn K mainGlobals "list" = some none)
    (z_tuple : PySem.W.nsIn K mainGlobals "tuple" = some none)
    (z_dict : PySem.W.nsIn K mainGlobals "dict" = some none)
    (z_isinstance : PySem.W.nsIn K mainGlobals "isinstance" = some none)
    (z_all : PySem.W.nsIn K mainGlobals "all" = some none)
    (z_any : PySem.W.nsIn K mainGlobals "any" = some none)
    (z_repr : PySem.W.nsIn K mainGlobals "repr" = some none)
    (z_str : PySem.W.nsIn K mainGlobals "str" = some none)
    (z_ValueError : PySem.W.nsIn K mainGlobals "ValueError" = some none) :
    ∃ fd : FuncData, (∀ (s : Shared) (v : Value), BindsTo s fd ⟨[v], []⟩ [("_law_script", v)]) ∧ ∀ base : Heap, K.In base → base.Ns mainGlobals mg → FnG l.prog w K mg base CX0 4 fa fd ["_law_script"] (spLaw K) := by
  have e := hfa.symm.trans (PySem.W.mg_of X G a8)
  cases e
  have F0 := fun_mk (st := s__law_draw) l0 c0 k0
  have b0 := F0.binds (ps := ["_law_stream", "_law_many"]) fun _ _ _ _ _ _ us hl => match us, hl with | [_, _], _ => rfl
  have F1 := fun_mk (st := s__law_pick) l1 c1 k1
  have b1 := F1.binds (ps := ["_law_stream", "_law_things"]) fun _ _ _ _ _ _ us hl => match us, hl with | [_, _], _ => rfl
  have F2 := fun_mk (st := s__law_same) l2 c2 k2
  have b2 := F2.binds (ps := ["_law_found", "_law_due"]) fun _ _ _ _ _ _ us hl => match us, hl with | [_, _], _ => rfl
  have F3 := fun_mk (st := s__law_fields) l3 c3 k3
  have b3 := F3.binds (ps := ["_law_e", "_law_row"]) fun _ _ _ _ _ _ us hl => match us, hl with | [_, _], _ => rfl
  have F4 := fun_mk (st := s__law_first_half) l4 c4 k4
  have b4 := F4.binds (ps := ["_law_a", "_law_b"]) fun _ _ _ _ _ _ us hl => match us, hl with | [_, _], _ => rfl
  have F5 := fun_mk (st := s__law_other_half) l5 c5 k5
  have b5 := F5.binds (ps := ["_law_a"]) fun _ _ _ _ _ _ us hl => match us, hl with | [_], _ => rfl
  have F6 := fun_mk (st := s__law_classes) l6 c6 k6
  have b6 := F6.binds (ps := ["_law_e"]) fun _ _ _ _ _ _ us hl => match us, hl with | [_], _ => rfl
  have F7 := fun_mk (st := s__law_thing) l7 c7 k7
  have b7 := F7.binds (ps := ["_law_stream"]) fun _ _ _ _ _ _ us hl => match us, hl with | [_], _ => rfl
  have F8 := fun_mk (st := s_law) l8 c8 k8
  have b8 := F8.binds (ps := ["_law_script"]) fun _ _ _ _ _ _ us hl => match us, hl with | [_], _ => rfl
  have TT : Bt mg := ⟨PySem.W.mg_none_of X G z_int, PySem.W.mg_none_of X G z_len, PySem.W.mg_none_of X G z_range, PySem.W.mg_none_of X G z_list, PySem.W.mg_none_of X G z_tuple, PySem.W.mg_none_of X G z_dict, PySem.W.mg_none_of X G z_isinstance, PySem.W.mg_none_of X G z_all, PySem.W.mg_none_of X G z_any, PySem.W.mg_none_of X G z_repr, PySem.W.mg_none_of X G z_str⟩
  have T2 : Bt5 mg := ⟨PySem.W.mg_none_of X G z_ValueError⟩
  refine ⟨PySem.W.fnOf "law" "law" (defArgs s_law) (defBody s_law) (defScope s_law) .none kV8 dc8 pm8 an8 cd8 ct8, fun s v => .of_eq rfl, fun base _ _ => ?_⟩
  have O_BadName := own_v1 (P := l.prog) (w := w) (base := base) X G tx_BadName txk_BadName aE_BadName lE_BadName cE_BadName bE_BadName vE_BadName
  have O_NameInUse := own_v1 (P := l.prog) (w := w) (base := base) X G tx_NameInUse txk_NameInUse aE_NameInUse lE_NameInUse cE_NameInUse bE_NameInUse vE_NameInUse
  have O_UnknownKind := own_v1 (P := l.prog) (w := w) (base := base) X G tx_UnknownKind txk_UnknownKind aE_UnknownKind lE_UnknownKind cE_UnknownKind bE_UnknownKind vE_UnknownKind
  have O_UnknownColumn := own_v1 (P := l.prog) (w := w) (base := base) X G tx_UnknownColumn txk_UnknownColumn aE_UnknownColumn lE_UnknownColumn cE_UnknownColumn bE_UnknownColumn vE_UnknownColumn
  have O_BadRule := own_v1 (P := l.prog) (w := w) (base := base) X G tx_BadRule txk_BadRule aE_BadRule lE_BadRule cE_BadRule bE_BadRule vE_BadRule
  have O_UnknownCheck := own_v1 (P := l.prog) (w := w) (base := base) X G tx_UnknownCheck txk_UnknownCheck aE_UnknownCheck lE_UnknownCheck cE_UnknownCheck bE_UnknownCheck vE_UnknownCheck
  have O_UnlikeBooks := own_v0 (P := l.prog) (w := w) (base := base) X G tx_UnlikeBooks txk_UnlikeBooks aE_UnlikeBooks lE_UnlikeBooks cE_UnlikeBooks bE_UnlikeBooks vE_UnlikeBooks
  have O_BadNumber := own_v1 (P := l.prog) (w := w) (base := base) X G tx_BadNumber txk_BadNumber aE_BadNumber lE_BadNumber cE_BadNumber bE_BadNumber vE_BadNumber
  have O_Taken := own_v2 (P := l.prog) (w := w) (base := base) X G tx_Taken txk_Taken aE_Taken lE_Taken cE_Taken bE_Taken vE_Taken
  have O_Used := own_v2 (P := l.prog) (w := w) (base := base) X G tx_Used txk_Used aE_Used lE_Used cE_Used bE_Used vE_Used
  have O_NoRow := own_v2 (P := l.prog) (w := w) (base := base) X G tx_NoRow txk_NoRow aE_NoRow lE_NoRow cE_NoRow bE_NoRow vE_NoRow
  have O_OwnOwner := own_v1 (P := l.prog) (w := w) (base := base) X G tx_OwnOwner txk_OwnOwner aE_OwnOwner lE_OwnOwner cE_OwnOwner bE_OwnOwner vE_OwnOwner
  have O_Refused := own_v1 (P := l.prog) (w := w) (base := base) X G tx_Refused txk_Refused aE_Refused lE_Refused cE_Refused bE_Refused vE_Refused
  have O_NotOpen := own_v1 (P := l.prog) (w := w) (base := base) X G tx_NotOpen txk_NotOpen aE_NotOpen lE_NotOpen cE_NotOpen bE_NotOpen vE_NotOpen
  have O_Busy := own_v1 (P := l.prog) (w := w) (base := base) X G tx_Busy txk_Busy aE_Busy lE_Busy cE_Busy bE_Busy vE_Busy
  have O_Idle := own_v1 (P := l.prog) (w := w) (base := base) X G tx_Idle txk_Idle aE_Idle lE_Idle cE_Idle bE_Idle vE_Idle
  have O_BadPiece := own_v1 (P := l.prog) (w := w) (base := base) X G tx_BadPiece txk_BadPiece aE_BadPiece lE_BadPiece cE_BadPiece bE_BadPiece vE_BadPiece
  have O_BadList := own_v1 (P := l.prog) (w := w) (base := base) X G tx_BadList txk_BadList aE_BadList lE_BadList cE_BadList bE_BadList vE_BadList
  have O_NoFit := own_v1 (P := l.prog) (w := w) (base := base) X G tx_NoFit txk_NoFit aE_NoFit lE_NoFit cE_NoFit bE_NoFit vE_NoFit
  have O_BadQuestion := own_v1 (P := l.prog) (w := w) (base := base) X G tx_BadQuestion txk_BadQuestion aE_BadQuestion lE_BadQuestion cE_BadQuestion bE_BadQuestion vE_BadQuestion
  have O_BadDeed := own_v0 (P := l.prog) (w := w) (base := base) X G tx_BadDeed txk_BadDeed aE_BadDeed lE_BadDeed cE_BadDeed bE_BadDeed vE_BadDeed
  have O_BadWeaving := own_v1 (P := l.prog) (w := w) (base := base) X G tx_BadWeaving txk_BadWeaving aE_BadWeaving lE_BadWeaving cE_BadWeaving bE_BadWeaving vE_BadWeaving
  have O_NothingToUndo := own_v0 (P := l.prog) (w := w) (base := base) X G tx_NothingToUndo txk_NothingToUndo aE_NothingToUndo lE_NothingToUndo cE_NothingToUndo bE_NothingToUndo vE_NothingToUndo
  have O_NothingToRedo := own_v0 (P := l.prog) (w := w) (base := base) X G tx_NothingToRedo txk_NothingToRedo aE_NothingToRedo lE_NothingToRedo cE_NothingToRedo bE_NothingToRedo vE_NothingToRedo
  have O_BadLine := own_v1 (P := l.prog) (w := w) (base := base) X G tx_BadLine txk_BadLine aE_BadLine lE_BadLine cE_BadLine bE_BadLine vE_BadLine
  have EK : ErrsK K (fun n => ([C_BadName, C_NameInUse, C_UnknownKind, C_UnknownColumn, C_BadRule, C_UnknownCheck, C_UnlikeBooks, C_BadNumber, C_Taken, C_Used, C_NoRow, C_OwnOwner, C_Refused, C_NotOpen, C_Busy, C_Idle, C_BadPiece, C_BadList, C_NoFit, C_BadQuestion, C_BadDeed, C_BadWeaving, C_NothingToUndo, C_NothingToRedo, C_BadLine] : List Addr).getD n 0) C_StrikeError := errsB_ok rfl evB
  have O__law_draw : Own l.prog w K mg base CX0 1 "_law_draw" ["_law_stream", "_law_many"] spDraw := ⟨f0, _, ok_draw F0 TT, PySem.W.mg_of X G a0, k0, b0⟩
  have O__law_pick : Own l.prog w K mg base CX0 2 "_law_pick" ["_law_stream", "_law_things"] spPickT := ⟨f1, _, ok_pickT F1 TT O__law_draw, PySem.W.mg_of X G a1, k1, b1⟩
  have O__law_thing : Own l.prog w K mg base CX0 3 "_law_thing" ["_law_stream"] spThing := ⟨f7, _, ok_thing F7 TT O__law_draw O__law_pick, PySem.W.mg_of X G a7, k7, b7⟩
  have O__law_first_half : Own l.prog w K mg base CX0 3 "_law_first_half" ["_law_a", "_law_b"] (spFirst (fun n => ([C_BadName, C_NameInUse, C_UnknownKind, C_UnknownColumn, C_BadRule, C_UnknownCheck, C_UnlikeBooks, C_BadNumber, C_Taken, C_Used, C_NoRow, C_OwnOwner, C_Refused, C_NotOpen, C_Busy, C_Idle, C_BadPiece, C_BadList, C_NoFit, C_BadQuestion, C_BadDeed, C_BadWeaving, C_NothingToUndo, C_NothingToRedo, C_BadLine] : List Addr).getD n 0)) := ⟨f4, _, ok_law_first_half (C := (fun n => ([C_BadName, C_NameInUse, C_UnknownKind, C_UnknownColumn, C_BadRule, C_UnknownCheck, C_UnlikeBooks, C_BadNumber, C_Taken, C_Used, C_NoRow, C_OwnOwner, C_Refused, C_NotOpen, C_Busy, C_Idle, C_BadPiece, C_BadList, C_NoFit, C_BadQuestion, C_BadDeed, C_BadWeaving, C_NothingToUndo, C_NothingToRedo, C_BadLine] : List Addr).getD n 0)) F4 O_BadName O_NameInUse O_UnknownKind O_UnknownColumn O_BadRule O_UnknownCheck O_UnlikeBooks O_BadNumber O_Taken O_Used O_NoRow O_OwnOwner O_Refused, PySem.W.mg_of X G a4, k4, b4⟩
  have O__law_other_half : Own l.prog w K mg base CX0 3 "_law_other_half" ["_law_a"] (spOther (fun n => ([C_BadName, C_NameInUse, C_UnknownKind, C_UnknownColumn, C_BadRule, C_UnknownCheck, C_UnlikeBooks, C_BadNumber, C_Taken, C_Used, C_NoRow, C_OwnOwner, C_Refused, C_NotOpen, C_Busy, C_Idle, C_BadPiece, C_BadList, C_NoFit, C_BadQuestion, C_BadDeed, C_BadWeaving, C_NothingToUndo, C_NothingToRedo, C_BadLine] : List Addr).getD n 0)) := ⟨f5, _, ok_law_other_half (C := (fun n => ([C_BadName, C_NameInUse, C_UnknownKind, C_UnknownColumn, C_BadRule, C_UnknownCheck, C_UnlikeBooks, C_BadNumber, C_Taken, C_Used, C_NoRow, C_OwnOwner, C_Refused, C_NotOpen, C_Busy, C_Idle, C_BadPiece, C_BadList, C_NoFit, C_BadQuestion, C_BadDeed, C_BadWeaving, C_NothingToUndo, C_NothingToRedo, C_BadLine] : List Addr).getD n 0)) F5 O_NotOpen O_Busy O_Idle O_BadPiece O_BadList O_NoFit O_BadQuestion O_BadDeed O_BadWeaving O_NothingToUndo O_NothingToRedo O_BadLine, PySem.W.mg_of X G a5, k5, b5⟩
  have O__law_classes : Own l.prog w K mg base CX0 1 "_law_classes" ["_law_e"] (spClasses (fun n => ([C_BadName, C_NameInUse, C_UnknownKind, C_UnknownColumn, C_BadRule, C_UnknownCheck, C_UnlikeBooks, C_BadNumber, C_Taken, C_Used, C_NoRow, C_OwnOwner, C_Refused, C_NotOpen, C_Busy, C_Idle, C_BadPiece, C_BadList, C_NoFit, C_BadQuestion, C_BadDeed, C_BadWeaving, C_NothingToUndo, C_NothingToRedo, C_BadLine] : List Addr).getD n 0)) := ⟨f6, _, ok_classes (C := (fun n => ([C_BadName, C_NameInUse, C_UnknownKind, C_UnknownColumn, C_BadRule, C_UnknownCheck, C_UnlikeBooks, C_BadNumber, C_Taken, C_Used, C_NoRow, C_OwnOwner, C_Refused, C_NotOpen, C_Busy, C_Idle, C_BadPiece, C_BadList, C_NoFit, C_BadQuestion, C_BadDeed, C_BadWeaving, C_NothingToUndo, C_NothingToRedo, C_BadLine] : List Addr).getD n 0)) F6 TT EK (PySem.W.mg_of X G aE_BadName) (PySem.W.mg_of X G aE_NameInUse) (PySem.W.mg_of X G aE_UnknownKind) (PySem.W.mg_of X G aE_UnknownColumn) (PySem.W.mg_of X G aE_BadRule) (PySem.W.mg_of X G aE_UnknownCheck) (PySem.W.mg_of X G aE_UnlikeBooks) (PySem.W.mg_of X G aE_BadNumber) (PySem.W.mg_of X G aE_Taken) (PySem.W.mg_of X G aE_Used) (PySem.W.mg_of X G aE_NoRow) (PySem.W.mg_of X G aE_OwnOwner) (PySem.W.mg_of X G aE_Refused) (PySem.W.mg_of X G aE_NotOpen) (PySem.W.mg_of X G aE_Busy) (PySem.W.mg_of X G aE_Idle) (PySem.W.mg_of X G aE_BadPiece) (PySem.W.mg_of X G aE_BadList) (PySem.W.mg_of X G aE_NoFit) (PySem.W.mg_of X G aE_BadQuestion) (PySem.W.mg_of X G aE_BadDeed) (PySem.W.mg_of X G aE_BadWeaving) (PySem.W.mg_of X G aE_NothingToUndo) (PySem.W.mg_of X G aE_NothingToRedo) (PySem.W.mg_of X G aE_BadLine), PySem.W.mg_of X G a6, k6, b6⟩
  have O__law_fields : Own l.prog w K mg base CX0 1 "_law_fields" ["_law_e", "_law_row"] (spFields (fun n => ([C_BadName, C_NameInUse, C_UnknownKind, C_UnknownColumn, C_BadRule, C_UnknownCheck, C_UnlikeBooks, C_BadNumber, C_Taken, C_Used, C_NoRow, C_OwnOwner, C_Refused, C_NotOpen, C_Busy, C_Idle, C_BadPiece, C_BadList, C_NoFit, C_BadQuestion, C_BadDeed, C_BadWeaving, C_NothingToUndo, C_NothingToRedo, C_BadLine] : List Addr).getD n 0)) := ⟨f3, _, ok_fields (C := (fun n => ([C_BadName, C_NameInUse, C_UnknownKind, C_UnknownColumn, C_BadRule, C_UnknownCheck, C_UnlikeBooks, C_BadNumber, C_Taken, C_Used, C_NoRow, C_OwnOwner, C_Refused, C_NotOpen, C_Busy, C_Idle, C_BadPiece, C_BadList, C_NoFit, C_BadQuestion, C_BadDeed, C_BadWeaving, C_NothingToUndo, C_NothingToRedo, C_BadLine] : List Addr).getD n 0)) F3 TT EK, PySem.W.mg_of X G a3, k3, b3⟩
  have O__law_same : OwnG l.prog w K mg base CX0 1 "_law_same" ["_law_found", "_law_due"] (spSame K) := ⟨f2, _, ok_same F2 TT, PySem.W.mg_of X G a2, k2, b2⟩
  exact ok_law (C := (fun n => ([C_BadName, C_NameInUse, C_UnknownKind, C_UnknownColumn, C_BadRule, C_UnknownCheck, C_UnlikeBooks, C_BadNumber, C_Taken, C_Used, C_NoRow, C_OwnOwner, C_Refused, C_NotOpen, C_Busy, C_Idle, C_BadPiece, C_BadList, C_NoFit, C_BadQuestion, C_BadDeed, C_BadWeaving, C_NothingToUndo, C_NothingToRedo, C_BadLine] : List Addr).getD n 0)) F8 TT T2 EK (PySem.W.mg_of X G aS) O__law_thing O__law_first_half O__law_other_half O__law_classes O__law_fields O__law_same
end Ls
set_option maxHeartbeats 0
namespace Ls
open PySem PySem.Spec PyProof.Rows L2
/-! ### what the top has written, asked as Bools -/
def nm0 : List PySem.Str := ["__name__", "StrikeError", "BadName", "NameInUse", "UnknownKind", "UnknownColumn", "BadRule", "UnknownCheck", "UnlikeBooks", "BadNumber", "Taken", "Used"]
def nm1 : List PySem.Str := ["NoRow", "OwnOwner", "Refused", "NotOpen", "Busy", "Idle", "BadPiece", "BadList", "NoFit", "BadQuestion", "BadDeed", "BadWeaving"]
def nm2 : List PySem.Str := ["NothingToUndo", "NothingToRedo", "BadLine", "_law_draw", "_law_pick", "_law_same", "_law_fields", "_law_first_half", "_law_other_half", "_law_classes", "_law_thing"]
def lawNames : List PySem.Str := nm0 ++ nm1 ++ nm2
def wd0 : List WD := [⟨("_law_draw", none), "_law_draw", "_law_draw", defArgs s__law_draw, defBody s__law_draw, defScope s__law_draw, []⟩, ⟨("_law_pick", none), "_law_pick", "_law_pick", defArgs s__law_pick, defBody s__law_pick, defScope s__law_pick, []⟩, ⟨("_law_same", none), "_law_same", "_law_same", defArgs s__law_same, defBody s__law_same, defScope s__law_same, []⟩, ⟨("_law_fields", none), "_law_fields", "_law_fields", defArgs s__law_fields, defBody s__law_fields, defScope s__law_fields, []⟩, ⟨("_law_first_half", none), "_law_first_half", "_law_first_half", defArgs s__law_first_half, defBody s__law_first_half, defScope s__law_first_half, []⟩, ⟨("_law_other_half", none), "_law_other_half", "_law_other_half", defArgs s__law_other_half, defBody s__law_other_half, defScope s__law_other_half, []⟩, ⟨("_law_classes", none), "_law_classes", "_law_classes", defArgs s__law_classes, defBody s__law_classes, defScope s__law_classes, []⟩, ⟨("_law_thing", none), "_law_thing", "_law_thing", defArgs s__law_thing, defBody s__law_thing, defScope s__law_thing, []⟩]
def wd1 : List WD := [⟨("law", none), "law", "law", defArgs s_law, defBody s_law, defScope s_law, []⟩, ⟨("BadName", some "__init__"), "__init__", "BadName.__init__", defArgs s_BadName_init, defBody s_BadName_init, defScope s_BadName_init, ["__class__"]⟩, ⟨("NameInUse", some "__init__"), "__init__", "NameInUse.__init__", defArgs s_NameInUse_init, defBody s_NameInUse_init, defScope s_NameInUse_init, ["__class__"]⟩, ⟨("UnknownKind", some "__init__"), "__init__", "UnknownKind.__init__", defArgs s_UnknownKind_init, defBody s_UnknownKind_init, defScope s_UnknownKind_init, ["__class__"]⟩, ⟨("UnknownColumn", some "__init__"), "__init__", "UnknownColumn.__init__", defArgs s_UnknownColumn_init, defBody s_UnknownColumn_init, defScope s_UnknownColumn_init, ["__class__"]⟩, ⟨("BadRule", some "__init__"), "__init__", "BadRule.__init__", defArgs s_BadRule_init, defBody s_BadRule_init, defScope s_BadRule_init, ["__class__"]⟩, ⟨("UnknownCheck", some "__init__"), "__init__", "UnknownCheck.__init__", defArgs s_UnknownCheck_init, defBody s_UnknownCheck_init, defScope s_UnknownCheck_init, ["__class__"]⟩, ⟨("UnlikeBooks", some "__init__"), "__init__", "UnlikeBooks.__init__", defArgs s_UnlikeBooks_init, defBody s_UnlikeBooks_init, defScope s_UnlikeBooks_init, ["__class__"]⟩]
def wd2 : List WD := [⟨("BadNumber", some "__init__"), "__init__", "BadNumber.__init__", defArgs s_BadNumber_init, defBody s_BadNumber_init, defScope s_BadNumber_init, ["__class__"]⟩, ⟨("Taken", some "__init__"), "__init__", "Taken.__init__", defArgs s_Taken_init, defBody s_Taken_init, defScope s_Taken_init, ["__class__"]⟩, ⟨("Used", some "__init__"), "__init__", "Used.__init__", defArgs s_Used_init, defBody s_Used_init, defScope s_Used_init, ["__class__"]⟩, ⟨("NoRow", some "__init__"), "__init__", "NoRow.__init__", defArgs s_NoRow_init, defBody s_NoRow_init, defScope s_NoRow_init, ["__class__"]⟩, ⟨("OwnOwner", some "__init__"), "__init__", "OwnOwner.__init__", defArgs s_OwnOwner_init, defBody s_OwnOwner_init, defScope s_OwnOwner_init, ["__class__"]⟩, ⟨("Refused", some "__init__"), "__init__", "Refused.__init__", defArgs s_Refused_init, defBody s_Refused_init, defScope s_Refused_init, ["__class__"]⟩, ⟨("NotOpen", some "__init__"), "__init__", "NotOpen.__init__", defArgs s_NotOpen_init, defBody s_NotOpen_init, defScope s_NotOpen_init, ["__class__"]⟩, ⟨("Busy", some "__init__"), "__init__", "Busy.__init__", defArgs s_Busy_init, defBody s_Busy_init, defScope s_Busy_init, ["__class__"]⟩]
def wd3 : List WD := [⟨("Idle", some "__init__"), "__init__", "Idle.__init__", defArgs s_Idle_init, defBody s_Idle_init, defScope s_Idle_init, ["__class__"]⟩, ⟨("BadPiece", some "__init__"), "__init__", "BadPiece.__init__", defArgs s_BadPiece_init, defBody s_BadPiece_init, defScope s_BadPiece_init, ["__class__"]⟩, ⟨("BadList", some "__init__"), "__init__", "BadList.__init__", defArgs s_BadList_init, defBody s_BadList_init, defScope s_BadList_init, ["__class__"]⟩, ⟨("NoFit", some "__init__"), "__init__", "NoFit.__init__", defArgs s_NoFit_init, defBody s_NoFit_init, defScope s_NoFit_init, ["__class__"]⟩, ⟨("BadQuestion", some "__init__"), "__init__", "BadQuestion.__init__", defArgs s_BadQuestion_init, defBody s_BadQuestion_init, defScope s_BadQuestion_init, ["__class__"]⟩, ⟨("BadDeed", some "__init__"), "__init__", "BadDeed.__init__", defArgs s_BadDeed_init, defBody s_BadDeed_init, defScope s_BadDeed_init, ["__class__"]⟩, ⟨("BadWeaving", some "__init__"), "__init__", "BadWeaving.__init__", defArgs s_BadWeaving_init, defBody s_BadWeaving_init, defScope s_BadWeaving_init, ["__class__"]⟩, ⟨("NothingToUndo", some "__init__"), "__init__", "NothingToUndo.__init__", defArgs s_NothingToUndo_init, defBody s_NothingToUndo_init, defScope s_NothingToUndo_init, ["__class__"]⟩]
def wd4 : List WD := [⟨("NothingToRedo", some "__init__"), "__init__", "NothingToRedo.__init__", defArgs s_NothingToRedo_init, defBody s_NothingToRedo_init, defScope s_NothingToRedo_init, ["__class__"]⟩, ⟨("BadLine", some "__init__"), "__init__", "BadLine.__init__", defArgs s_BadLine_init, defBody s_BadLine_init, defScope s_BadLine_init, ["__class__"]⟩]
def lawDefs : List WD := wd0 ++ wd1 ++ wd2 ++ wd3 ++ wd4
def ex0 (K : PySem.W.Frag) : Bool := He.eqO (PySem.W.nsIn K mainGlobals "_law_draw") (some (some (.ref (He.fAd K ("_law_draw", none))))) && (plB K ("_law_draw", none) "_law_draw" && (He.eqO (PySem.W.nsIn K mainGlobals "_law_pick") (some (some (.ref (He.fAd K ("_law_pick", none))))) && (plB K ("_law_pick", none) "_law_pick" && (He.eqO (PySem.W.nsIn K mainGlobals "_law_same") (some (some (.ref (He.fAd K ("_law_same", none))))) && (plB K ("_law_same", none) "_law_same" && (He.eqO (PySem.W.nsIn K mainGlobals "_law_fields") (some (some (.ref (He.fAd K ("_law_fields", none))))) && (plB K ("_law_fields", none) "_law_fields" && (He.eqO (PySem.W.nsIn K mainGlobals "_law_first_half") (some (some (.ref (He.fAd K ("_law_first_half", none))))) && (plB K ("_law_first_half", none) "_law_first_half" && (He.eqO (PySem.W.nsIn K mainGlobals "_law_other_half") (some (some (.ref (He.fAd K ("_law_other_half", none))))) && (plB K ("_law_other_half", none) "_law_other_half")))))))))))
def ex1 (K : PySem.W.Frag) : Bool := He.eqO (PySem.W.nsIn K mainGlobals "_law_classes") (some (some (.ref (He.fAd K ("_law_classes", none))))) && (plB K ("_law_classes", none) "_law_classes" && (He.eqO (PySem.W.nsIn K mainGlobals "_law_thing") (some (some (.ref (He.fAd K ("_law_thing", none))))) && (plB K ("_law_thing", none) "_law_thing" && (He.eqO (PySem.W.nsIn K mainGlobals "law") (some (some (.ref (He.fAd K ("law", none))))) && (plB K ("law", none) "law" && (He.eqO (PySem.W.nsIn K mainGlobals "BadName") (some (some (.ref (He.ga K "BadName")))) && (He.eqO (PySem.W.findIn K (.ref (He.ga K "BadName")) "__init__") (some (some (.ref (He.fAd K ("BadName", some "__init__"))))) && (erB K ("BadName", some "__init__") "BadName.__init__" && (errB (PySem.Challenge.rw_longstrike_k01_errors_made).prog K (He.ga K "BadName") (He.fAd K ("BadName", some "__init__")) (cellOf K ("BadName", some "__init__")) (codeAd K ("BadName", some "__init__")) ["name"] && (excB K (He.ga K "BadName") && (He.eqO (PySem.W.nsIn K mainGlobals "NameInUse") (some (some (.ref (He.ga K "NameInUse")))))))))))))))
def ex2 (K : PySem.W.Frag) : Bool := He.eqO (PySem.W.findIn K (.ref (He.ga K "NameInUse")) "__init__") (some (some (.ref (He.fAd K ("NameInUse", some "__init__"))))) && (erB K ("NameInUse", some "__init__") "NameInUse.__init__" && (errB (PySem.Challenge.rw_longstrike_k01_errors_made).prog K (He.ga K "NameInUse") (He.fAd K ("NameInUse", some "__init__")) (cellOf K ("NameInUse", some "__init__")) (codeAd K ("NameInUse", some "__init__")) ["name"] && (excB K (He.ga K "NameInUse") && (He.eqO (PySem.W.nsIn K mainGlobals "UnknownKind") (some (some (.ref (He.ga K "UnknownKind")))) && (He.eqO (PySem.W.findIn K (.ref (He.ga K "UnknownKind")) "__init__") (some (some (.ref (He.fAd K ("UnknownKind", some "__init__"))))) && (erB K ("UnknownKind", some "__init__") "UnknownKind.__init__" && (errB (PySem.Challenge.rw_longstrike_k01_errors_made).prog K (He.ga K "UnknownKind") (He.fAd K ("UnknownKind", some "__init__")) (cellOf K ("UnknownKind", some "__init__")) (codeAd K ("UnknownKind", some "__init__")) ["kind"] && (excB K (He.ga K "UnknownKind") && (He.eqO (PySem.W.nsIn K mainGlobals "UnknownColumn") (some (some (.ref (He.ga K "UnknownColumn")))) && (He.eqO (PySem.W.findIn K (.ref (He.ga K "UnknownColumn")) "__init__") (some (some (.ref (He.fAd K ("UnknownColumn", some "__init__"))))) && (erB K ("UnknownColumn", some "__init__") "UnknownColumn.__init__")))))))))))
def ex3 (K : PySem.W.Frag) : Bool := errB (PySem.Challenge.rw_longstrike_k01_errors_made).prog K (He.ga K "UnknownColumn") (He.fAd K ("UnknownColumn", some "__init__")) (cellOf K ("UnknownColumn", some "__init__")) (codeAd K ("UnknownColumn", some "__init__")) ["column"] && (excB K (He.ga K "UnknownColumn") && (He.eqO (PySem.W.nsIn K mainGlobals "BadRule") (some (some (.ref (He.ga K "BadRule")))) && (He.eqO (PySem.W.findIn K (.ref (He.ga K "BadRule")) "__init__") (some (some (.ref (He.fAd K ("BadRule", some "__init__"))))) && (erB K ("BadRule", some "__init__") "BadRule.__init__" && (errB (PySem.Challenge.rw_longstrike_k01_errors_made).prog K (He.ga K "BadRule") (He.fAd K ("BadRule", some "__init__")) (cellOf K ("BadRule", some "__init__")) (codeAd K ("BadRule", some "__init__")) ["rule"] && (excB K (He.ga K "BadRule") && (He.eqO (PySem.W.nsIn K mainGlobals "UnknownCheck") (some (some (.ref (He.ga K "UnknownCheck")))) && (He.eqO (PySem.W.findIn K (.ref (He.ga K "UnknownCheck")) "__init__") (some (some (.ref (He.fAd K ("UnknownCheck", some "__init__"))))) && (erB K ("UnknownCheck", some "__init__") "UnknownCheck.__init__" && (errB (PySem.Challenge.rw_longstrike_k01_errors_made).prog K (He.ga K "UnknownCheck") (He.fAd K ("UnknownCheck", some "__init__")) (cellOf K ("UnknownCheck", some "__init__")) (codeAd K ("UnknownCheck", some "__init__")) ["check"] && (excB K (He.ga K "UnknownCheck"))))))))))))
def ex4 (K : PySem.W.Frag) : Bool := He.eqO (PySem.W.nsIn K mainGlobals "UnlikeBooks") (some (some (.ref (He.ga K "UnlikeBooks")))) && (He.eqO (PySem.W.findIn K (.ref (He.ga K "UnlikeBooks")) "__init__") (some (some (.ref (He.fAd K ("UnlikeBooks", some "__init__"))))) && (erB K ("UnlikeBooks", some "__init__") "UnlikeBooks.__init__" && (errB (PySem.Challenge.rw_longstrike_k01_errors_made).prog K (He.ga K "UnlikeBooks") (He.fAd K ("UnlikeBooks", some "__init__")) (cellOf K ("UnlikeBooks", some "__init__")) (codeAd K ("UnlikeBooks", some "__init__")) [] && (excB K (He.ga K "UnlikeBooks") && (He.eqO (PySem.W.nsIn K mainGlobals "BadNumber") (some (some (.ref (He.ga K "BadNumber")))) && (He.eqO (PySem.W.findIn K (.ref (He.ga K "BadNumber")) "__init__") (some (some (.ref (He.fAd K ("BadNumber", some "__init__"))))) && (erB K ("BadNumber", some "__init__") "BadNumber.__init__" && (errB (PySem.Challenge.rw_longstrike_k01_errors_made).prog K (He.ga K "BadNumber") (He.fAd K ("BadNumber", some "__init__")) (cellOf K ("BadNumber", some "__init__")) (codeAd K ("BadNumber", some "__init__")) ["number"] && (excB K (He.ga K "BadNumber") && (He.eqO (PySem.W.nsIn K mainGlobals "Taken") (some (some (.ref (He.ga K "Taken")))) && (He.eqO (PySem.W.findIn K (.ref (He.ga K "Taken")) "__init__") (some (some (.ref (He.fAd K ("Taken", some "__init__"))))))))))))))))
def ex5 (K : PySem.W.Frag) : Bool := erB K ("Taken", some "__init__") "Taken.__init__" && (errB (PySem.Challenge.rw_longstrike_k01_errors_made).prog K (He.ga K "Taken") (He.fAd K ("Taken", some "__init__")) (cellOf K ("Taken", some "__init__")) (codeAd K ("Taken", some "__init__")) ["kind", "number"] && (excB K (He.ga K "Taken") && (He.eqO (PySem.W.nsIn K mainGlobals "Used") (some (some (.ref (He.ga K "Used")))) && (He.eqO (PySem.W.findIn K (.ref (He.ga K "Used")) "__init__") (some (some (.ref (He.fAd K ("Used", some "__init__"))))) && (erB K ("Used", some "__init__") "Used.__init__" && (errB (PySem.Challenge.rw_longstrike_k01_errors_made).prog K (He.ga K "Used") (He.fAd K ("Used", some "__init__")) (cellOf K ("Used", some "__init__")) (codeAd K ("Used", some "__init__")) ["kind", "number"] && (excB K (He.ga K "Used") && (He.eqO (PySem.W.nsIn K mainGlobals "NoRow") (some (some (.ref (He.ga K "NoRow")))) && (He.eqO (PySem.W.findIn K (.ref (He.ga K "NoRow")) "__init__") (some (some (.ref (He.fAd K ("NoRow", some "__init__"))))) && (erB K ("NoRow", some "__init__") "NoRow.__init__" && (errB (PySem.Challenge.rw_longstrike_k01_errors_made).prog K (He.ga K "NoRow") (He.fAd K ("NoRow", some "__init__")) (cellOf K ("NoRow", some "__init__")) (codeAd K ("NoRow", some "__init__")) ["kind", "number"])))))))))))
def ex6 (K : PySem.W.Frag) : Bool := excB K (He.ga K "NoRow") && (He.eqO (PySem.W.nsIn K mainGlobals "OwnOwner") (some (some (.ref (He.ga K "OwnOwner")))) && (He.eqO (PySem.W.findIn K (.ref (He.ga K "OwnOwner")) "__init__") (some (some (.ref (He.fAd K ("OwnOwner", some "__init__"))))) && (erB K ("OwnOwner", some "__init__") "OwnOwner.__init__" && (errB (PySem.Challenge.rw_longstrike_k01_errors_made).prog K (He.ga K "OwnOwner") (He.fAd K ("OwnOwner", some "__init__")) (cellOf K ("OwnOwner", some "__init__")) (codeAd K ("OwnOwner", some "__init__")) ["column"] && (excB K (He.ga K "OwnOwner") && (He.eqO (PySem.W.nsIn K mainGlobals "Refused") (some (some (.ref (He.ga K "Refused")))) && (He.eqO (PySem.W.findIn K (.ref (He.ga K "Refused")) "__init__") (some (some (.ref (He.fAd K ("Refused", some "__init__"))))) && (erB K ("Refused", some "__init__") "Refused.__init__" && (errB (PySem.Challenge.rw_longstrike_k01_errors_made).prog K (He.ga K "Refused") (He.fAd K ("Refused", some "__init__")) (cellOf K ("Refused", some "__init__")) (codeAd K ("Refused", some "__init__")) ["check"] && (excB K (He.ga K "Refused") && (He.eqO (PySem.W.nsIn K mainGlobals "NotOpen") (some (some (.ref (He.ga K "NotOpen")))))))))))))))
def ex7 (K : PySem.W.Frag) : Bool := He.eqO (PySem.W.findIn K (.ref (He.ga K "NotOpen")) "__init__") (some (some (.ref (He.fAd K ("NotOpen", some "__init__"))))) && (erB K ("NotOpen", some "__init__") "NotOpen.__init__" && (errB (PySem.Challenge.rw_longstrike_k01_errors_made).prog K (He.ga K "NotOpen") (He.fAd K ("NotOpen", some "__init__")) (cellOf K ("NotOpen", some "__init__")) (codeAd K ("NotOpen", some "__init__")) ["kind"] && (excB K (He.ga K "NotOpen") && (He.eqO (PySem.W.nsIn K mainGlobals "Busy") (some (some (.ref (He.ga K "Busy")))) && (He.eqO (PySem.W.findIn K (.ref (He.ga K "Busy")) "__init__") (some (some (.ref (He.fAd K ("Busy", some "__init__"))))) && (erB K ("Busy", some "__init__") "Busy.__init__" && (errB (PySem.Challenge.rw_longstrike_k01_errors_made).prog K (He.ga K "Busy") (He.fAd K ("Busy", some "__init__")) (cellOf K ("Busy", some "__init__")) (codeAd K ("Busy", some "__init__")) ["hand"] && (excB K (He.ga K "Busy") && (He.eqO (PySem.W.nsIn K mainGlobals "Idle") (some (some (.ref (He.ga K "Idle")))) && (He.eqO (PySem.W.findIn K (.ref (He.ga K "Idle")) "__init__") (some (some (.ref (He.fAd K ("Idle", some "__init__"))))) && (erB K ("Idle", some "__init__") "Idle.__init__")))))))))))
def ex8 (K : PySem.W.Frag) : Bool := errB (PySem.Challenge.rw_longstrike_k01_errors_made).prog K (He.ga K "Idle") (He.fAd K ("Idle", some "__init__")) (cellOf K ("Idle", some "__init__")) (codeAd K ("Idle", some "__init__")) ["hand"] && (excB K (He.ga K "Idle") && (He.eqO (PySem.W.nsIn K mainGlobals "BadPiece") (some (some (.ref (He.ga K "BadPiece")))) && (He.eqO (PySem.W.findIn K (.ref (He.ga K "BadPiece")) "__init__") (some (some (.ref (He.fAd K ("BadPiece", some "__init__"))))) && (erB K ("BadPiece", some "__init__") "BadPiece.__init__" && (errB (PySem.Challenge.rw_longstrike_k01_errors_made).prog K (He.ga K "BadPiece") (He.fAd K ("BadPiece", some "__init__")) (cellOf K ("BadPiece", some "__init__")) (codeAd K ("BadPiece", some "__init__")) ["piece"] && (excB K (He.ga K "BadPiece") && (He.eqO (PySem.W.nsIn K mainGlobals "BadList") (some (some (.ref (He.ga K "BadList")))) && (He.eqO (PySem.W.findIn K (.ref (He.ga K "BadList")) "__init__") (some (some (.ref (He.fAd K ("BadList", some "__init__"))))) && (erB K ("BadList", some "__init__") "BadList.__init__" && (errB (PySem.Challenge.rw_longstrike_k01_errors_made).prog K (He.ga K "BadList") (He.fAd K ("BadList", some "__init__")) (cellOf K ("BadList", some "__init__")) (codeAd K ("BadList", some "__init__")) ["numbers"] && (excB K (He.ga K "BadList"))))))))))))
def ex9 (K : PySem.W.Frag) : Bool := He.eqO (PySem.W.nsIn K mainGlobals "NoFit") (some (some (.ref (He.ga K "NoFit")))) && (He.eqO (PySem.W.findIn K (.ref (He.ga K "NoFit")) "__init__") (some (some (.ref (He.fAd K ("NoFit", some "__init__"))))) && (erB K ("NoFit", some "__init__") "NoFit.__init__" && (errB (PySem.Challenge.rw_longstrike_k01_errors_made).prog K (He.ga K "NoFit") (He.fAd K ("NoFit", some "__init__")) (cellOf K ("NoFit", some "__init__")) (codeAd K ("NoFit", some "__init__")) ["number"] && (excB K (He.ga K "NoFit") && (He.eqO (PySem.W.nsIn K mainGlobals "BadQuestion") (some (some (.ref (He.ga K "BadQuestion")))) && (He.eqO (PySem.W.findIn K (.ref (He.ga K "BadQuestion")) "__init__") (some (some (.ref (He.fAd K ("BadQuestion", some "__init__"))))) && (erB K ("BadQuestion", some "__init__") "BadQuestion.__init__" && (errB (PySem.Challenge.rw_longstrike_k01_errors_made).prog K (He.ga K "BadQuestion") (He.fAd K ("BadQuestion", some "__init__")) (cellOf K ("BadQuestion", some "__init__")) (codeAd K ("BadQuestion", some "__init__")) ["question"] && (excB K (He.ga K "BadQuestion") && (He.eqO (PySem.W.nsIn K mainGlobals "BadDeed") (some (some (.ref (He.ga K "BadDeed")))) && (He.eqO (PySem.W.findIn K (.ref (He.ga K "BadDeed")) "__init__") (some (some (.ref (He.fAd K ("BadDeed", some "__init__"))))))))))))))))
def ex10 (K : PySem.W.Frag) : Bool := erB K ("BadDeed", some "__init__") "BadDeed.__init__" && (errB (PySem.Challenge.rw_longstrike_k01_errors_made).prog K (He.ga K "BadDeed") (He.fAd K ("BadDeed", some "__init__")) (cellOf K ("BadDeed", some "__init__")) (codeAd K ("BadDeed", some "__init__")) [] && (excB K (He.ga K "BadDeed") && (He.eqO (PySem.W.nsIn K mainGlobals "BadWeaving") (some (some (.ref (He.ga K "BadWeaving")))) && (He.eqO (PySem.W.findIn K (.ref (He.ga K "BadWeaving")) "__init__") (some (some (.ref (He.fAd K ("BadWeaving", some "__init__"))))) && (erB K ("BadWeaving", some "__init__") "BadWeaving.__init__" && (errB (PySem.Challenge.rw_longstrike_k01_errors_made).prog K (He.ga K "BadWeaving") (He.fAd K ("BadWeaving", some "__init__")) (cellOf K ("BadWeaving", some "__init__")) (codeAd K ("BadWeaving", some "__init__")) ["index"] && (excB K (He.ga K "BadWeaving") && (He.eqO (PySem.W.nsIn K mainGlobals "NothingToUndo") (some (some (.ref (He.ga K "NothingToUndo")))) && (He.eqO (PySem.W.findIn K (.ref (He.ga K "NothingToUndo")) "__init__") (some (some (.ref (He.fAd K ("NothingToUndo", some "__init__"))))) && (erB K ("NothingToUndo", some "__init__") "NothingToUndo.__init__" && (errB (PySem.Challenge.rw_longstrike_k01_errors_made).prog K (He.ga K "NothingToUndo") (He.fAd K ("NothingToUndo", some "__init__")) (cellOf K ("NothingToUndo", some "__init__")) (codeAd K ("NothingToUndo", some "__init__")) [])))))))))))
def ex11 (K : PySem.W.Frag) : Bool := excB K (He.ga K "NothingToUndo") && (He.eqO (PySem.W.nsIn K mainGlobals "NothingToRedo") (some (some (.ref (He.ga K "NothingToRedo")))) && (He.eqO (PySem.W.findIn K (.ref (He.ga K "NothingToRedo")) "__init__") (some (some (.ref (He.fAd K ("NothingToRedo", some "__init__"))))) && (erB K ("NothingToRedo", some "__init__") "NothingToRedo.__init__" && (errB (PySem.Challenge.rw_longstrike_k01_errors_made).prog K (He.ga K "NothingToRedo") (He.fAd K ("NothingToRedo", some "__init__")) (cellOf K ("NothingToRedo", some "__init__")) (codeAd K ("NothingToRedo", some "__init__")) [] && (excB K (He.ga K "NothingToRedo") && (He.eqO (PySem.W.nsIn K mainGlobals "BadLine") (some (some (.ref (He.ga K "BadLine")))) && (He.eqO (PySem.W.findIn K (.ref (He.ga K "BadLine")) "__init__") (some (some (.ref (He.fAd K ("BadLine", some "__init__"))))) && (erB K ("BadLine", some "__init__") "BadLine.__init__" && (errB (PySem.Challenge.rw_longstrike_k01_errors_made).prog K (He.ga K "BadLine") (He.fAd K ("BadLine", some "__init__")) (cellOf K ("BadLine", some "__init__")) (codeAd K ("BadLine", some "__init__")) ["index"] && (excB K (He.ga K "BadLine") && (He.eqO (PySem.W.nsIn K mainGlobals "StrikeError") (some (some (.ref (He.ga K "StrikeError")))))))))))))))
def ex12 (K : PySem.W.Frag) : Bool := errsB K [(He.ga K "BadName"), (He.ga K "NameInUse"), (He.ga K "UnknownKind"), (He.ga K "UnknownColumn"), (He.ga K "BadRule"), (He.ga K "UnknownCheck"), (He.ga K "UnlikeBooks"), (He.ga K "BadNumber"), (He.ga K "Taken"), (He.ga K "Used"), (He.ga K "NoRow"), (He.ga K "OwnOwner"), (He.ga K "Refused"), (He.ga K "NotOpen"), (He.ga K "Busy"), (He.ga K "Idle"), (He.ga K "BadPiece"), (He.ga K "BadList"), (He.ga K "NoFit"), (He.ga K "BadQuestion"), (He.ga K "BadDeed"), (He.ga K "BadWeaving"), (He.ga K "NothingToUndo"), (He.ga K "NothingToRedo"), (He.ga K "BadLine")] (He.ga K "StrikeError") && (He.eqO (PySem.W.nsIn K mainGlobals "int") (some none) && (He.eqO (PySem.W.nsIn K mainGlobals "len") (some none) && (He.eqO (PySem.W.nsIn K mainGlobals "range") (some none) && (He.eqO (PySem.W.nsIn K mainGlobals "list") (some none) && (He.eqO (PySem.W.nsIn K mainGlobals "tuple") (some none) && (He.eqO (PySem.W.nsIn K mainGlobals "dict") (some none) && (He.eqO (PySem.W.nsIn K mainGlobals "isinstance") (some none) && (He.eqO (PySem.W.nsIn K mainGlobals "all") (some none) && (He.eqO (PySem.W.nsIn K mainGlobals "any") (some none) && (He.eqO (PySem.W.nsIn K mainGlobals "repr") (some none) && (He.eqO (PySem.W.nsIn K mainGlobals "str") (some none))))))))))))
def ex13 (K : PySem.W.Frag) : Bool := He.eqO (PySem.W.nsIn K mainGlobals "ValueError") (some none)
def exB (K : PySem.W.Frag) : Bool := ex0 K && (ex1 K && (ex2 K && (ex3 K && (ex4 K && (ex5 K && (ex6 K && (ex7 K && (ex8 K && (ex9 K && (ex10 K && (ex11 K && (ex12 K && (ex13 K)))))))))))))

end Ls
set_option maxHeartbeats 0
namespace Ls
open PySem PySem.Spec PyProof.Rows L2
/-! ### the run -/
def ad0 : List Addr := [3, 2, 23, 24, 31, 42, 43, 45, 46, 52, 63, 64, 66, 67, 73, 84, 85, 87, 88, 94]
def ad1 : List Addr := [105, 106, 108, 109, 115, 126, 127, 129, 130, 136, 147, 148, 150, 151, 157, 168, 169, 171, 172, 178]
def ad2 : List Addr := [189, 190, 192, 193, 199, 210, 211, 213, 214, 220, 231, 232, 234, 235, 241, 252, 253, 255, 256, 262]
def ad3 : List Addr := [273, 274, 276, 277, 283, 294, 295, 297, 298, 304, 315, 316, 318, 319, 325, 336, 337, 339, 340, 346]
def ad4 : List Addr := [357, 358, 360, 361, 367, 378, 379, 381, 382, 388, 399, 400, 402, 403, 409, 420, 421, 423, 424, 430]
def ad5 : List Addr := [441, 442, 444, 445, 451, 462, 463, 465, 466, 472, 483, 484, 486, 487, 493, 504, 505, 507, 508, 514]
def ad6 : List Addr := [525, 526, 528, 529, 535, 546, 547, 549, 550, 558, 559, 565, 566, 572, 573, 579, 580, 586, 587, 593]
def ad7 : List Addr := [594, 598, 599, 603, 604, 610, 611]
def lawAds : List Addr := ad0 ++ ad1 ++ ad2 ++ ad3 ++ ad4 ++ ad5 ++ ad6 ++ ad7
abbrev lawRow : PySem.W.OpenRow := PySem.W.OpenLaw.row PySem.Challenge.rw_longstrike_k01_errors_made
abbrev lawView : Program := PySem.W.view lawRow.prog [36]
abbrev lawHook : PySem.W.Hook := hookW lawAds lawDefs exB
def lawObs (s : PySem.W.SharedT) : Bool × List (Option FdW) := obsW lawAds lawDefs exB (HandSHeadRun.getT s)
theorem lawObs_eq (s : PySem.W.SharedT) : lawObs s = lawHook.obs s.abs := obsW_eq (HandSHeadRun.getT_eq s)
theorem law_run0 (w : World) : HandSHeadRun.RunEq lawRow lawView lawHook lawObs 8000 lawNames (w.withFollow "special-get-raises" false) := by
  intro os
  kernel_rfl
theorem law_run1 (w : World) : HandSHeadRun.RunEq lawRow lawView lawHook lawObs 8000 lawNames (w.withFollow "special-get-raises" true) := by
  intro os
  kernel_rfl
theorem law_run (w : World) : HandSHeadRun.RunEq lawRow lawView lawHook lawObs 8000 lawNames w := by
  refine PySem.W.byRow2 "special-get-raises" (fun w => law_run0 w) (fun w => law_run1 w) w
theorem law_facts {w : World} {K : PySem.W.Frag} {h : Heap} {mg : Str → Option Value} {fa : Addr} (X : K.In h) (G : h.Ns mainGlobals mg) (hfa : mg "law" = some (.ref fa)) (hx : exB K = true) (c : (lawDefs.map fun d => wOf K d.at_) = lawDefs.map WD.val) :
    ∃ fd : FuncData, (∀ (s : Shared) (v : Value), BindsTo s fd ⟨[v], []⟩ [("_law_script", v)]) ∧ ∀ base : Heap, K.In base → base.Ns mainGlobals mg → FnG (PySem.Challenge.rw_longstrike_k01_errors_made).prog w K mg base CX0 4 fa fd ["_law_script"] (spLaw K) := by
  unfold exB at hx
  obtain ⟨hb0, hx⟩ := He.ba (show (ex0 K && _) = true from hx)
  unfold ex0 at hb0
  obtain ⟨h0, hb0⟩ := He.ba hb0
  obtain ⟨h1, hb0⟩ := He.ba hb0
  obtain ⟨h2, hb0⟩ := He.ba hb0
  obtain ⟨h3, hb0⟩ := He.ba hb0
  obtain ⟨h4, hb0⟩ := He.ba hb0
  obtain ⟨h5, hb0⟩ := He.ba hb0
  obtain ⟨h6, hb0⟩ := He.ba hb0
  obtain ⟨h7, hb0⟩ := He.ba hb0
  obtain ⟨h8, hb0⟩ := He.ba hb0
  obtain ⟨h9, hb0⟩ := He.ba hb0
  obtain ⟨h10, hb0⟩ := He.ba hb0
  have h11 := hb0
  obtain ⟨hb1, hx⟩ := He.ba (show (ex1 K && _) = true from hx)
  unfold ex1 at hb1
  obtain ⟨h12, hb1⟩ := He.ba hb1
  obtain ⟨h13, hb1⟩ := He.ba hb1
  obtain ⟨h14, hb1⟩ := He.ba hb1
  obtain ⟨h15, hb1⟩ := He.ba hb1
  obtain ⟨h16, hb1⟩ := He.ba hb1
  obtain ⟨h17, hb1⟩ := He.ba hb1
  obtain ⟨h18, hb1⟩ := He.ba hb1
  obtain ⟨h19, hb1⟩ := He.ba hb1
  obtain ⟨h20, hb1⟩ := He.ba hb1
  obtain ⟨h21, hb1⟩ := He.ba hb1
  obtain ⟨h22, hb1⟩ := He.ba hb1
  have h23 := hb1
  obtain ⟨hb2, hx⟩ := He.ba (show (ex2 K && _) = true from hx)
  unfold ex2 at hb2
  obtain ⟨h24, hb2⟩ := He.ba hb2
  obtain ⟨h25, hb2⟩ := He.ba hb2
  obtain ⟨h26, hb2⟩ := He.ba hb2
  obtain ⟨h27, hb2⟩ := He.ba hb2
  obtain ⟨h28, hb2⟩ := He.ba hb2
  obtain ⟨h29, hb2⟩ := He.ba hb2
  obtain ⟨h30, hb2⟩ := He.ba hb2
  obtain ⟨h31, hb2⟩ := He.ba hb2
  obtain ⟨h32, hb2⟩ := He.ba hb2
  obtain ⟨h33, hb2⟩ := He.ba hb2
  obtain ⟨h34, hb2⟩ := He.ba hb2
  have h35 := hb2
  obtain ⟨hb3, hx⟩ := He.ba (show (ex3 K && _) = true from hx)
  unfold ex3 at hb3
  obtain ⟨h36, hb3⟩ := He.ba hb3
  obtain ⟨h37, hb3⟩ := He.ba hb3
  obtain ⟨h38, hb3⟩ := He.ba hb3
  obtain ⟨h39, hb3⟩ := He.ba hb3
  obtain ⟨h40, hb3⟩ := He.ba hb3
  obtain ⟨h41, hb3⟩ := He.ba hb3
  obtain ⟨h42, hb3⟩ := He.ba hb3
  obtain ⟨h43, hb3⟩ := He.ba hb3
  obtain ⟨h44, hb3⟩ := He.ba hb3
  obtain ⟨h45, hb3⟩ := He.ba hb3
  obtain ⟨h46, hb3⟩ := He.ba hb3
  have h47 := hb3
  obtain ⟨hb4, hx⟩ := He.ba (show (ex4 K && _) = true from hx)
  unfold ex4 at hb4
  obtain ⟨h48, hb4⟩ := He.ba hb4
  obtain ⟨h49, hb4⟩ := He.ba hb4
  obtain ⟨h50, hb4⟩ := He.ba hb4
  obtain ⟨h51, hb4⟩ := He.ba hb4
  obtain ⟨h52, hb4⟩ := He.ba hb4
  obtain ⟨h53, hb4⟩ := He.ba hb4
  obtain ⟨h54, hb4⟩ := He.ba hb4
  obtain ⟨h55, hb4⟩ := He.ba hb4
  obtain ⟨h56, hb4⟩ := He.ba hb4
  obtain ⟨h57, hb4⟩ := He.ba hb4
  obtain ⟨h58, hb4⟩ := He.ba hb4
  have h59 := hb4
  obtain ⟨hb5, hx⟩ := He.ba (show (ex5 K && _) = true from hx)
  unfold ex5 at hb5
  obtain ⟨h60, hb5⟩ := He.ba hb5
  obtain ⟨h61, hb5⟩ := He.ba hb5
  obtain ⟨h62, hb5⟩ := He.ba hb5
  obtain ⟨h63, hb5⟩ := He.ba hb5
  obtain ⟨h64, hb5⟩ := He.ba hb5
  obtain ⟨h65, hb5⟩ := He.ba hb5
  obtain ⟨h66, hb5⟩ := He.ba hb5
  obtain ⟨h67, hb5⟩ := He.ba hb5
  obtain ⟨h68, hb5⟩ := He.ba hb5
  obtain ⟨h69, hb5⟩ := He.ba hb5
  obtain ⟨h70, hb5⟩ := He.ba hb5
  have h71 := hb5
  obtain ⟨hb6, hx⟩ := He.ba (show (ex6 K && _) = true from hx)
  unfold ex6 at hb6
  obtain ⟨h72, hb6⟩ := He.ba hb6
  obtain ⟨h73, hb6⟩ := He.ba hb6
  obtain ⟨h74, hb6⟩ := He.ba hb6
  obtain ⟨h75, hb6⟩ := He.ba hb6
  obtain ⟨h76, hb6⟩ := He.ba hb6
  obtain ⟨h77, hb6⟩ := He.ba hb6
  obtain ⟨h78, hb6⟩ := He.ba hb6
  obtain ⟨h79, hb6⟩ := He.ba hb6
  obtain ⟨h80, hb6⟩ := He.ba hb6
  obtain ⟨h81, hb6⟩ := He.ba hb6
  obtain ⟨h82, hb6⟩ := He.ba hb6
  have h83 := hb6
  obtain ⟨hb7, hx⟩ := He.ba (show (ex7 K && _) = true from hx)
  unfold ex7 at hb7
  obtain ⟨h84, hb7⟩ := He.ba hb7
  obtain ⟨h85, hb7⟩ := He.ba hb7
  obtain ⟨h86, hb7⟩ := He.ba hb7
  obtain ⟨h87, hb7⟩ := He.ba hb7
  obtain ⟨h88, hb7⟩ := He.ba hb7
  obtain ⟨h89, hb7⟩ := He.ba hb7
  obtain ⟨h90, hb7⟩ := He.ba hb7
  obtain ⟨h91, hb7⟩ := He.ba hb7
  obtain ⟨h92, hb7⟩ := He.ba hb7
  obtain ⟨h93, hb7⟩ := He.ba hb7
  obtain ⟨h94, hb7⟩ := He.ba hb7
  have h95 := hb7
  obtain ⟨hb8, hx⟩ := He.ba (show (ex8 K && _) = true from hx)
  unfold ex8 at hb8
  obtain ⟨h96, hb8⟩ := He.ba hb8
  obtain ⟨h97, hb8⟩ := He.ba hb8
  obtain ⟨h98, hb8⟩ := He.ba hb8
  obtain ⟨h99, hb8⟩ := He.ba hb8
  obtain ⟨h100, hb8⟩ := He.ba hb8
  obtain ⟨h101, hb8⟩ := He.ba hb8
  obtain ⟨h102, hb8⟩ := He.ba hb8
  obtain ⟨h103, hb8⟩ := He.ba hb8
  obtain ⟨h104, hb8⟩ := He.ba hb8
  obtain ⟨h105, hb8⟩ := He.ba hb8
  obtain ⟨h106, hb8⟩ := He.ba hb8
  have h107 := hb8
  obtain ⟨hb9, hx⟩ := He.ba (show (ex9 K && _) = true from hx)
  unfold ex9 at hb9
  obtain ⟨h108, hb9⟩ := He.ba hb9
  obtain ⟨h109, hb9⟩ := He.ba hb9
  obtain ⟨h110, hb9⟩ := He.ba hb9
  obtain ⟨h111, hb9⟩ := He.ba hb9
  obtain ⟨h112, hb9⟩ := He.ba hb9
  obtain ⟨h113, hb9⟩ := He.ba hb9
  obtain ⟨h114, hb9⟩ := He.ba hb9
  obtain ⟨h115, hb9⟩ := He.ba hb9
  obtain ⟨h116, hb9⟩ := He.ba hb9
  obtain ⟨h117, hb9⟩ := He.ba hb9
  obtain ⟨h118, hb9⟩ := He.ba hb9
  have h119 := hb9
  obtain ⟨hb10, hx⟩ := He.ba (show (ex10 K && _) = true from hx)
  unfold ex10 at hb10
  obtain ⟨h120, hb10⟩ := He.ba hb10
  obtain ⟨h121, hb10⟩ := He.ba hb10
  obtain ⟨h122, hb10⟩ := He.ba hb10
  obtain ⟨h123, hb10⟩ := He.ba hb10
  obtain ⟨h124, hb10⟩ := He.ba hb10
  obtain ⟨h125, hb10⟩ := He.ba hb10
  obtain ⟨h126, hb10⟩ := He.ba hb10
  obtain ⟨h127, hb10⟩ := He.ba hb10
  obtain ⟨h128, hb10⟩ := He.ba hb10
  obtain ⟨h129, hb10⟩ := He.ba hb10
  obtain ⟨h130, hb10⟩ := He.ba hb10
  have h131 := hb10
  obtain ⟨hb11, hx⟩ := He.ba (show (ex11 K && _) = true from hx)
  unfold ex11 at hb11
  obtain ⟨h132, hb11⟩ := He.ba hb11
  obtain ⟨h133, hb11⟩ := He.ba hb11
  obtain ⟨h134, hb11⟩ := He.ba hb11
  obtain ⟨h135, hb11⟩ := He.ba hb11
  obtain ⟨h136, hb11⟩ := He.ba hb11
  obtain ⟨h137, hb11⟩ := He.ba hb11
  obtain ⟨h138, hb11⟩ := He.ba hb11
  obtain ⟨h139, hb11⟩ := He.ba hb11
  obtain ⟨h140, hb11⟩ := He.ba hb11
  obtain ⟨h141, hb11⟩ := He.ba hb11
  obtain ⟨h142, hb11⟩ := He.ba hb11
  have h143 := hb11
  obtain ⟨hb12, hx⟩ := He.ba (show (ex12 K && _) = true from hx)
  unfold ex12 at hb12
  obtain ⟨h144, hb12⟩ := He.ba hb12
  obtain ⟨h145, hb12⟩ := He.ba hb12
  obtain ⟨h146, hb12⟩ := He.ba hb12
  obtain ⟨h147, hb12⟩ := He.ba hb12
  obtain ⟨h148, hb12⟩ := He.ba hb12
  obtain ⟨h149, hb12⟩ := He.ba hb12
  obtain ⟨h150, hb12⟩ := He.ba hb12
  obtain ⟨h151, hb12⟩ := He.ba hb12
  obtain ⟨h152, hb12⟩ := He.ba hb12
  obtain ⟨h153, hb12⟩ := He.ba hb12
  obtain ⟨h154, hb12⟩ := He.ba hb12
  have h155 := hb12
  have hb13 := hx
  unfold ex13 at hb13
  have h156 := hb13
  have a0 := He.eqO_ok h0
  obtain ⟨_, _, _, _, _, _, _, _, _, l0, c0, k0⟩ := pl_ok (wd_at c 0 rfl) rfl h1
  have a1 := He.eqO_ok h2
  obtain ⟨_, _, _, _, _, _, _, _, _, l1, c1, k1⟩ := pl_ok (wd_at c 1 rfl) rfl h3
  have a2 := He.eqO_ok h4
  obtain ⟨_, _, _, _, _, _, _, _, _, l2, c2, k2⟩ := pl_ok (wd_at c 2 rfl) rfl h5
  have a3 := He.eqO_ok h6
  obtain ⟨_, _, _, _, _, _, _, _, _, l3, c3, k3⟩ := pl_ok (wd_at c 3 rfl) rfl h7
  have a4 := He.eqO_ok h8
  obtain ⟨_, _, _, _, _, _, _, _, _, l4, c4, k4⟩ := pl_ok (wd_at c 4 rfl) rfl h9
  have a5 := He.eqO_ok h10
  obtain ⟨_, _, _, _, _, _, _, _, _, l5, c5, k5⟩ := pl_ok (wd_at c 5 rfl) rfl h11
  have a6 := He.eqO_ok h12
  obtain ⟨_, _, _, _, _, _, _, _, _, l6, c6, k6⟩ := pl_ok (wd_at c 6 rfl) rfl h13
  have a7 := He.eqO_ok h14
  obtain ⟨_, _, _, _, _, _, _, _, _, l7, c7, k7⟩ := pl_ok (wd_at c 7 rfl) rfl h15
  have a8 := He.eqO_ok h16
  obtain ⟨_, _, _, _, _, _, _, _, _, l8, c8, k8⟩ := pl_ok (wd_at c 8 rfl) rfl h17
  have aE_BadName := He.eqO_ok h18
  have iE_BadName := He.eqO_ok h19
  obtain ⟨_, _, _, _, _, _, lE_BadName, cE_BadName⟩ := er_ok (wd_at c 9 rfl) rfl h20
  have bE_BadName := h21
  have vE_BadName := h22
  have aE_NameInUse := He.eqO_ok h23
  have iE_NameInUse := He.eqO_ok h24
  obtain ⟨_, _, _, _, _, _, lE_NameInUse, cE_NameInUse⟩ := er_ok (wd_at c 10 rfl) rfl h25
  have bE_NameInUse := h26
  have vE_NameInUse := h27
  have aE_UnknownKind := He.eqO_ok h28
  have iE_UnknownKind := He.eqO_ok h29
  obtain ⟨_, _, _, _, _, _, lE_UnknownKind, cE_UnknownKind⟩ := er_ok (wd_at c 11 rfl) rfl h30
  have bE_UnknownKind := h31
  have vE_UnknownKind := h32
  have aE_UnknownColumn := He.eqO_ok h33
  have iE_UnknownColumn := He.eqO_ok h34
  obtain ⟨_, _, _, _, _, _, lE_UnknownColumn, cE_UnknownColumn⟩ := er_ok (wd_at c 12 rfl) rfl h35
  have bE_UnknownColumn := h36
  have vE_UnknownColumn := h37
  have aE_BadRule := He.eqO_ok h38
  have iE_BadRule := He.eqO_ok h39
  obtain ⟨_, _, _, _, _, _, lE_BadRule, cE_BadRule⟩ := er_ok (wd_at c 13 rfl) rfl h40
  have bE_BadRule := h41
  have vE_BadRule := h42
  have aE_UnknownCheck := He.eqO_ok h43
  have iE_UnknownCheck := He.eqO_ok h44
  obtain ⟨_, _, _, _, _, _, lE_UnknownCheck, cE_UnknownCheck⟩ := er_ok (wd_at c 14 rfl) rfl h45
  have bE_UnknownCheck := h46
  have vE_UnknownCheck := h47
  have aE_UnlikeBooks := He.eqO_ok h48
  have iE_UnlikeBooks := He.eqO_ok h49
  obtain ⟨_, _, _, _, _, _, lE_UnlikeBooks, cE_UnlikeBooks⟩ := er_ok (wd_at c 15 rfl) rfl h50
  have bE_UnlikeBooks := h51
  have vE_UnlikeBooks := h52
  have aE_BadNumber := He.eqO_ok h53
  have iE_BadNumber := He.eqO_ok h54
  obtain ⟨_, _, _, _, _, _, lE_BadNumber, cE_BadNumber⟩ := er_ok (wd_at c 16 rfl) rfl h55
  have bE_BadNumber := h56
  have vE_BadNumber := h57
  have aE_Taken := He.eqO_ok h58
  have iE_Taken := He.eqO_ok h59
  obtain ⟨_, _, _, _, _, _, lE_Taken, cE_Taken⟩ := er_ok (wd_at c 17 rfl) rfl h60
  have bE_Taken := h61
  have vE_Taken := h62
  have aE_Used := He.eqO_ok h63
  have iE_Used := He.eqO_ok h64
  obtain ⟨_, _, _, _, _, _, lE_Used, cE_Used⟩ := er_ok (wd_at c 18 rfl) rfl h65
  have bE_Used := h66
  have vE_Used := h67
  have aE_NoRow := He.eqO_ok h68
  have iE_NoRow := He.eqO_ok h69
  obtain ⟨_, _, _, _, _, _, lE_NoRow, cE_NoRow⟩ := er_ok (wd_at c 19 rfl) rfl h70
  have bE_NoRow := h71
  have vE_NoRow := h72
  have aE_OwnOwner := He.eqO_ok h73
  have iE_OwnOwner := He.eqO_ok h74
  obtain ⟨_, _, _, _, _, _, lE_OwnOwner, cE_OwnOwner⟩ := er_ok (wd_at c 20 rfl) rfl h75
  have bE_OwnOwner := h76
  have vE_OwnOwner := h77
  have aE_Refused := He.eqO_ok h78
  have iE_Refused := He.eqO_ok h79
  obtain ⟨_, _, _, _, _, _, lE_Refused, cE_Refused⟩ := er_ok (wd_at c 21 rfl) rfl h80
  have bE_Refused := h81
  have vE_Refused := h82
  have aE_NotOpen := He.eqO_ok h83
  have iE_NotOpen := He.eqO_ok h84
  obtain ⟨_, _, _, _, _, _, lE_NotOpen, cE_NotOpen⟩ := er_ok (wd_at c 22 rfl) rfl h85
  have bE_NotOpen := h86
  have vE_NotOpen := h87
  have aE_Busy := He.eqO_ok h88
  have iE_Busy := He.eqO_ok h89
  obtain ⟨_, _, _, _, _, _, lE_Busy, cE_Busy⟩ := er_ok (wd_at c 23 rfl) rfl h90
  have bE_Busy := h91
  have vE_Busy := h92
  have aE_Idle := He.eqO_ok h93
  have iE_Idle := He.eqO_ok h94
  obtain ⟨_, _, _, _, _, _, lE_Idle, cE_Idle⟩ := er_ok (wd_at c 24 rfl) rfl h95
  have bE_Idle := h96
  have vE_Idle := h97
  have aE_BadPiece := He.eqO_ok h98
  have iE_BadPiece := He.eqO_ok h99
  obtain ⟨_, _, _, _, _, _, lE_BadPiece, cE_BadPiece⟩ := er_ok (wd_at c 25 rfl) rfl h100
  have bE_BadPiece := h101
  have vE_BadPiece := h102
  have aE_BadList := He.eqO_ok h103
  have iE_BadList := He.eqO_ok h104
  obtain ⟨_, _, _, _, _, _, lE_BadList, cE_BadList⟩ := er_ok (wd_at c 26 rfl) rfl h105
  have bE_BadList := h106
  have vE_BadList := h107
  have aE_NoFit := He.eqO_ok h108
  have iE_NoFit := He.eqO_ok h109
  obtain ⟨_, _, _, _, _, _, lE_NoFit, cE_NoFit⟩ := er_ok (wd_at c 27 rfl) rfl h110
  have bE_NoFit := h111
  have vE_NoFit := h112
  have aE_BadQuestion := He.eqO_ok h113
  have iE_BadQuestion := He.eqO_ok h114
  obtain ⟨_, _, _, _, _, _, lE_BadQuestion, cE_BadQuestion⟩ := er_ok (wd_at c 28 rfl) rfl h115
  have bE_BadQuestion := h116
  have vE_BadQuestion := h117
  have aE_BadDeed := He.eqO_ok h118
  have iE_BadDeed := He.eqO_ok h119
  obtain ⟨_, _, _, _, _, _, lE_BadDeed, cE_BadDeed⟩ := er_ok (wd_at c 29 rfl) rfl h120
  have bE_BadDeed := h121
  have vE_BadDeed := h122
  have aE_BadWeaving := He.eqO_ok h123
  have iE_BadWeaving := He.eqO_ok h124
  obtain ⟨_, _, _, _, _, _, lE_BadWeaving, cE_BadWeaving⟩ := er_ok (wd_at c 30 rfl) rfl h125
  have bE_BadWeaving := h126
  have vE_BadWeaving := h127
  have aE_NothingToUndo := He.eqO_ok h128
  have iE_NothingToUndo := He.eqO_ok h129
  obtain ⟨_, _, _, _, _, _, lE_NothingToUndo, cE_NothingToUndo⟩ := er_ok (wd_at c 31 rfl) rfl h130
  have bE_NothingToUndo := h131
  have vE_NothingToUndo := h132
  have aE_NothingToRedo := He.eqO_ok h133
  have iE_NothingToRedo := He.eqO_ok h134
  obtain ⟨_, _, _, _, _, _, lE_NothingToRedo, cE_NothingToRedo⟩ := er_ok (wd_at c 32 rfl) rfl h135
  have bE_NothingToRedo := h136
  have vE_NothingToRedo := h137
  have aE_BadLine := He.eqO_ok h138
  have iE_BadLine := He.eqO_ok h139
  obtain ⟨_, _, _, _, _, _, lE_BadLine, cE_BadLine⟩ := er_ok (wd_at c 33 rfl) rfl h140
  have bE_BadLine := h141
  have vE_BadLine := h142
  have aS := He.eqO_ok h143
  have evB := h144
  have z_int := He.eqO_ok h145
  have z_len := He.eqO_ok h146
  have z_range := He.eqO_ok h147
  have z_list := He.eqO_ok h148
  have z_tuple := He.eqO_ok h149
  have z_dict := He.eqO_ok h150
  have z_isinstance := He.eqO_ok h151
  have z_all := He.eqO_ok h152
  have z_any := He.eqO_ok h153
  have z_repr := He.eqO_ok h154
  have z_str := He.eqO_ok h155
  have z_ValueError := He.eqO_ok h156
  exact all_mk (l := PySem.Challenge.rw_longstrike_k01_errors_made) (w := w) X G hfa a0 l0 c0 k0 a1 l1 c1 k1 a2 l2 c2 k2 a3 l3 c3 k3 a4 l4 c4 k4 a5 l5 c5 k5 a6 l6 c6 k6 a7 l7 c7 k7 a8 l8 c8 k8 aE_BadName iE_BadName lE_BadName cE_BadName bE_BadName vE_BadName aE_NameInUse iE_NameInUse lE_NameInUse cE_NameInUse bE_NameInUse vE_NameInUse aE_UnknownKind iE_UnknownKind lE_UnknownKind cE_UnknownKind bE_UnknownKind vE_UnknownKind aE_UnknownColumn iE_UnknownColumn lE_UnknownColumn cE_UnknownColumn bE_UnknownColumn vE_UnknownColumn aE_BadRule iE_BadRule lE_BadRule cE_BadRule bE_BadRule vE_BadRule aE_UnknownCheck iE_UnknownCheck lE_UnknownCheck cE_UnknownCheck bE_UnknownCheck vE_UnknownCheck aE_UnlikeBooks iE_UnlikeBooks lE_UnlikeBooks cE_UnlikeBooks bE_UnlikeBooks vE_UnlikeBooks aE_BadNumber iE_BadNumber lE_BadNumber cE_BadNumber bE_BadNumber vE_BadNumber aE_Taken iE_Taken lE_Taken cE_Taken bE_Taken vE_Taken aE_Used iE_Used lE_Used cE_Used bE_Used vE_Used aE_NoRow iE_NoRow lE_NoRow cE_NoRow bE_NoRow vE_NoRow aE_OwnOwner iE_OwnOwner lE_OwnOwner cE_OwnOwner bE_OwnOwner vE_OwnOwner aE_Refused iE_Refused lE_Refused cE_Refused bE_Refused vE_Refused aE_NotOpen iE_NotOpen lE_NotOpen cE_NotOpen bE_NotOpen vE_NotOpen aE_Busy iE_Busy lE_Busy cE_Busy bE_Busy vE_Busy aE_Idle iE_Idle lE_Idle cE_Idle bE_Idle vE_Idle aE_BadPiece iE_BadPiece lE_BadPiece cE_BadPiece bE_BadPiece vE_BadPiece aE_BadList iE_BadList lE_BadList cE_BadList bE_BadList vE_BadList aE_NoFit iE_NoFit lE_NoFit cE_NoFit bE_NoFit vE_NoFit aE_BadQuestion iE_BadQuestion lE_BadQuestion cE_BadQuestion bE_BadQuestion vE_BadQuestion aE_BadDeed iE_BadDeed lE_BadDeed cE_BadDeed bE_BadDeed vE_BadDeed aE_BadWeaving iE_BadWeaving lE_BadWeaving cE_BadWeaving bE_BadWeaving vE_BadWeaving aE_NothingToUndo iE_NothingToUndo lE_NothingToUndo cE_NothingToUndo bE_NothingToUndo vE_NothingToUndo aE_NothingToRedo iE_NothingToRedo lE_NothingToRedo cE_NothingToRedo bE_NothingToRedo vE_NothingToRedo aE_BadLine iE_BadLine lE_BadLine cE_BadLine bE_BadLine vE_BadLine aS evB z_int z_len z_range z_list z_tuple z_dict z_isinstance z_all z_any z_repr z_str z_ValueError
end Ls
open PySem PySem.W PySem.Calls PyProof.Rows
theorem PySem.Challenge.cw_longstrike_k01_errors_made_holds : PySem.Challenge.rw_longstrike_k01_errors_made.Holds := by
  w_on; o_law
  refine HandSHeadRun.head_any (r := OpenLaw.row PySem.Challenge.rw_longstrike_k01_errors_made) (q := Ls.lawView) (H := Ls.lawHook) (ob := Ls.lawObs) (M := 8000) (loose := Ls.lawNames) (d := HandSHeadRun.topDef (OpenLaw.row PySem.Challenge.rw_longstrike_k01_errors_made).prog 36) (kwd := []) Ls.lawObs_eq
    (by kernel_rfl) (fun s => by kernel_rfl) Ls.law_run (by kernel_rfl) (by kernel_rfl) (by kernel_rfl) (by rfl) (by first | assumption | decide +kernel) (by decide +kernel) ⟨rfl, rfl, rfl, rfl, rfl, by decide +kernel⟩ ?hw ?hc
  case hw => w_witness2
  case hc =>
    refine Ls.walk_ofGE (l := PySem.Challenge.rw_longstrike_k01_errors_made) (n := 63) (k := 4) (x := "_law_script") rfl (by decide) (by kernel_rfl) ⟨rfl, by decide, by decide⟩ ?F
    intro w mg fa h Y G hmg0
    obtain ⟨K, KX, hx, c⟩ := Y
    have hmg : mg ("law" : PySem.Str) = some (.ref fa) := by
      have e : (HandSHeadRun.topDef (OpenLaw.row PySem.Challenge.rw_longstrike_k01_errors_made).prog 36).name = ("law" : PySem.Str) := by kernel_rfl
      rw [← e]
      exact hmg0
    obtain ⟨fd, hb, hF⟩ := Ls.law_facts (w := w) KX G hmg hx c
    exact ⟨K, fd, Ls.spLaw K, KX, hb, fun H a ns hl hS => ⟨a, ns, rfl, hS, hl, fun _ => rfl⟩, hF⟩

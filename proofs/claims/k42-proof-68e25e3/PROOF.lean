import PyProof.Rows.All
import Wide.All
import OpenK.AllK
import Wide.FinOn
import HandS.Base
import HandS.Call
import HandS.HeadHook1
import HandS.HeadHook2
import HandS.ForMost
import HandS.Wide
import HandS.DictComp
import HandS.Codes
import HandS.IsInst
import HandS.Conv
import HandS.Walk
import HandS.Defaults
import HandS.Dict
import HandS.Nested
import HandS.ExcInit
import HandS.ExcField
import HandS.MakeKw
import KE.KSuper
import KE.KExcSuper
import HandS.ExcOwn
import HandS.TryOnly
import HandS.TryMany
import HandS.WordsExc
import HandS.NoneIn
import KE.GoesEnum
import KE.GoesMore
import HandS.ListItems
import HandS.TupAny
import HandS.Text
import HandS.WideBits
import KE.KStateDown
import HandS.Head0
import HandS.Head1
import HandS.Head2
import HandS.HeadEnd
import PySem.Challenge.RW_longstrike_k42_tables_of_kinds
set_option Elab.async false
set_option linter.all false
set_option maxRecDepth 100000
set_option maxHeartbeats 4000000
set_option exponentiation.threshold 20000
/-! facts of a top that is run in the kernel: every def by what it is made of, all the rest by one Bool -/
namespace Ls
open PySem PySem.Spec PyProof.Rows L2
abbrev FdW : Type := Str × Str × Arguments × FuncBody × Scope × Addr × List Str × Addr
structure WD where
  at_ : Str × Option Str
  name : Str
  qual : Str
  params : Arguments
  body : List Stmt
  scope : Scope
  cl : List Str
def WD.val (d : WD) : Option FdW := some (d.name, d.qual, d.params, .stmts d.body, d.scope, mainGlobals, d.cl, builtinsNs)
def fdAt (K : PySem.W.Frag) (p : Str × Option Str) : Option FuncData := match K.lookup (He.fAd K p) with
  | some ⟨_, _, .func fd, _⟩ => some fd
  | _ => none
def wOf (K : PySem.W.Frag) (p : Str × Option Str) : Option FdW := match fdAt K p with
  | some fd => some (fd.name, fd.qualname, fd.params, fd.body, fd.scope, fd.globals, fd.closure.map (·.1), fd.builtins)
  | none => none
theorem fdAt_ok {K : PySem.W.Frag} {p : Str × Option Str} {fd : FuncData} (h : fdAt K p = some fd) : ∃ oc od sl, K.lookup (He.fAd K p) = some ⟨oc, od, .func fd, sl⟩ := by
  unfold fdAt at h
  cases q : K.lookup (He.fAd K p) with
  | none =>
    rw [q] at h
    cases h
  | some o =>
    obtain ⟨oc, od, dt, sl⟩ := o
    rw [q] at h
    cases dt with
    | func f =>
      have e : f = fd := Option.some.inj h
      rw [e]
      exact ⟨oc, od, sl, rfl⟩
    | _ => cases h
theorem wd_ok {K : PySem.W.Frag} {d : WD} (h : wOf K d.at_ = d.val) : ∃ (fd : FuncData) (oc : Value) (od : Option Addr) (sl : Array (Option Value)), fdAt K d.at_ = some fd ∧ K.lookup (He.fAd K d.at_) = some ⟨oc, od, .func fd, sl⟩ ∧
    fd = PySem.W.fnX d.name d.qual d.params d.body d.scope fd.closure fd.defaults fd.kwdefaults fd.doc fd.pyModule fd.annotations fd.code fd.closureTuple ∧ fd.closure.map (·.1) = d.cl := by
  unfold wOf WD.val at h
  cases q : fdAt K d.at_ with
  | none =>
    rw [q] at h
    cases h
  | some fd =>
    rw [q] at h
    obtain ⟨oc, od, sl, l⟩ := fdAt_ok q
    obtain ⟨n1, n2, n3, n4, n5, n6, n7, n8, n9, n10, n11, n12, n13, n14, n15⟩ := fd
    simp only [Option.some.injEq, Prod.mk.injEq] at h
    obtain ⟨h1, h2, h3, h4, h5, h6, h7, h8⟩ := h
    subst h1 h2 h3 h4 h5 h6 h8
    exact ⟨_, oc, od, sl, rfl, l, rfl, h7⟩
/-- a def without defaults -/
def plB (K : PySem.W.Frag) (p : Str × Option Str) (q : Str) : Bool := match fdAt K p with
  | some fd => (match fd.defaults with
    | .none => PySem.W.codeIn K fd.code q
    | _ => false) && PySem.W.keepIn K (.ref (He.fAd K p))
  | none => false
theorem pl_ok {K : PySem.W.Frag} {d : WD} (h : wOf K d.at_ = d.val) (hc : d.cl = []) (b : plB K d.at_ d.qual = true) : ∃ (oc : Value) (od : Option Addr) (kV dc pm : Value) (an : Option Addr) (cd ct : Value) (sl : Array (Option Value)),
    K.lookup (He.fAd K d.at_) = some ⟨oc, od, .func (PySem.W.fnOf d.name d.qual d.params d.body d.scope .none kV dc pm an cd ct), sl⟩ ∧ PySem.W.codeIn K cd d.qual = true ∧ PySem.W.keepIn K (.ref (He.fAd K d.at_)) = true := by
  obtain ⟨fd, oc, od, sl, q, l, e, c⟩ := wd_ok h
  unfold plB at b
  rw [q] at b
  obtain ⟨b1, b2⟩ := He.ba b
  have hcl : fd.closure = [] := List.map_eq_nil_iff.mp (c.trans hc)
  cases hd : fd.defaults with
  | none =>
    rw [hd] at b1
    rw [hcl, hd] at e
    rw [e] at l
    exact ⟨oc, od, _, _, _, _, _, _, sl, l, b1, b2⟩
  | _ => rw [hd] at b1; cases b1
/-- an own error's maker: one cell, no defaults -/
def erB (K : PySem.W.Frag) (p : Str × Option Str) (q : Str) : Bool := match fdAt K p with
  | some fd => (match fd.defaults, fd.kwdefaults, fd.annotations, fd.code with
    | .none, .none, none, .ref cda => PySem.W.codeIn K (.ref cda) q
    | _, _, _, _ => false)
  | none => false
def cellOf (K : PySem.W.Frag) (p : Str × Option Str) : Addr := match fdAt K p with
  | some fd => (match fd.closure with
    | [(_, a)] => a
    | _ => 0)
  | none => 0
def codeAd (K : PySem.W.Frag) (p : Str × Option Str) : Addr := match fdAt K p with
  | some fd => (match fd.code with
    | .ref a => a
    | _ => 0)
  | none => 0
theorem er_ok {K : PySem.W.Frag} {d : WD} (h : wOf K d.at_ = d.val) (hc : d.cl = (["__class__"] : List Str)) (b : erB K d.at_ d.qual = true) : ∃ (oc : Value) (od : Option Addr) (dc pm ct : Value) (sl : Array (Option Value)),
    K.lookup (He.fAd K d.at_) = some ⟨oc, od, .func (PySem.W.fnX d.name d.qual d.params d.body d.scope [("__class__", cellOf K d.at_)] .none .none dc pm none (.ref (codeAd K d.at_)) ct), sl⟩ ∧ PySem.W.codeIn K (.ref (codeAd K d.at_)) d.qual = true := by
  obtain ⟨fd, oc, od, sl, q, l, e, c⟩ := wd_ok h
  unfold erB at b
  rw [q] at b
  rw [hc] at c
  have e1 : ∃ a : Addr, fd.closure = ([("__class__", a)] : List (Str × Addr)) := by
    cases hq : fd.closure with
    | nil => rw [hq] at c; cases c
    | cons z r =>
      rw [hq, List.map_cons] at c
      obtain ⟨c1, c2⟩ := List.cons.inj c
      rw [List.map_eq_nil_iff.mp c2]
      exact ⟨z.2, by rw [← c1]⟩
  obtain ⟨a, e1⟩ := e1
  have ec : cellOf K d.at_ = a := by
    unfold cellOf
    rw [q]
    show (match fd.closure with | [(_, a)] => a | _ => 0) = a
    rw [e1]
  cases h1 : fd.defaults with
  | none =>
    cases h2 : fd.kwdefaults with
    | none =>
      cases h3 : fd.annotations with
      | none =>
        cases h4 : fd.code with
        | ref cda =>
          have ed : codeAd K d.at_ = cda := by
            unfold codeAd
            rw [q]
            show (match fd.code with | .ref a => a | _ => 0) = cda
            rw [h4]
          have b2 : PySem.W.codeIn K (.ref cda) d.qual = true := by
            have := b
            simp only [h1, h2, h3, h4] at this
            exact this
          rw [ec, ed]
          rw [e1, h1, h2, h3, h4] at e
          rw [e] at l
          exact ⟨oc, od, _, _, _, sl, l, b2⟩
        | _ => simp only [h1, h2, h3, h4] at b; cases b
      | some x => simp only [h1, h2, h3] at b; cases b
    | _ => simp only [h1, h2] at b; cases b
  | _ => simp only [h1] at b; cases b
/-- two defaults, tuples of the written part -/
def dfT (K : PySem.W.Frag) (p : Str × Option Str) : Addr := match fdAt K p with
  | some fd => (match fd.defaults with
    | .ref T => T
    | _ => 0)
  | none => 0
def dfE (K : PySem.W.Frag) (p : Str × Option Str) : Addr × Addr := match K.lookup (dfT K p) with
  | some ⟨_, _, .seq its _, _⟩ => (match its.toList with
    | [.ref a, .ref b] => (a, b)
    | _ => (0, 0))
  | _ => (0, 0)
def tup2B (K : PySem.W.Frag) (T : Addr) : Bool := match K.lookup T with
  | some ⟨.type c, none, .seq its _, sl⟩ => decide (c = "tuple") && (sl.isEmpty && (match its.toList with
    | [.ref _, .ref _] => true
    | _ => false))
  | _ => false
theorem tup2_ok {K : PySem.W.Frag} {p : Str × Option Str} (h : tup2B K (dfT K p) = true) : ∃ n, K.lookup (dfT K p) = some { cls := .type "tuple", dict := none, data := .seq #[.ref (dfE K p).1, .ref (dfE K p).2] n, slots := #[] } := by
  unfold tup2B at h
  have ee : ∀ {its : Array Value} {n : Nat} {oc : Value} {od : Option Addr} {sl : Array (Option Value)} {a b : Addr}, K.lookup (dfT K p) = some ⟨oc, od, .seq its n, sl⟩ → its.toList = [.ref a, .ref b] → dfE K p = (a, b) := fun {its n oc od sl a b} l e => by
    unfold dfE
    rw [l]
    show (match its.toList with | [.ref a, .ref b] => (a, b) | _ => (0, 0)) = (a, b)
    rw [e]
  cases q : K.lookup (dfT K p) with
  | none =>
    rw [q] at h
    cases h
  | some o =>
    obtain ⟨oc, od, dt, sl⟩ := o
    rw [q] at h
    cases oc with
    | type c =>
      cases od with
      | none =>
        cases dt with
        | seq its n =>
          obtain ⟨h1, h2⟩ := He.ba h
          obtain ⟨h3, h4⟩ := He.ba h2
          have h4 : (match its.toList with | [.ref _, .ref _] => true | _ => false) = true := h4
          obtain ⟨a, b, e⟩ : ∃ a b, its.toList = [.ref a, .ref b] := by
            split at h4
            · rename_i a b e
              exact ⟨a, b, e⟩
            · cases h4
          have ei : its = #[.ref a, .ref b] := by
            rw [← Array.toArray_toList (xs := its), e]
          refine ⟨n, ?_⟩
          rw [ee q e, of_decide_eq_true h1, Array.isEmpty_iff.mp h3, ei]
        | _ => cases h
      | some d => cases dt <;> cases h
    | _ => cases od <;> cases dt <;> cases h
def dfB (K : PySem.W.Frag) (p : Str × Option Str) (q : Str) : Bool := match fdAt K p with
  | some fd => (match fd.defaults with
    | .ref _ => PySem.W.codeIn K fd.code q
    | _ => false) && (PySem.W.keepIn K (.ref (He.fAd K p)) && tup2B K (dfT K p))
  | none => false
theorem df_ok {K : PySem.W.Frag} {d : WD} (h : wOf K d.at_ = d.val) (hc : d.cl = []) (b : dfB K d.at_ d.qual = true) : ∃ (oc : Value) (od : Option Addr) (kV dc pm : Value) (an : Option Addr) (cd ct : Value) (sl : Array (Option Value)) (n : Nat),
    K.lookup (He.fAd K d.at_) = some ⟨oc, od, .func (PySem.W.fnOf d.name d.qual d.params d.body d.scope (.ref (dfT K d.at_)) kV dc pm an cd ct), sl⟩ ∧ PySem.W.codeIn K cd d.qual = true ∧ PySem.W.keepIn K (.ref (He.fAd K d.at_)) = true ∧
    K.lookup (dfT K d.at_) = some { cls := .type "tuple", dict := none, data := .seq #[.ref (dfE K d.at_).1, .ref (dfE K d.at_).2] n, slots := #[] } := by
  obtain ⟨fd, oc, od, sl, q, l, e, c⟩ := wd_ok h
  unfold dfB at b
  rw [q] at b
  obtain ⟨b1, b2⟩ := He.ba b
  obtain ⟨b3, b4⟩ := He.ba b2
  obtain ⟨n, lt⟩ := tup2_ok b4
  have hcl : fd.closure = [] := List.map_eq_nil_iff.mp (c.trans hc)
  cases hd : fd.defaults with
  | ref T =>
    have eT : dfT K d.at_ = T := by
      unfold dfT
      rw [q]
      show (match fd.defaults with | .ref T => T | _ => 0) = T
      rw [hd]
    rw [hd] at b1
    rw [hcl, hd] at e
    rw [e, ← eT] at l
    exact ⟨oc, od, _, _, _, _, _, _, sl, n, l, b1, b3, lt⟩
  | _ => rw [hd] at b1; cases b1
/-! ### constants -/
def strB (K : PySem.W.Frag) (x z : Str) : Bool := match PySem.W.nsIn K mainGlobals x with
  | some (some (.str y _)) => decide (y = z)
  | _ => false
theorem str_ok {K : PySem.W.Frag} {x z : Str} (h : strB K x z = true) : ∃ t, PySem.W.nsIn K mainGlobals x = some (some (.str z t)) := by
  unfold strB at h
  split at h
  · rename_i y t q
    rw [q, of_decide_eq_true h]
    exact ⟨t, rfl⟩
  · cases h
def intB (K : PySem.W.Frag) (x : Str) (i : Int) : Bool := match PySem.W.nsIn K mainGlobals x with
  | some (some (.int j _)) => decide (j = i)
  | _ => false
theorem int_ok {K : PySem.W.Frag} {x : Str} {i : Int} (h : intB K x i = true) : ∃ t, PySem.W.nsIn K mainGlobals x = some (some (.int i t)) := by
  unfold intB at h
  split at h
  · rename_i y t q
    rw [q, of_decide_eq_true h]
    exact ⟨t, rfl⟩
  · cases h
def strsB : List Value → List Str → Bool
  | [], [] => true
  | .str y _ :: r, z :: s => decide (y = z) && strsB r s
  | _, _ => false
theorem strs_ok : ∀ {vs : List Value} {ws : List Str}, strsB vs ws = true → Vals (ws.map V.str) vs
  | [], [], _ => .nil
  | .str y t :: r, z :: s, h => by
    obtain ⟨h1, h2⟩ := He.ba h
    rw [of_decide_eq_true h1]
    exact .cons ⟨t, rfl⟩ (strs_ok h2)
  | [], _ :: _, h => by cases h
  | .str _ _ :: _, [], h => by cases h
  | .none :: _, ws, h => by cases ws <;> cases h
  | .bool _ :: _, ws, h => by cases ws <;> cases h
  | .ref _ :: _, ws, h => by cases ws <;> cases h
  | .int _ _ :: _, ws, h => by cases ws <;> cases h
def tupB (K : PySem.W.Frag) (a : Addr) (ws : List Str) : Bool := match K.lookup a with
  | some ⟨.type c, none, .seq its _, sl⟩ => decide (c = "tuple") && (sl.isEmpty && (decide (its.size ≤ 100) && strsB its.toList ws))
  | _ => false
theorem tup_ok {K : PySem.W.Frag} {a : Addr} {ws : List Str} (h : tupB K a ws = true) : ∃ (its : Array Value) (n : Nat), K.lookup a = some { cls := .type "tuple", dict := none, data := .seq its n, slots := #[] } ∧ its.size ≤ sizeLine ∧ Vals (ws.map V.str) its.toList := by
  unfold tupB at h
  split at h
  · rename_i c its n sl q
    obtain ⟨h1, h2⟩ := He.ba h
    obtain ⟨h3, h4⟩ := He.ba h2
    obtain ⟨h5, h6⟩ := He.ba h4
    refine ⟨its, n, ?_, Nat.le_trans (of_decide_eq_true h5) (by decide), strs_ok h6⟩
    rw [q, of_decide_eq_true h1, Array.isEmpty_iff.mp h3]
  · cases h
/-! ### the Hook: as are the addresses that are asked -/
def obsW (as : List Addr) (ds : List WD) (ex : PySem.W.Frag → Bool) (g : Addr → Option Obj) : Bool × List (Option FdW) := (ex (He.frG g as), ds.map fun d => wOf (He.frG g as) d.at_)
def hookW (as : List Addr) (ds : List WD) (ex : PySem.W.Frag → Bool) : PySem.W.Hook where
  α := Bool × List (Option FdW)
  obs := fun s => obsW as ds ex s.heap.get?
  val := fun _ => (true, ds.map WD.val)
  says := fun _ h => ∃ K : PySem.W.Frag, K.In h ∧ ex K = true ∧ (ds.map fun d => wOf K d.at_) = ds.map WD.val
  of := fun _ _ e => ⟨_, He.frG_in, congrArg (fun z => z.1) e, congrArg (fun z => z.2) e⟩
  keeps := fun _ _ _ ⟨K, hK, c⟩ k => ⟨K, PySem.W.Frag.In.keeps hK k, c⟩
theorem obsW_eq {as : List Addr} {ds : List WD} {ex : PySem.W.Frag → Bool} {g : Addr → Option Obj} {s : Shared} (h : ∀ a, g a = s.heap.get? a) : obsW as ds ex g = (hookW as ds ex).obs s := by
  have e : g = s.heap.get? := funext h
  rw [e]
  rfl
theorem wd_at {K : PySem.W.Frag} {ds : List WD} (c : (ds.map fun d => wOf K d.at_) = ds.map WD.val) (i : Nat) {d : WD} (h : ds[i]? = some d) : wOf K d.at_ = d.val := by
  have e := congrArg (fun l => l[i]?) c
  simp only [List.getElem?_map, h, Option.map_some, Option.some.injEq] at e
  exact e
end Ls
namespace Ls
open PySem PySem.Spec PyProof.Rows L2

/-! ### calls in short -/
/-- a def of the module that keeps a promise: where it stands, how it is bound -/
structure Own (P : Program) (w : World) (K : PySem.W.Frag) (mg : Str → Option Value) (base : Heap) (CX : CXT) (k : Nat) (x : Str) (ps : List Str) (sp : Sp) : Prop where
  ex : ∃ (f : Addr) (fd : FuncData), FnOk P w K mg base CX k f fd ps sp ∧ mg x = some (.ref f) ∧ PySem.W.keepIn K (.ref f) = true ∧ Binds K fd ps []
/-- a method of the class at C -/
structure OwnM (P : Program) (w : World) (K : PySem.W.Frag) (mg : Str → Option Value) (base : Heap) (CX : CXT) (k : Nat) (C : Addr) (m : Str) (ps : List Str) (sp : Sp) : Prop where
  cl : Cls K C
  ex : ∃ (f : Addr) (fd : FuncData), FnOk P w K mg base CX k f fd ps sp ∧ Meth K C m f ∧ Binds K fd ps []
/-- a class that is called -/
structure OwnC (P : Program) (w : World) (K : PySem.W.Frag) (mg : Str → Option Value) (base : Heap) (CX : CXT) (k : Nat) (C : Addr) (x : Str) (ps : List Str) (sp : Sp) : Prop where
  ex : ∃ (f : Addr) (fd : FuncData), FnOk P w K mg base CX k f fd ps sp ∧ mg x = some (.ref C) ∧ Mk K C f ∧ Binds K fd ps []
section
variable {X : Cx} {k j : Nat} {x m : Str} {ps : List Str} {sp : Sp} {p pos apos : Pos} {e o : Expr} {es : List Expr} {t : TA} {ta : TE} {C : Addr}
theorem own_call (O : Own X.prog X.w X.K X.mg X.base CX0 k x ps sp) (hr : Room j X.A) (hkj : k ≤ j) (ha : PA X (e :: es) t)
    (hg : Gl X x := by rfl) (hdb : (x == ("__debug__" : Str)) = false := by decide) (he : starEach (e :: es) X.env = (false, eval e X.env) :: starEach es X.env := by rfl) (hpl : (backTo pos (starEach es X.env)).any (·.1) = false := by rfl) :
    PE X (.Call (.Name x p) (e :: es) [] pos) (tCall sp [] E0 t) := by
  obtain ⟨f, fd, F, g, kp, b⟩ := O.ex
  exact pe_call F (hr.mono hkj) hg g kp b .nil pass0 ha hdb he hpl
theorem own_call0 (O : Own X.prog X.w X.K X.mg X.base CX0 k x ps sp) (hr : Room j X.A) (hkj : k ≤ j) (hg : Gl X x := by rfl) (hdb : (x == ("__debug__" : Str)) = false := by decide) :
    PE X (.Call (.Name x p) [] [] pos) (tCall sp [] E0 tNil) := by
  obtain ⟨f, fd, F, g, kp, b⟩ := O.ex
  exact pe_call0 F (hr.mono hkj) hg g kp b .nil pass0 hdb
theorem own_meth {pl : Sem Bool} (O : OwnM X.prog X.w X.K X.mg X.base CX0 k C m ps sp) (hr : Room j X.A) (hkj : k ≤ j) (ho : PE X o ta) (ha : PA X (e :: es) t)
    (hst : starEach (e :: es) X.env = (false, eval e X.env) :: starEach es X.env := by rfl) (hpl : (backTo pos (starEach es X.env)).any (·.1) = false := by rfl)
    (ht : eval (.Call (.Attribute o m apos) (e :: es) [] pos) X.env = (do
      let ov ← eval o X.env
      standAt apos.atName
      let (f, first) ← holding [ov] (getMethod ov m pl)
      callWith pos f first (backTo pos (starEach (e :: es) X.env)) (backToKw pos (keywordEach [] X.env))) := by rfl) : PE X (.Call (.Attribute o m apos) (e :: es) [] pos) (tMeth C m sp [] E0 ta t) := by
  obtain ⟨f, fd, F, me, b⟩ := O.ex
  exact pe_meth ho O.cl me F (hr.mono hkj) b .nil pass0 ha hst hpl ht
theorem own_meth0 {pl : Sem Bool} (O : OwnM X.prog X.w X.K X.mg X.base CX0 k C m ps sp) (hr : Room j X.A) (hkj : k ≤ j) (ho : PE X o ta)
    (ht : eval (.Call (.Attribute o m apos) [] [] pos) X.env = (do
      let ov ← eval o X.env
      standAt apos.atName
      let (f, first) ← holding [ov] (getMethod ov m pl)
      callWith pos f first (backTo pos (starEach [] X.env)) (backToKw pos (keywordEach [] X.env))) := by rfl) : PE X (.Call (.Attribute o m apos) [] [] pos) (tMeth C m sp [] E0 ta tNil) := by
  obtain ⟨f, fd, F, me, b⟩ := O.ex
  exact pe_meth0 ho O.cl me F (hr.mono hkj) b .nil pass0 ht
theorem own_make (O : OwnC X.prog X.w X.K X.mg X.base CX0 k C x ps sp) (hr : Room j X.A) (hkj : k + 1 ≤ j) (ha : PA X (e :: es) t)
    (hg : Gl X x := by rfl) (hdb : (x == ("__debug__" : Str)) = false := by decide) (he : starEach (e :: es) X.env = (false, eval e X.env) :: starEach es X.env := by rfl) (hpl : (backTo pos (starEach es X.env)).any (·.1) = false := by rfl) :
    PE X (.Call (.Name x p) (e :: es) [] pos) (tMake C sp [] E0 t) := by
  obtain ⟨f, fd, F, g, M, b⟩ := O.ex
  exact pe_make M F (hr.mono hkj) hg g b .nil pass0 ha hdb he hpl
theorem glob_str {z : Str} {tk : Tok} (hm : X.mg x = some (.str z tk)) (hg : Gl X x := by rfl) (hd : (x == ("__debug__" : Str)) = false := by decide) : PE X (.Name x pos) (tC (.str z)) := pe_glob hg hm ⟨_, rfl⟩ hd
theorem glob_int {i : Int} {tk : Tok} (hm : X.mg x = some (.int i tk)) (hg : Gl X x := by rfl) (hd : (x == ("__debug__" : Str)) = false := by decide) : PE X (.Name x pos) (tC (.int i)) := pe_glob hg hm ⟨_, rfl⟩ hd
theorem glob_ref {a : Addr} (hm : X.mg x = some (.ref a)) (hg : Gl X x := by rfl) (hd : (x == ("__debug__" : Str)) = false := by decide) : PE X (.Name x pos) (tC (.ref a)) := pe_glob hg hm rfl hd
/-- a statement that is never reached -/
theorem ps_dead {st : Stmt} : PS X st (fun _ _ _ => False) := ⟨fun _ _ _ _ _ _ h => h.elim⟩
theorem pss_dead {st : List Stmt} : PSs X st (fun _ _ _ => False) := ⟨fun _ _ _ _ _ _ h => h.elim⟩
end

/-! ### a def of the text, whatever its defaults -/
structure FunE (K : PySem.W.Frag) (x qual : Str) (st : Stmt) (f : Addr) (fd : FuncData) : Prop where
  ex : ∃ (oc : Value) (od : Option Addr) (dV kV doc pm : Value) (an : Option Addr) (cdv ct : Value) (osl : Array (Option Value)),
    fd = PySem.W.fnOf x qual (defArgs st) (defBody st) (defScope st) dV kV doc pm an cdv ct ∧ K.lookup f = some ⟨oc, od, .func fd, osl⟩ ∧ PySem.W.codeIn K cdv qual = true
theorem FunE.ok {P : Program} {w : World} {K : PySem.W.Frag} {mg : Str → Option Value} {base : Heap} {x qual : Str} {st : Stmt} {f : Addr} {fd : FuncData} {N ps : List Str} {k : Nat} {sp : Sp} (F : FunE K x qual st f fd) (S : FnScope N ps (defScope st))
    (len : ∀ vs H Q E, sp vs H Q E → vs.length = ps.length)
    (body : ∀ (cdv : Value) (A : Around) (outer : List Env) (s : Shared) (H : Hp) (vs : List V) (Q : VK) (E : XK), Room k (A.deeper (envOfC qual (defScope st) s.heap.objs.size f cdv)) → sp vs H Q E →
      ∃ t, PSs (cxOf CX0 P w K mg base N qual (defScope st) f cdv A outer s H E).nox (defBody st) t ∧ t { nx := fun _ H' => Q .non H', rt := Q } (start N vs) H) : FnOk P w K mg base CX0 (k + 1) f fd ps sp := by
  obtain ⟨oc, od, dV, kV, doc, pm, an, cdv, ct, osl, rfl, lk, hcd⟩ := F.ex
  refine fn_of lk hcd S len fun A outer s H vs Q E hr hsp => ?_
  obtain ⟨t, ht, hq⟩ := body cdv A outer s H vs Q E hr hsp
  exact ⟨t, ht.nox, hq⟩
/-- two defaults that are not asked for -/
theorem FunE.mk2 {K : PySem.W.Frag} {x qual : Str} {st : Stmt} {f T : Addr} {oc : Value} {od an : Option Addr} {osl : Array (Option Value)} {kV doc pm cdv ct : Value}
    (l : K.lookup f = some ⟨oc, od, .func (PySem.W.fnOf x qual (defArgs st) (defBody st) (defScope st) (.ref T) kV doc pm an cdv ct), osl⟩) (c : PySem.W.codeIn K cdv qual = true) :
    FunE K x qual st f (PySem.W.fnOf x qual (defArgs st) (defBody st) (defScope st) (.ref T) kV doc pm an cdv ct) := ⟨oc, od, .ref T, kV, doc, pm, an, cdv, ct, osl, rfl, l, c⟩

/-! ### tuples of the written part -/
def KTup (K : PySem.W.Frag) (a : Addr) (xs : List V) : Prop := ∃ (its : Array Value) (n : Nat), K.lookup a = some { cls := .type "tuple", dict := none, data := .seq its n, slots := #[] } ∧ its.size ≤ sizeLine ∧ Vals xs its.toList
theorem KTup.sq {K : PySem.W.Frag} {a : Addr} {xs : List V} (h : KTup K a xs) (H : Hp) : SqT K H a xs := by
  obtain ⟨its, n, lk, hz, r⟩ := h
  exact .inr ⟨_, its, n, lk, rfl, rfl, hz, r⟩
def rExtK (K : PySem.W.Frag) : V → List V → Hp → VK → Prop := fun x vs H Q => ∃ l b xs zs, x = .ref l ∧ vs = [.ref b] ∧ H l = some (.lst xs) ∧ KTup K b zs ∧ xs.length + zs.length ≤ sizeLine ∧ Q .non (upd H l (.lst (xs ++ zs)))
theorem mt_extK {X : Cx} (K : PySem.W.Frag) (hK : X.K = K := by rfl) : MtM X "list.extend" (rExtK K) := by
  subst hK
  intro pins s σ H x vs v us Q I rx rv h
  obtain ⟨l, b, xs, zs, rfl, rfl, hH, ⟨its2, n2, lk, z2, r2⟩, hz, q⟩ := h
  cases rx
  obtain ⟨u, rfl, ru⟩ := rv.one
  cases ru
  obtain ⟨z, its, n, r, hl, e⟩ := I.lstM hH
  have e2 := I.kIn _ _ lk
  obtain ⟨m2⟩ := its2
  have l2 : zs.length = m2.length := r2.length
  have hs : its.toArray.size + (Array.mk m2).size ≤ sizeLine := by
    rw [List.size_toArray]
    show its.length + m2.length ≤ sizeLine
    omega
  refine call_meets F.slot_list_extend ⟨_, e, rfl⟩ F.entry_list_extend (F.args_list_extend_2 _ _) (AutoSeq1.list_extend_list_tuple_0 l its.toArray n b (Array.mk m2) n2 (by rw [notLongL hs, Bool.and_false]; exact Bool.false_ne_true) (by omega) (by omega)) ⟨e, e2, ?_⟩
  refine ⟨.non, _, I.lset (its' := its ++ m2) (ys := xs ++ zs) hH e (by simp) (r.append r2) ?len, rfl, q⟩
  rw [List.length_append]
  exact hz

/-! ### rules that name the written part -/
section
variable {X : Cx}
theorem ixL (K : PySem.W.Frag) (h : X.K = K := by rfl) : IxR X (rIxL K) := by subst h; exact ix_list
theorem ixT (K : PySem.W.Frag) (h : X.K = K := by rfl) : IxR X (rIxT K) := by subst h; exact ix_tup
theorem in_seq (K : PySem.W.Frag) (h : X.K = K := by rfl) : OpR X (compareOp .In) (rIn K false) := by subst h; exact op_in_seq
theorem notIn_seq (K : PySem.W.Frag) (h : X.K = K := by rfl) : OpR X (compareOp .NotIn) (rIn K true) := by subst h; exact op_notIn_seq
theorem eqD (K : PySem.W.Frag) {k : Nat} (hr : Room k X.A) (h : X.K = K := by rfl) : OpR X (compareOp .Eq) (rEqD K) := by subst h; exact op_eqD hr.units
theorem neD (K : PySem.W.Frag) {k : Nat} (hr : Room k X.A) (h : X.K = K := by rfl) : OpR X (compareOp .NotEq) (rNeD K) := by subst h; exact op_neD hr.units
theorem list_of (K : PySem.W.Frag) (h : X.K = K := by rfl) : CallR X (.type "list") (fun xs H Q => ∃ p ys, xs = [.ref p] ∧ (SqL K H p ys ∨ SqT K H p ys) ∧ ∀ l, H l = none → Q (.ref l) (upd H l (.lst ys))) := by subst h; exact call_list_of
theorem tuple_of (K : PySem.W.Frag) (h : X.K = K := by rfl) : CallR X (.type "tuple") (fun xs H Q => ∃ p ys, xs = [.ref p] ∧ ((SqL K H p ys ∧ ∀ l, H l = none → Q (.ref l) (upd H l (.tup ys))) ∨ (SqT K H p ys ∧ Q (.ref p) H))) := by subst h; exact call_tuple_of
theorem len_seq (K : PySem.W.Frag) (h : X.K = K := by rfl) : CallR X (.builtin "len") (fun xs H Q => ∃ p ys, xs = [.ref p] ∧ (SqL K H p ys ∨ SqT K H p ys) ∧ Q (.int ys.length) H) := by subst h; exact call_len_seq
end

/-! ### lists of ints as data -/
theorem dp_ints {K : PySem.W.Frag} {H : Hp} : ∀ ns : List Int, DpAll K H (ns.map V.int) (ns.map PyData.int)
  | [] => .nil
  | n :: r => .cons (.int n) (dp_ints r)
theorem lay_ints : ∀ ns : List Int, PyData.canLayAll0 (ns.map PyData.int) = true
  | [] => by simp [PyData.canLayAll0]
  | n :: r => by simp [PyData.canLayAll0, PyData.canLay0, lay_ints r]
theorem depth_ints : ∀ ns : List Int, PyData.depthAll (ns.map PyData.int) = 0
  | [] => by simp [PyData.depthAll]
  | n :: r => by simp [PyData.depthAll, PyData.depth, depth_ints r]
theorem shaped_ints (ns : List Int) : SeqAt.shaped (.list (ns.map PyData.int)) = true := by
  simp [SeqAt.shaped, PyData.canLay0, PyData.depth, lay_ints, depth_ints]
theorem eqv_nil (ns : List Int) : PyData.eqv (.list (ns.map PyData.int)) (.list []) = decide (ns = []) := by
  cases ns with
  | nil => simp [PyData.eqv, PyData.eqvAll]
  | cons n r => simp [PyData.eqv, PyData.eqvAll]
theorem lt_pow {m c : Int} (h0 : 0 ≤ m) (h1 : m < 2147483647) (c0 : 0 ≤ c) (c1 : c ≤ 10000001) : (m + 104729 * c + 17).natAbs < 2 ^ 64 := by omega
theorem emod_lo (a : Int) {n : Int} (h : 0 < n) : 0 ≤ a % n := Int.emod_nonneg _ (by omega)
theorem emod_hi (a : Int) {n : Int} (h : 0 < n) : a % n < n := Int.emod_lt_of_pos _ h
theorem sq_le {c : Int} (c0 : 0 ≤ c) (c1 : c ≤ 10000001) : 0 ≤ 40503 * c * c ∧ 40503 * c * c ≤ 4050300810060040503 := by
  have h1 : c * c ≤ 10000001 * 10000001 := Int.mul_le_mul c1 c1 c0 (by omega)
  have h2 : 0 ≤ c * c := Int.mul_nonneg c0 c0
  have e : 40503 * c * c = 40503 * (c * c) := Int.mul_assoc _ _ _
  rw [e]
  omega
theorem log_lt {k : Int} (h0 : 0 < k) (h : k ≤ 10 ^ 40) : k.natAbs.log2 < 9000 := by
  refine (Nat.log2_lt (by omega)).mpr (Nat.lt_of_le_of_lt (m := 10 ^ 40) (by omega) ?_)
  exact Nat.lt_of_lt_of_le (show 10 ^ 40 < 2 ^ 140 by decide +kernel) (Nat.pow_le_pow_right (by decide) (by decide))

/-! ### heaps -/
/-- all else is as it was -/
def Old (S L : Addr) (H H' : Hp) : Prop := ∀ b o, b ≠ S → b ≠ L → H b = some o → H' b = some o
theorem Old.refl {S L : Addr} (H : Hp) : Old S L H H := fun _ _ _ _ e => e
theorem Old.trans {S L : Addr} {H H1 H2 : Hp} (a : Old S L H H1) (b : Old S L H1 H2) : Old S L H H2 := fun c o h1 h2 e => b c o h1 h2 (a c o h1 h2 e)
theorem Old.same {S L : Addr} {H H1 : Hp} (a : Same H H1) : Old S L H H1 := fun c o _ _ e => a c o e
theorem same_new {H : Hp} {p : Addr} {o : HO} (h : H p = none) : Same H (upd H p o) := fun b x e => by
  rw [upd_ne (ne_of_none e h)]
  exact e
theorem Old.new {S L : Addr} {H : Hp} {p : Addr} {o : HO} (h : H p = none) : Old S L H (upd H p o) := .same (same_new h)
theorem Old.set {S L : Addr} {H H1 : Hp} {p : Addr} {o : HO} (h : Old S L H H1) (hp : H p = none) : Old S L H (upd H1 p o) := fun b u h1 h2 e => by
  rw [upd_ne (ne_of_none e hp)]
  exact h b u h1 h2 e
theorem Old.none {S L : Addr} {H H1 : Hp} {p : Addr} (h : Old S L H H1) (hp : H1 p = none) (n : p ≠ S ∧ p ≠ L) : H p = none := by
  cases e : H p with
  | none => rfl
  | some o => rw [h _ _ n.1 n.2 e] at hp; cases hp
/-- the law's stream at S over the list at L, of which at most n draws were made -/
def Stm (H : Hp) (S L : Addr) (n : Nat) : Prop := ∃ (ns : List Int) (d c m : Int), H S = some (.lst [.ref L, .int d, .int c, .int m]) ∧ H L = some (.lst (ns.map V.int)) ∧ 0 ≤ d ∧ 0 ≤ c ∧ c ≤ (n : Int) ∧ 0 ≤ m ∧ m < 2147483647
theorem Stm.ne {H : Hp} {S L : Addr} {n : Nat} (h : Stm H S L n) : S ≠ L := by
  obtain ⟨ns, d, c, m, h1, h2, _⟩ := h
  refine ne_of h1 h2 fun e => ?_
  have e' := HO.lst.inj e
  cases ns with
  | nil => cases e'
  | cons a r => rw [List.map_cons] at e'; injection e' with e1; cases e1
theorem Stm.mono {H : Hp} {S L : Addr} {n m : Nat} (h : Stm H S L n) (hm : n ≤ m) : Stm H S L m := by
  obtain ⟨ns, d, c, k, h1, h2, h3, h4, h5, h6⟩ := h
  exact ⟨ns, d, c, k, h1, h2, h3, h4, by omega, h6⟩
theorem Stm.keep {H H' : Hp} {S L : Addr} {n : Nat} (h : Stm H S L n) (s : Same H H') : Stm H' S L n := by
  obtain ⟨ns, d, c, k, h1, h2, h3⟩ := h
  exact ⟨ns, d, c, k, s _ _ h1, s _ _ h2, h3⟩
theorem Stm.noneS {H : Hp} {S L p : Addr} {n : Nat} (h : Stm H S L n) (hp : H p = none) : p ≠ S ∧ p ≠ L := by
  obtain ⟨ns, d, c, k, h1, h2, h3⟩ := h
  exact ⟨Ne.symm (ne_of_none h1 hp), Ne.symm (ne_of_none h2 hp)⟩
theorem Stm.upd {H : Hp} {S L p : Addr} {n : Nat} {o : HO} (h : Stm H S L n) (h1 : p ≠ S) (h2 : p ≠ L) : Stm (upd H p o) S L n := by
  obtain ⟨ns, d, c, k, e1, e2, h3⟩ := h
  exact ⟨ns, d, c, k, by rw [upd_ne (Ne.symm h1)]; exact e1, by rw [upd_ne (Ne.symm h2)]; exact e2, h3⟩
/-! ### two tests whose answers are known -/
theorem or2 {t u : TT} {σ : L2.St} {H : Hp} {Q : Bool → Hp → Prop} (c1 c2 : Bool) (h1 : ∀ Q' : Bool → Hp → Prop, Q' c1 H → t σ H Q') (h2 : c1 = false → ∀ Q' : Bool → Hp → Prop, Q' c2 H → u σ H Q') (hq : Q (c1 || c2) H) : tOr t u σ H Q := by
  refine h1 _ ?_
  cases c1 with
  | true => exact hq
  | false => exact h2 rfl _ hq
theorem and2 {t u : TT} {σ : L2.St} {H : Hp} {Q : Bool → Hp → Prop} (c1 c2 : Bool) (h1 : ∀ Q' : Bool → Hp → Prop, Q' c1 H → t σ H Q') (h2 : c1 = true → ∀ Q' : Bool → Hp → Prop, Q' c2 H → u σ H Q') (hq : Q (c1 && c2) H) : tAnd t u σ H Q := by
  refine h1 _ ?_
  cases c1 with
  | true => exact h2 rfl _ hq
  | false => exact hq
/-- what is known of the heap from here on -/
theorem at_heap {P : Hp → Prop} {H0 : Hp} (φ : Hp → Prop) (h1 : φ H0) (h2 : ∀ H1, φ H1 → P H1) : P H0 := h2 H0 h1
/-! ### comprehensions that change nothing else -/
section
variable {J : It} {n : Nat} {G : Hp → Prop} {Y : Nat → Hp → V → Hp → Prop}
/-- the made list behind i turns -/
def made (xs : List V) (f : V → Option V) (i : Nat) : List V := (xs.take i).filterMap f
theorem made_yes {xs : List V} {f : V → Option V} {i : Nat} {x y : V} (hx : xs[i]? = some x) (hf : f x = some y) : made xs f (i + 1) = made xs f i ++ [y] := by
  unfold made
  rw [List.take_add_one, hx, List.filterMap_append]
  simp [hf]
theorem made_no {xs : List V} {f : V → Option V} {i : Nat} {x : V} (hx : xs[i]? = some x) (hf : f x = none) : made xs f (i + 1) = made xs f i := by
  unfold made
  rw [List.take_add_one, hx, List.filterMap_append]
  simp [hf]
theorem made_len (xs : List V) (f : V → Option V) (i : Nat) : (made xs f i).length ≤ i := by
  unfold made
  exact Nat.le_trans (List.length_filterMap_le _ _) (by rw [List.length_take]; exact Nat.min_le_left _ _)
/-- a comprehension whose turns leave the heap as it is: what each item gives is told by f -/
theorem lc_pure (w : Walk J n G Y) (xs : List V) (f : V → Option V) (hn : xs.length = n) (hY : ∀ i H x H', i < n → Y i H x H' → H' = H ∧ xs[i]? = some x) {g : TG} {tt : TT} {te : TE} {vs : List Nat} {σ : L2.St} {H1 : Hp} {D : Addr} {Qd : Hp → Prop}
    (hz : n < sizeLine) (hG : ∀ acc, G (upd H1 D (.lst acc)))
    (hs : ∀ i x, i < n → xs[i]? = some x → g x (wipe σ vs) (upd H1 D (.lst (made xs f i))) fun σ2 H2 => wipe σ2 vs = wipe σ vs ∧ tt σ2 H2 fun b H3 =>
      if b = true then te σ2 H3 fun y H4 => ∃ acc, H4 D = some (.lst acc) ∧ acc.length < sizeLine ∧ upd H4 D (.lst (acc ++ [y])) = upd H1 D (.lst (made xs f (i + 1))) else H3 = upd H1 D (.lst (made xs f (i + 1))))
    (hd : Qd (upd H1 D (.lst (xs.filterMap f)))) :
    ∃ W : Nat → Nat → Hp → Prop, (∃ m, W 0 m (upd H1 D (.lst []))) ∧ ∀ i m H, W i m H →
      (J.stop i H ∧ Qd H) ∨ (J.go i H ∧ ∃ Nx : Hp → Prop, (∀ H', Nx H' → ∃ m', m' < m ∧ W (i + 1) m' H') ∧ ∀ x H', J.yld i H x H' → g x (wipe σ vs) H' fun σ2 H2 => wipe σ2 vs = wipe σ vs ∧ tt σ2 H2 fun b H3 =>
        if b = true then te σ2 H3 fun y H4 => ∃ acc, H4 D = some (.lst acc) ∧ acc.length < sizeLine ∧ Nx (upd H4 D (.lst (acc ++ [y]))) else Nx H3) := by
  refine lc_it w (fun i H => H = upd H1 D (.lst (made xs f i))) rfl (fun i H _ e => by rw [e]; exact hG _) (fun i x H H' hi e y => ?_) (fun H e => ?_)
  · obtain ⟨e2, hx⟩ := hY i H x H' hi y
    rw [e2, e]
    exact hs i x hi hx
  · have : made xs f n = xs.filterMap f := by unfold made; rw [← hn, List.take_length]
    rw [e, this]
    exact hd
theorem lc_yes {xs : List V} {f : V → Option V} {i : Nat} {x y : V} {H1 : Hp} {D : Addr} {n : Nat} (hx : xs[i]? = some x) (hi : i < n) (hz : n < sizeLine) (hf : f x = some y) :
    ∃ acc, (upd H1 D (.lst (made xs f i))) D = some (.lst acc) ∧ acc.length < sizeLine ∧ upd (upd H1 D (.lst (made xs f i))) D (.lst (acc ++ [y])) = upd H1 D (.lst (made xs f (i + 1))) :=
  ⟨_, upd_same, Nat.lt_of_le_of_lt (made_len _ _ _) (Nat.lt_trans hi hz), by rw [upd_upd, made_yes hx hf]⟩
theorem lc_no {xs : List V} {f : V → Option V} {i : Nat} {x : V} {H1 : Hp} {D : Addr} (hx : xs[i]? = some x) (hf : f x = none) : upd H1 D (.lst (made xs f i)) = upd H1 D (.lst (made xs f (i + 1))) := by rw [made_no hx hf]
/-- the signs of a text as texts -/
def signs (z : Str) : List V := z.cps.toList.map fun c => .str ⟨#[c]⟩
theorem signs_len (z : Str) : (signs z).length = z.cps.size := by unfold signs; rw [List.length_map, Array.length_toList]
theorem yld_str {z : Str} : ∀ (i : Nat) (H : Hp) (x : V) (H' : Hp), i < z.cps.size → (H' = H ∧ ∃ c, z.cps[i]? = some c ∧ x = .str ⟨#[c]⟩) → H' = H ∧ (signs z)[i]? = some x := fun i H x H' _ ⟨e, c, hc, ex⟩ =>
  ⟨e, by unfold signs; rw [List.getElem?_map, Array.getElem?_toList, hc, ex]; rfl⟩
end
def spDraw : Sp := fun vs H Q _ => ∃ (S L : Addr) (n : Nat) (k : Int), vs = [.ref S, .int k] ∧ Stm H S L n ∧ n ≤ 10000000 ∧ 0 < k ∧ k ≤ 10 ^ 40 ∧
  ∀ (H' : Hp) (r : Int), 0 ≤ r → r < k → Stm H' S L (n + 1) → Old S L H H' → Q (.int r) H'
end Ls
namespace Ls
open PySem PySem.Spec PyProof.Rows L2
/-! ### defs that run where no repr is under way -/
/-- the promise of a def, kept wherever no guard of the interpreter's own stands -/
structure FnG (P : Program) (w : World) (K : PySem.W.Frag) (mg : Str → Option Value) (base : Heap) (CX : CXT) (k : Nat) (f : Addr) (fd : FuncData) (ps : List Str) (sp : Sp) : Prop where
  len : ∀ vs H Q E, sp vs H Q E → vs.length = ps.length
  run : ∀ (A : Around) (outer : List Env) (s : Shared) (H : Hp) (args : Args) (us : List Value) (vs : List V) (Q : VK) (E : XK), A.guards = some [] → Room k A → Env0 P w K mg base A outer s H →
    BindsTo s fd args (ps.zip us) → Vals vs us → sp vs H Q E → codeAny (model P w) A (.call (.ref f) args) (CR CX outer P w H s Q E) s
/-- where it stands and how it is bound -/
structure OwnG (P : Program) (w : World) (K : PySem.W.Frag) (mg : Str → Option Value) (base : Heap) (CX : CXT) (k : Nat) (x : Str) (ps : List Str) (sp : Sp) : Prop where
  ex : ∃ (f : Addr) (fd : FuncData), FnG P w K mg base CX k f fd ps sp ∧ mg x = some (.ref f) ∧ PySem.W.keepIn K (.ref f) = true ∧ Binds K fd ps []
section
variable {X : Cx} {k j : Nat} {x : Str} {ps : List Str} {sp : Sp} {p pos : Pos} {e : Expr} {es : List Expr} {t : TA}
theorem own_callG (O : OwnG X.prog X.w X.K X.mg X.base CX0 k x ps sp) (hgd : X.A.guards = some []) (hr : Room j X.A) (hkj : k ≤ j) (ha : PA X (e :: es) t)
    (hg : Gl X x := by rfl) (hdb : (x == ("__debug__" : Str)) = false := by decide) (he : starEach (e :: es) X.env = (false, eval e X.env) :: starEach es X.env := by rfl) (hpl : (backTo pos (starEach es X.env)).any (·.1) = false := by rfl) :
    PE X (.Call (.Name x p) (e :: es) [] pos) (tCall sp [] E0 t) := by
  obtain ⟨f, fd, F, g, kp, b⟩ := O.ex
  refine ⟨fun pins s σ H Q I h => wpAny_Call_Name_kw (ld_glob I hg g (PySem.W.callWith_K (h₀ := X.base) I.ok.mod.kin kp ?_ he hpl) hdb)⟩
  refine thn (ha.run pos pins s σ H _ I h) fun us s1 hh => ?_
  obtain ⟨vs, H1, I1, r, q⟩ := hh
  refine ⟨I1.kIn, wpAny_call ?_⟩
  have q0 : sp vs H1 Q E0 := by simpa using q
  have b1 := b s1 us I1.kIn (by rw [List.append_nil, ← r.length]; exact F.len _ _ _ _ q0)
  rw [List.append_nil] at b1
  refine codeAny_mono (F.run X.A X.stack s1 H1 ⟨us, []⟩ us vs Q E0 hgd (hr.mono hkj) I1.env0 b1 r q0) fun res s2 hq => ?_
  match res, hq with
  | .ok (.ret u), hq => exact I1.after hq
  | .error z, hq => exact False.elim hq
end
section
variable {P : Program} {w : World} {K : PySem.W.Frag} {mg : Str → Option Value} {base : Heap}
/-- a def by its body, where no guard stands -/
theorem fun_okG {x qual : Str} {st : Stmt} {f : Addr} {fd : FuncData} {N ps : List Str} {k : Nat} {sp : Sp} (F : Fun K x qual st f fd) (S : FnScope N ps (defScope st)) (len : ∀ vs H Q E, sp vs H Q E → vs.length = ps.length)
    (body : ∀ (cdv : Value) (A : Around) (outer : List Env) (s : Shared) (H : Hp) (vs : List V) (Q : VK) (E : XK), A.guards = some [] → Room k (A.deeper (envOfC qual (defScope st) s.heap.objs.size f cdv)) → sp vs H Q E →
      ∃ t, PSs (cxOf CX0 P w K mg base N qual (defScope st) f cdv A outer s H E).nox (defBody st) t ∧ t { nx := fun _ H' => Q .non H', rt := Q } (start N vs) H) : FnG P w K mg base CX0 (k + 1) f fd ps sp := by
  obtain ⟨oc, od, kV, doc, pm, an, cdv, ct, osl, rfl, lk, hcd⟩ := F.ex
  refine ⟨len, fun A outer s H args us vs Q E hgd hr e0 hb r hsp => ?_⟩
  have kin : K.In s.heap := e0.mod.kin.keeps fun b o e => (e0.bs b o e).1
  have kinds : ∀ y ∈ ps.zip us, (defScope st).names.lookup y.1 = some .local ∨ ((defScope st).names.lookup y.1 = some .cell ∧ ((cellsFrom (s.heap.objs.size + 1) (defScope st).names []).lookup y.1).isSome = true) := by
    rintro ⟨n, v⟩ hy
    exact (S.par n (List.of_mem_zip hy).1).imp id fun q => ⟨q, PySem.W.cellsFrom_some _ _ _ (.inl q)⟩
  refine codeAny_call_function hr.depth (kin _ _ lk) rfl S.co S.gen rfl (PySem.W.codeRec_of kin hcd) (hb _ _ _ _ (wpAny_newFunctionEnv_cells S.kind kinds fun env he s1 x1 => ?_))
  subst he
  refine ⟨(e0.mod.nolimit.keeps fun b o e => (e0.bs b o e).1).keeps x1.toInCall.keep, codeAny_func ?_⟩
  obtain ⟨t, ht, hq⟩ := body cdv A outer s H vs Q E hgd (hr.deeper _) hsp
  have I := inv_start (P := P) (w := w) (mg := mg) (base := base) (CX := CX0) (E := E) S hr.hd e0 (len _ _ _ _ hsp) r x1
  refine wpAny_mono (ht.nox.run [] s1 (start N vs) H _ I hq) (fun fl s' hs => ?_) fun _ _ hs => hs
  match fl, hs with
  | .ret u, ⟨v, σ', H', J, rv, q⟩ => exact ⟨v, H', J.os, J.bare, J.base, J.hok, rv, q⟩
  | .next, ⟨σ', H', J, q⟩ => exact ⟨V.non, H', J.os, J.bare, J.base, J.hok, rfl, q⟩
  | .brk, ⟨_, _, _, q⟩ => exact False.elim q
  | .cont, ⟨_, _, _, q⟩ => exact False.elim q
theorem FnOk.toG {CX : CXT} {k : Nat} {f : Addr} {fd : FuncData} {ps : List Str} {sp : Sp} (F : FnOk P w K mg base CX k f fd ps sp) : FnG P w K mg base CX k f fd ps sp :=
  ⟨F.len, fun A outer s H args us vs Q E _ hr e0 hb r h => F.run A outer s H args us vs Q E hr e0 hb r h⟩
end
/-! ### repr of data -/
section
variable {X : Cx}
/-- repr(x): the text of x's data -/
def rRepr (K : PySem.W.Frag) : List V → Hp → VK → Prop := fun xs H Q => ∃ (a : Addr) (d : PyData), xs = [.ref a] ∧ Dp K H (.ref a) d ∧ d.showable = true ∧ d.hasDict = false ∧ d.depth ≤ 60 ∧ d.shown.length ≤ sizeLine ∧ Q (.str d.shown) H
theorem call_repr_data {k : Nat} (hgd : X.A.guards = some []) (hr : Room k X.A) : CallR X (.builtin "repr") (rRepr X.K) := by
  intro pins s σ H xs us Q I r h
  obtain ⟨a, d, rfl, hd, hs, hn, hdp, hz, q⟩ := h
  obtain ⟨u, rfl, ru⟩ := r.one
  obtain ⟨as, rd⟩ := Dp.reads I d _ u hd ru
  cases ru
  refine repr_of_reads' rd hs (fun z => by rw [hn] at z; cases z) hgd (by have := hr.un; omega) (fun b o e => e) (fun h' v tk keep => ?_) hz
  exact ⟨.str d.shown, H, I.kept (t' := tk) keep, ⟨_, rfl⟩, q⟩
end
/-! ### the law's own call -/
/-- the script's list, known to the object -/
def scriptO (vs : List Value) : Obj := { cls := .type "list", data := .seq vs.toArray }
/-- what is tracked at the law's entry: the script, if it is no object of the module -/
def H0 (K : PySem.W.Frag) (a : Addr) (vs : List Value) (ns : List Int) : Hp := fun b => if b = a ∧ K.lookup a = none then some (.frz (scriptO vs) (.lst (ns.map V.int))) else none
theorem H0_some {K : PySem.W.Frag} {a b : Addr} {vs : List Value} {ns : List Int} {u : HO} (h : H0 K a vs ns b = some u) : b = a ∧ K.lookup a = none ∧ u = .frz (scriptO vs) (.lst (ns.map V.int)) := by
  unfold H0 at h
  by_cases c : b = a ∧ K.lookup a = none
  · rw [if_pos c] at h
    exact ⟨c.1, c.2, (Option.some.inj h).symm⟩
  · rw [if_neg c] at h
    cases h
theorem ints_vals : ∀ {ns : List Int} {vs : List Value}, IntsAre vs ns → Vals (ns.map V.int) vs
  | _, _, .nil => .nil
  | _, _, .cons _ _ r => .cons ⟨_, rfl⟩ (ints_vals r)
theorem law_callG {P : Program} {w : World} {K : PySem.W.Frag} {mg mb : Str → Option Value} {k : Nat} {fa a : Addr} {fd : FuncData} {x : Str} {sp : Sp} {s₁ : Shared} {vs : List Value} {ns : List Int}
    (kin : K.In s₁.heap) (hm : s₁.heap.Ns mainGlobals mg) (hbl : s₁.heap.Ns builtinsNs mb) (hbt : ∀ y : Str, y ≠ "__name__" → mb y = bootBuiltins y) (lim : s₁.heap.NoLimit) (gens : s₁.gens = #[])
    (obj : s₁.heap.get? a = some (scriptO vs)) (hints : IntsAre vs ns) (size : ns.length ≤ sizeLine) (room : Room k callerA)
    (F : ∀ base : Heap, K.In base → base.Ns mainGlobals mg → FnG P w K mg base CX0 k fa fd [x] sp) (bind : ∀ (s : Shared) (u : Value), BindsTo s fd ⟨[u], []⟩ [(x, u)])
    (want : ∀ H : Hp, SqL K H a (ns.map V.int) → sp [.ref a] H (fun v _ => v = .bl true) E0) :
    codeAny (model P w) callerA (.call (.ref fa) ⟨[.ref a], []⟩) (fun r s' => r = .ok (.ret (.bool true)) ∧ OldK s₁.heap s'.heap ∧ s'.os = s₁.os ∧ AllBare s'.gens) s₁ := by
  have rv := ints_vals hints
  have ok : HOk P w (H0 K a vs ns) s₁.heap := fun b u h => by
    obtain ⟨rfl, _, rfl⟩ := H0_some h
    exact ⟨obj, by rw [List.length_map]; exact size, vs, _, rv, obj⟩
  have sq : SqL K (H0 K a vs ns) a (ns.map V.int) := by
    cases lk : K.lookup a with
    | none => exact .inl (.inr ⟨scriptO vs, if_pos ⟨rfl, lk⟩⟩)
    | some o =>
      have e := kin a o lk
      rw [obj] at e
      cases e
      exact .inr ⟨_, vs.toArray, _, lk, rfl, rfl, rfl, by rw [List.size_toArray, hints.length]; exact size, by simpa using rv⟩
  -- what is not tracked stays in sight
  have seen : ∀ {b : Addr} {o : Obj}, s₁.heap.get? b = some o → (b = a → K.lookup a ≠ none) → (hidT s₁.heap (H0 K a vs ns)).get? b = some o := fun {b o} e n => hidT_get e (by
    cases q : H0 K a vs ns b with
    | none => rfl
    | some u =>
      obtain ⟨h1, h2, _⟩ := H0_some q
      exact absurd h2 (n h1))
  have dicts : ∀ {b : Addr} {m : Str → Option Value}, s₁.heap.Ns b m → (hidT s₁.heap (H0 K a vs ns)).Ns b m := fun {b m} ⟨o, es, ep, e, d, r⟩ => ⟨o, es, ep, seen e (fun z => by
    subst z
    rw [obj] at e
    cases e
    cases (show Data.seq vs.toArray _ = Data.dict es ep from d)), d, r⟩
  have kinB : K.In (hidT s₁.heap (H0 K a vs ns)) := fun b o e => seen (kin b o e) (fun z => by subst z; rw [e]; simp)
  have md : Mod K mg (hidT s₁.heap (H0 K a vs ns)) := ⟨kinB, dicts hm, ⟨mb, dicts hbl, hbt⟩, let ⟨mc, h1, h2⟩ := lim; ⟨mc, dicts h1, h2⟩⟩
  have e0 : Env0 P w K mg (hidT s₁.heap (H0 K a vs ns)) callerA [] s₁ (H0 K a vs ns) :=
    { frames := rfl, mod := md, bs := fun b o e => of_hidT e, bsz := Nat.le_of_eq (hidT_size _ _), funs := trivial, frf := fun b hb => (List.not_mem_nil hb).elim, hok := ok, bare := .of_eq gens }
  refine codeAny_mono ((F _ kinB (dicts hm)).run callerA [] s₁ (H0 K a vs ns) ⟨[.ref a], []⟩ [.ref a] [.ref a] (fun v _ => v = .bl true) E0 rfl room e0 (bind s₁ (.ref a)) (.cons rfl .nil) (want _ sq)) fun r s' h => ?_
  match r, h with
  | .error z, h => exact False.elim h
  | .ok (.ret u), ⟨v, H', os, bare, un, ok', rv', q⟩ =>
    have q' : v = .bl true := q
    subst q'
    obtain rfl : u = Value.bool true := rv'
    refine ⟨rfl, OldK.of_keep fun b o e => ?_, os, bare⟩
    cases t : H0 K a vs ns b with
    | none => exact un.keep b o e t (fun z => (List.not_mem_nil z).elim) (fun z => (List.not_mem_nil z).elim)
    | some u =>
      obtain ⟨rfl, _, rfl⟩ := H0_some t
      have e2 := (ok' b _ (un.frzs b _ _ t)).1
      rw [obj] at e
      cases e
      exact e2
theorem walk_ofG {l : PySem.W.OpenLaw} {n k : Nat} {q : Program} {loose : List Str} {XP : (Str → Option Value) → Heap → Prop} {YP : World → Heap → Prop} {d : DefRec} {K : Params → PySem.W.Frag} {sp : World → Sp} {x : Str}
    (hn : l.most = some n) (hn2 : n ≤ sizeLine) (hdf : d.params.defaults = []) (room : Room k callerA) (hY : ∀ (w : World) (h : Heap), YP w h → (K w.params).In h)
    (F : ∀ (w : World) (mg : Str → Option Value) (fa : Addr) (h : Heap), (K w.params).In h → h.Ns mainGlobals mg → mg d.name = some (.ref fa) →
      ∃ fd : FuncData, (∀ (s : Shared) (u : Value), BindsTo s fd ⟨[u], []⟩ [(x, u)]) ∧ ∀ base : Heap, (K w.params).In base → base.Ns mainGlobals mg → FnG l.prog w (K w.params) mg base CX0 k fa fd [x] (sp w))
    (want : ∀ (w : World) (H : Hp) (a : Addr) (ns : List Int), ns.length ≤ n → SqL (K w.params) H a (ns.map V.int) → sp w [.ref a] H (fun v _ => v = .bl true) E0) :
    PySem.W.WalkO q loose XP YP l.row.toRowW d [] (fun f vs => PySem.call f vs) := by
  refine Att.attach_call hn hdf fun w s₀ s₁ mg mb fa o pm cd doc a vs ns G Y ho hd hcd hmg hobj hints hlen hg => ?_
  have kin := hY w _ Y
  obtain ⟨fd, hb, hF⟩ := F w mg fa _ kin G.T.g hmg
  exact law_callG kin G.T.g G.T.b G.T.builtins G.T.nolimit hg hobj hints (Nat.le_trans hlen hn2) room hF hb fun H hS => want w H a ns hlen hS
end Ls
namespace Ls
open PySem PySem.Spec PyProof.Rows L2
/-- the end over a head by facts, for a law that asks repr: the written part is told by the head -/
theorem walk_ofGE {l : PySem.W.OpenLaw} {n k : Nat} {q : Program} {loose : List Str} {XP : (Str → Option Value) → Heap → Prop} {YP : World → Heap → Prop} {d : DefRec} {x : Str} (hn : l.most = some n) (hn2 : n ≤ sizeLine) (hdf : d.params.defaults = []) (room : Room k callerA)
    (F : ∀ (w : World) (mg : Str → Option Value) (fa : Addr) (h : Heap), YP w h → h.Ns mainGlobals mg → mg d.name = some (.ref fa) → ∃ (K : PySem.W.Frag) (fd : FuncData) (sp : Sp), K.In h ∧ (∀ (s : Shared) (u : Value), BindsTo s fd ⟨[u], []⟩ [(x, u)]) ∧
      (∀ (H : Hp) (a : Addr) (ns : List Int), ns.length ≤ n → SqL K H a (ns.map V.int) → sp [.ref a] H (fun v _ => v = .bl true) E0) ∧ ∀ base : Heap, K.In base → base.Ns mainGlobals mg → FnG l.prog w K mg base CX0 k fa fd [x] sp) :
    PySem.W.WalkO q loose XP YP l.row.toRowW d [] (fun f vs => PySem.call f vs) := by
  refine Att.attach_call hn hdf fun w s₀ s₁ mg mb fa o pm cd doc a vs ns G Y ho hd hcd hmg hobj hints hlen hg => ?_
  obtain ⟨K, fd, sp, kin, hb, want, hF⟩ := F w mg fa _ Y G.T.g hmg
  exact law_callG kin G.T.g G.T.b G.T.builtins G.T.nolimit hg hobj hints (Nat.le_trans hlen hn2) room hF hb fun H hS => want H a ns hlen hS
end Ls
namespace Ls
open PySem PySem.Spec PyProof.Rows L2
def topS (i : Nat) : Stmt := PySem.Challenge.pw_longstrike_k42_tables_of_kinds.main.body.getD i (.Pass ⟨0, 0, 0, 0⟩)
/-- the built-in names that are called -/
structure Bt (mg : Str → Option Value) : Prop where
  m_int : mg "int" = none
  m_len : mg "len" = none
  m_range : mg "range" = none
  m_list : mg "list" = none
  m_tuple : mg "tuple" = none
  m_dict : mg "dict" = none
  m_isinstance : mg "isinstance" = none
  m_all : mg "all" = none
  m_any : mg "any" = none
  m_repr : mg "repr" = none
  m_str : mg "str" = none
/-! ### short steps -/
local macro_rules | `(tactic| walk_at "ls_ne") => `(tactic| first | assumption | exact Ne.symm (by assumption) | exact ne_of_none (by assumption) (by assumption) | exact Ne.symm (ne_of_none (by assumption) (by assumption)))
local macro_rules | `(tactic| walk_at "ls_hp") => `(tactic| first
  | with_reducible assumption
  | exact upd_same
  | exact Eq.trans (upd_ne (by walk_at "ls_ne")) (by walk_at "ls_hp"))
local macro_rules | `(tactic| walk_at "ls_st") => `(tactic| first
  | with_reducible assumption
  | exact Stm.upd (by walk_at "ls_st") (by first | walk_at "ls_ne" | exact (Stm.noneS (by assumption) (by assumption)).1) (by first | walk_at "ls_ne" | exact (Stm.noneS (by assumption) (by assumption)).2))
local macro_rules | `(tactic| walk_at "ls1") => `(tactic| first
  | refine ⟨_, rfl, ?_⟩
  | refine ⟨_, _, rfl, rfl, ?_⟩
  | refine ⟨_, _, _, _, rfl, rfl, .inl (.inl (by walk_at "ls_hp")), rfl, ?_⟩
  | refine ⟨_, _, _, _, rfl, rfl, (by walk_at "ls_hp"), rfl, ?_⟩
  | refine ⟨rfl, _, rfl, ?_⟩
  | refine ⟨.inl ⟨rfl, _, .inl (.inl (by walk_at "ls_hp"))⟩, ?_⟩)
local macro_rules | `(tactic| walk_at "ls") => `(tactic| repeat (walk_at "ls1"))

section
variable {P : Program} {w : World} {K : PySem.W.Frag} {mg : Str → Option Value} {base : Heap}
/-! ### _law_draw -/
abbrev s__law_draw : Stmt := topS 52
theorem sc__law_draw : FnScope ["_law_stream", "_law_many", "_law_digit", "_law_mixed"] ["_law_stream", "_law_many"] (defScope s__law_draw) := ⟨rfl, rfl, rfl, by decide +kernel, rfl, by decide +kernel, by decide +kernel⟩
abbrev N__law_draw : List Str := ["_law_stream", "_law_many", "_law_digit", "_law_mixed"]
theorem ok_draw {f : Addr} {fd : FuncData} {j : Nat} (F : Fun K "_law_draw" "_law_draw" s__law_draw f fd) (T : Bt mg) : FnOk P w K mg base CX0 (j + 1) f fd ["_law_stream", "_law_many"] spDraw := by
  refine F.ok sc__law_draw (fun vs H Q E h => ?_) (fun cdv A outer s H vs Q E hr h => ?_)
  · obtain ⟨S, L, n, k, rfl, _⟩ := h
    rfl
  · obtain ⟨S, L, n, k, rfl, hst, hn, hk, hk2, q⟩ := h
    have hu := hu_of hr
    refine ⟨_, (pss_cons (ps_asg (pe_op op_add (pe_ix (ixL K) (pv 0) pe_int (fun _ _ => rfl)) pe_int) (pg_sub (pv 0) pe_int set_list))
      (C8.pss_cut (ps_if (PW.pt (pw_and (pt_cmpR op_eq (pe_ix (ixL K) (pv 0) pe_int (fun _ _ => rfl)) pe_int (nomark _)) (pw_and1 (pt_cmpR (neD K hr) (pe_ix (ixL K) (pv 0) pe_int (fun _ _ => rfl)) (pe_lst pa_nil) (nomark _))))) (pss_cons (ps_asg (pe_bm PySem.F.plainAttrs_list PySem.F.slot_list_pop PySem.F.type_list_pop mt_popAt (pe_ix (ixL K) (pv 0) pe_int (fun _ _ => rfl)) (pa_cons pe_int pa_nil)) (pg_sub (pv 0) pe_int set_list))
      (pss_one (ps_if (pt_cmpR op_lt (pe_ix (ixL K) (pv 0) pe_int (fun _ _ => rfl)) (pe_op op_pow pe_int pe_int) (nomark _)) (pss_cons (ps_asg (pe_op op_mod (pe_callTy call_int1 (by rfl) T.m_int (by decide +kernel) (pa_cons (pe_op op_add (pe_op op_add (pe_op op_mul (pe_ix (ixL K) (pv 0) pe_int (fun _ _ => rfl)) pe_int) (pe_ix (ixL K) (pv 0) pe_int (fun _ _ => rfl))) pe_int) pa_nil)) pe_int) (pg_sub (pv 0) pe_int set_list))
      (pss_one (ps_asg pe_int (pg_sub (pv 0) pe_int set_list)))) pss_nil))) pss_nil)
      (pss_cons (ps_if (pt_cmpR op_gt (pe_ix (ixL K) (pv 0) pe_int (fun _ _ => rfl)) pe_int (nomark _)) (pss_cons (ps_set (i := 2) sc__law_draw.nd rfl (Or.inl rfl) (pe_op op_mod (pe_callTy call_int1 (by rfl) T.m_int (by decide +kernel) (pa_cons (pe_ix (ixL K) (pv 0) pe_int (fun _ _ => rfl)) pa_nil)) (pv 1)))
      (pss_cons (ps_asg (pe_op op_fdivW (pe_ix (ixL K) (pv 0) pe_int (fun _ _ => rfl)) (pv 1)) (pg_sub (pv 0) pe_int set_list))
      (pss_one (ps_ret (pv 2))))) pss_nil)
      (pss_cons (ps_set (i := 3) sc__law_draw.nd rfl (Or.inl rfl) (pe_op op_mod (pe_op op_pow (pe_op op_add (pe_op op_add (pe_ix (ixL K) (pv 0) pe_int (fun _ _ => rfl)) (pe_op op_mul pe_int (pe_ix (ixL K) (pv 0) pe_int (fun _ _ => rfl)))) pe_int) pe_int) pe_int))
      (pss_one (ps_ret (pe_op op_mod (pe_op op_mod (pe_op op_pow (pe_op op_add (pe_op op_add (pe_op op_mul (pv 3) pe_int) (pe_op op_mul (pe_op op_mul pe_int (pe_ix (ixL K) (pv 0) pe_int (fun _ _ => rfl))) (pe_ix (ixL K) (pv 0) pe_int (fun _ _ => rfl)))) pe_int) pe_int) pe_int) (pv 1)))))))), ?_⟩
    obtain ⟨ns, d, c, m, hS, hL, d0, c0, cn, m0, m1⟩ := id hst
    have nSL := hst.ne
    walk_at "ls"
    refine ⟨fun σ' H' => σ' = [some (.ref S), some (.int k), none, none] ∧ ∃ (ns : List Int) (d m : Int), H' S = some (.lst [.ref L, .int d, .int (c + 1), .int m]) ∧ H' L = some (.lst (ns.map V.int)) ∧ 0 ≤ d ∧ 0 ≤ m ∧ m < 2147483647 ∧ Old S L H H', ?_, ?_⟩
    · walk_at "ls"
      refine ite2 (fun e => ?_) (fun e => ?_)
      · walk_at "ls"
        refine ⟨by decide, fun p hp => ?_⟩
        have hd : d = 0 := V.int.inj (of_decide_eq_true e)
        subst hd
        have nSp : p ≠ S := fun z => by rw [z, upd_same] at hp; cases hp
        have nLp : p ≠ L := fun z => by rw [z, upd_ne nSL.symm, hL] at hp; cases hp
        refine ⟨.list (ns.map .int), .list [], .lst (.inl (.inl (by walk_at "ls_hp"))) (dp_ints _), .lst (.inl (.inl upd_same)) .nil, shaped_ints ns, by decide +kernel, _, rfl, ?_⟩
        rw [eqv_nil]
        cases ns with
        | nil =>
          rw [decide_eq_true rfl]
          refine iteF ?_
          exact ⟨rfl, [], 0, m, (by walk_at "ls_hp"), (by walk_at "ls_hp"), d0, m0, m1, fun b o h1 h2 e => by rw [upd_ne (ne_of_none (by rw [upd_ne h1]; exact e) hp), upd_ne h1]; exact e⟩
        | cons x r =>
          rw [decide_eq_false (by simp)]
          refine iteT ?_
          walk_at "ls"
          refine ⟨_, _, _, 0, .int x, rfl, rfl, (by walk_at "ls_hp"), by decide, by decide, (ixN_seq (by show ixN ((List.map V.int (x :: r)).length) 0 = some 0; unfold ixN; rw [if_pos (by decide), if_pos (by rw [List.length_map, List.length_cons]; omega)]; rfl)).1, rfl, ?_⟩
          walk_at "ls"
          refine ⟨⟨by decide, by decide, by decide⟩, ?_⟩
          walk_at "ls"
          refine ite2 (fun e => ?_) (fun e => ?_)
          · walk_at "ls"
            refine ⟨.inr ⟨by decide, by decide⟩, ?_⟩
            walk_at "ls"
            refine .inl ⟨_, rfl, ?_⟩
            walk_at "ls"
            refine ⟨(by show (0 : Int) < 2147483647; decide), ?_⟩
            walk_at "ls"
            refine ⟨rfl, r, 0, _, upd_same, (by walk_at "ls_hp"), by decide, emod_lo _ (by decide), emod_hi _ (by decide), fun b o h1 h2 e => ?_⟩
            have np : b ≠ p := ne_of_none (by rw [upd_ne h1]; exact e) hp
            rw [upd_ne h1, upd_ne h1, upd_ne h1, upd_ne h2, upd_ne np, upd_ne h1]
            exact e
          · refine ⟨rfl, r, x, m, upd_same, (by walk_at "ls_hp"), ?_, m0, m1, fun b o h1 h2 e => ?_⟩
            · have hx : ¬ x < 10 ^ (18 : Int).toNat := fun z => e (decide_eq_true z)
              have h18 : (0 : Int) ≤ 10 ^ (18 : Int).toNat := by decide
              omega
            have np : b ≠ p := ne_of_none (by rw [upd_ne h1]; exact e) hp
            rw [upd_ne h1, upd_ne h2, upd_ne np, upd_ne h1]
            exact e
      · exact ⟨rfl, ns, d, m, upd_same, (by walk_at "ls_hp"), d0, m0, m1, fun b o h1 h2 e => by rw [upd_ne h1]; exact e⟩
    · rintro σ' H' ⟨rfl, ns, d, m, hS, hL, d0, m0, m1, hO⟩
      walk_at "ls"
      refine ite2 (fun e => ?_) (fun e => ?_)
      · have hd : 0 < d := of_decide_eq_true e
        walk_at "ls"
        refine .inl ⟨_, rfl, ?_⟩
        walk_at "ls"
        refine ⟨hk, ?_⟩
        walk_at "ls"
        refine ⟨⟨hk, log_lt hk hk2⟩, ?_⟩
        walk_at "ls"
        refine q _ _ (emod_lo _ hk) (emod_hi _ hk) ⟨ns, d / k, c + 1, m, upd_same, (by walk_at "ls_hp"), Int.ediv_nonneg (by omega) (by omega), by omega, by omega, m0, m1⟩ fun b o h1 h2 e => ?_
        rw [upd_ne h1]
        exact hO b o h1 h2 e
      · walk_at "ls"
        refine ⟨.inl ⟨by decide, by decide⟩, ?_⟩
        walk_at "ls"
        refine ⟨⟨by decide, by decide, lt_pow m0 m1 (by omega) (by omega)⟩, ?_⟩
        walk_at "ls"
        refine ⟨(by show (0 : Int) < 2147483629; decide), ?_⟩
        walk_at "ls"
        refine ⟨.inr ⟨by decide, by decide⟩, ?_⟩
        walk_at "ls"
        refine ⟨.inl ⟨by decide, by decide⟩, ?_⟩
        walk_at "ls"
        refine ⟨.inr ⟨by omega, by omega⟩, ?_⟩
        walk_at "ls"
        have hx := emod_hi ((m + 104729 * (c + 1) + 17) ^ Int.toNat 5) (show (0 : Int) < 2147483629 by decide)
        have hx0 := emod_lo ((m + 104729 * (c + 1) + 17) ^ Int.toNat 5) (show (0 : Int) < 2147483629 by decide)
        have hsq := sq_le (c := c + 1) (by omega) (by omega)
        refine ⟨⟨by decide, by decide, ?_⟩, ?_⟩
        · show Int.natAbs ((m + 104729 * (c + 1) + 17) ^ Int.toNat 5 % 2147483629 * 48271 + 40503 * (c + 1) * (c + 1) + 13) < 2 ^ 64
          omega
        walk_at "ls"
        refine ⟨(by show (0 : Int) < 1000000007; decide), ?_⟩
        walk_at "ls"
        refine ⟨hk, ?_⟩
        refine q _ _ (emod_lo _ hk) (emod_hi _ hk) ⟨ns, d, c + 1, m, hS, hL, d0, by omega, by omega, m0, m1⟩ hO
end
end Ls
namespace Ls
open PySem PySem.Spec PyProof.Rows L2
/-! ### short steps -/
local macro_rules | `(tactic| walk_at "ls_ne") => `(tactic| first | assumption | exact Ne.symm (by assumption) | exact ne_of_none (by assumption) (by assumption) | exact Ne.symm (ne_of_none (by assumption) (by assumption)))
local macro_rules | `(tactic| walk_at "ls_hp") => `(tactic| first
  | with_reducible assumption
  | exact upd_same
  | exact Eq.trans (upd_ne (by walk_at "ls_ne")) (by walk_at "ls_hp"))
local macro_rules | `(tactic| walk_at "ls_st") => `(tactic| first
  | with_reducible assumption
  | exact Stm.upd (by walk_at "ls_st") (by first | walk_at "ls_ne" | exact (Stm.noneS (by assumption) (by assumption)).1) (by first | walk_at "ls_ne" | exact (Stm.noneS (by assumption) (by assumption)).2))
local macro_rules | `(tactic| walk_at "ls1") => `(tactic| first
  | refine ⟨_, rfl, ?_⟩
  | refine ⟨_, _, rfl, rfl, ?_⟩
  | refine ⟨_, _, _, _, rfl, rfl, .inl (.inl (by walk_at "ls_hp")), rfl, ?_⟩
  | refine ⟨_, _, _, _, rfl, rfl, (by walk_at "ls_hp"), rfl, ?_⟩
  | refine ⟨rfl, _, rfl, ?_⟩
  | refine ⟨.inl ⟨rfl, _, .inl (.inl (by walk_at "ls_hp"))⟩, ?_⟩)
local macro_rules | `(tactic| walk_at "ls") => `(tactic| repeat (walk_at "ls1"))

/-! ### texts -/
theorem abc_cps : (("abcdefghijklmnopqrstuvwxyz" : Str)).cps.toList = List.range' 97 26 := by decide +kernel
theorem abc_at {i : Int} (h0 : 0 ≤ i) (h1 : i < 26) : ∃ c : Nat, atI (("abcdefghijklmnopqrstuvwxyz" : Str)).cps.toList i = some c ∧ 97 ≤ c ∧ c ≤ 122 := by
  obtain ⟨n, rfl⟩ := Int.eq_ofNat_of_zero_le h0
  refine ⟨97 + n, ?_, by omega, by omega⟩
  rw [atI_nat (j := n) (v := 97 + n)]
  rw [abc_cps, List.getElem?_range' (by omega)]
  simp
/-- one to eight small letters -/
def Nm' (z : Str) : Prop := 1 ≤ z.length ∧ z.length ≤ 8 ∧ ∀ c ∈ z.cps.toList, 97 ≤ c ∧ c ≤ 122
def Nm (z : Str) : Prop := Nm' z ∧ z ≠ "strike"
def words : List Str := ["kind", "open", "column", "from", "to", "check", "fall", "clear", "lone", "fresh", "put", "turn", "fell", "spread", "stuck", "again", "bare", "hold"]
theorem words_nm : ∀ y ∈ words, Nm' y := by
  intro y hy
  have h : words.all (fun y => decide (1 ≤ y.length) && decide (y.length ≤ 8) && y.cps.toList.all fun c => decide (97 ≤ c) && decide (c ≤ 122)) = true := by decide +kernel
  have h2 := List.all_eq_true.mp h y hy
  simp only [Bool.and_eq_true, decide_eq_true_eq, List.all_eq_true] at h2
  exact ⟨h2.1.1, h2.1.2, fun c hc => h2.2 c hc⟩
theorem words_at {i : Int} (h0 : 0 ≤ i) (h1 : i < 18) : ∃ y, atI (words.map V.str) i = some (.str y) ∧ y ∈ words := by
  obtain ⟨n, rfl⟩ := Int.eq_ofNat_of_zero_le h0
  have hl : words.length = 18 := by decide +kernel
  have hn : n < words.length := by omega
  refine ⟨words[n], atI_nat ?_, List.getElem_mem hn⟩
  rw [List.getElem?_map, List.getElem?_eq_getElem hn]
  rfl
theorem all_flat : ∀ ts : List Str, (ts.map V.str).all flatV = true
  | [] => rfl
  | t :: r => by rw [List.map_cons, List.all_cons, all_flat r]; rfl
theorem in_strs (z : Str) : ∀ ts : List Str, inV (.str z) (ts.map V.str) = decide (z ∈ ts)
  | [] => rfl
  | t :: r => by
    have ih := in_strs z r
    unfold inV at ih ⊢
    rw [List.map_cons, List.any_cons, ih]
    by_cases h : t = z
    · subst h
      simp [eqV]
    · have h2 : ¬ z = t := fun e => h e.symm
      simp [eqV, h, h2]
theorem signs_at {z : Str} {i : Nat} {x : V} (h : (signs z)[i]? = some x) : ∃ c, x = .str ⟨#[c]⟩ := by
  unfold signs at h
  rw [List.getElem?_map] at h
  cases e : z.cps.toList[i]? with
  | none => rw [e] at h; cases h
  | some c => rw [e] at h; exact ⟨c, (Option.some.inj h).symm⟩
theorem str_at {ts : List Str} {i : Nat} {x : V} (h : (ts.map V.str)[i]? = some x) : ∃ y, x = .str y := by
  rw [List.getElem?_map] at h
  cases e : ts[i]? with
  | none => rw [e] at h; cases h
  | some c => rw [e] at h; exact ⟨c, (Option.some.inj h).symm⟩
def addQ : V → Option V
  | .str c => some (.str ("q" ++ c))
  | _ => none
def qs : List Str := (List.range' 97 26).map fun c => ("q" : Str) ++ (⟨#[c]⟩ : Str)
theorem addQ_all : (signs "abcdefghijklmnopqrstuvwxyz").filterMap addQ = qs.map V.str := by decide +kernel
theorem qs_nm : ∀ y ∈ qs, Nm y := by
  intro y hy
  have h : qs.all (fun y => decide (1 ≤ y.length) && decide (y.length ≤ 8) && (y.cps.toList.all fun c => decide (97 ≤ c) && decide (c ≤ 122)) && !decide (y = "strike")) = true := by decide +kernel
  have h2 := List.all_eq_true.mp h y hy
  simp only [Bool.and_eq_true, decide_eq_true_eq, List.all_eq_true, Bool.not_eq_true', decide_eq_false_iff_not] at h2
  exact ⟨⟨h2.1.1.1, h2.1.1.2, fun c hc => h2.1.2 c hc⟩, h2.2⟩
def notIn (ts : List Str) (v : V) : Option V := if inV v (ts.map V.str) = true then none else some v
theorem notIn_all (ts : List Str) : ∀ ys : List Str, (ys.map V.str).filterMap (notIn ts) = (ys.filter fun z => !decide (z ∈ ts)).map V.str
  | [] => rfl
  | y :: r => by
    rw [List.map_cons, List.filterMap_cons, List.filter_cons, notIn_all ts r]
    unfold notIn
    rw [in_strs]
    by_cases h : y ∈ ts
    · simp [h]
    · simp [h]
theorem sub_len : ∀ (l : List Str), l.Nodup → ∀ ts : List Str, (∀ x ∈ l, x ∈ ts) → l.length ≤ ts.length
  | [], _, ts, _ => Nat.zero_le _
  | a :: r, nd, ts, h => by
    have ha : a ∈ ts := h a (List.mem_cons_self ..)
    have nd' := List.nodup_cons.mp nd
    have ih := sub_len r nd'.2 (ts.erase a) fun x hx => (List.mem_erase_of_ne (fun e => nd'.1 (by rw [← e]; exact hx))).mpr (h x (List.mem_cons_of_mem _ hx))
    rw [List.length_erase_of_mem ha] at ih
    have : 0 < ts.length := List.length_pos_of_mem ha
    rw [List.length_cons]
    omega
theorem some_q {ts : List Str} (h : ts.length < 26) : ∃ y r, (qs.filter fun z => !decide (z ∈ ts)) = y :: r ∧ y ∈ qs ∧ y ∉ ts := by
  cases e : qs.filter fun z => !decide (z ∈ ts) with
  | nil =>
    have h2 : ∀ x ∈ qs, x ∈ ts := fun x hx => by
      have := List.filter_eq_nil_iff.mp e x hx
      simpa using this
    have h3 := sub_len qs (by decide +kernel) ts h2
    have h4 : qs.length = 26 := by decide +kernel
    omega
  | cons y r =>
    have hm : y ∈ qs.filter fun z => !decide (z ∈ ts) := by rw [e]; exact List.mem_cons_self ..
    have h2 := List.mem_filter.mp hm
    exact ⟨y, r, rfl, h2.1, by simpa using h2.2⟩
/-- a text of one sign -/
def one (c : Nat) : Str := ⟨#[c]⟩
theorem joinL_nil : ∀ ps : List (List Nat), TL.joinL [] ps = ps.flatten
  | [] => rfl
  | [p] => by simp [TL.joinL]
  | p :: q :: r => by
    show p ++ ([] ++ TL.joinL [] (q :: r)) = _
    rw [joinL_nil (q :: r)]
    simp
theorem join_ones (cs : List Nat) : Txt.join "" (cs.map one) = ⟨cs.toArray⟩ := by
  have e : cs.map one = (cs.map fun c => [c]).map SX.S := by rw [List.map_map]; rfl
  have e2 : (("" : Str)) = SX.S [] := by decide +kernel
  rw [e, e2, SX.join_S, joinL_nil]
  have : (cs.map fun c => [c]).flatten = cs := by
    clear e e2
    induction cs with
    | nil => rfl
    | cons a r ih =>
      rw [List.map_cons, List.flatten_cons, ih]
      rfl
  rw [this]
theorem ones_len (cs : List Nat) : ((cs.map one).map (·.length)).sum = cs.length := by
  induction cs with
  | nil => rfl
  | cons a r ih =>
    rw [List.map_cons, List.map_cons, List.sum_cons, ih]
    show (1 : Nat) + _ = _
    rw [List.length_cons]
    omega
section
variable {P : Program} {w : World} {K : PySem.W.Frag} {mg : Str → Option Value} {base : Heap}
theorem Old.sq {S L a : Addr} {H H' : Hp} {xs : List V} (h : Old S L H H') (h1 : a ≠ S) (h2 : a ≠ L) (q : SqL K H a xs) : SqL K H' a xs := by
  rcases q with (q | ⟨o, q⟩) | q
  · exact .inl (.inl (h _ _ h1 h2 q))
  · exact .inl (.inr ⟨o, h _ _ h1 h2 q⟩)
  · exact .inr q
/-! ### _law_pick -/
abbrev s__law_pick : Stmt := topS 53
theorem sc__law_pick : FnScope ["_law_stream", "_law_things"] ["_law_stream", "_law_things"] (defScope s__law_pick) := ⟨rfl, rfl, rfl, by decide +kernel, rfl, by decide +kernel, by decide +kernel⟩
abbrev N__law_pick : List Str := ["_law_stream", "_law_things"]
def spPick (K : PySem.W.Frag) : Sp := fun vs H Q _ => ∃ (S L a : Addr) (n : Nat) (xs : List V), vs = [.ref S, .ref a] ∧ Stm H S L n ∧ n ≤ 10000000 ∧ SqL K H a xs ∧ a ≠ S ∧ a ≠ L ∧ 0 < xs.length ∧ xs.length ≤ 1000000 ∧
  ∀ (H' : Hp) (v : V), v ∈ xs → Stm H' S L (n + 1) → Old S L H H' → Q v H'
theorem atI_mem {xs : List V} {i : Int} (h0 : 0 ≤ i) (h1 : i < (xs.length : Int)) : ∃ v, atI xs i = some v ∧ v ∈ xs := by
  obtain ⟨n, rfl⟩ := Int.eq_ofNat_of_zero_le h0
  have hn : n < xs.length := by omega
  exact ⟨xs[n], atI_nat (List.getElem?_eq_getElem hn), List.getElem_mem hn⟩
theorem ok_pick {f : Addr} {fd : FuncData} (F : Fun K "_law_pick" "_law_pick" s__law_pick f fd) (T : Bt mg) (O__law_draw : Own P w K mg base CX0 1 "_law_draw" ["_law_stream", "_law_many"] spDraw) : FnOk P w K mg base CX0 2 f fd ["_law_stream", "_law_things"] (spPick K) := by
  refine F.ok sc__law_pick (fun vs H Q E h => ?_) (fun cdv A outer s H vs Q E hr h => ?_)
  · obtain ⟨S, L, a, n, xs, rfl, _⟩ := h
    rfl
  · obtain ⟨S, L, a, n, xs, rfl, hst, hn, hq, aS, aL, x0, x1, q⟩ := h
    have hu := hu_of hr
    refine ⟨_, (pss_one (ps_ret (pe_ix (ixL K) (pv 1) (own_call O__law_draw hr (by first | decide | omega) (pa_cons (pv 0) (pa_cons (pe_callB (len_seq K) (by rfl) T.m_len (by decide +kernel) (pa_cons (pv 1) pa_nil)) pa_nil))) (fun _ _ => rfl)))), ?_⟩
    walk_at "ls"
    refine ⟨_, _, rfl, .inl hq, ?_⟩
    refine ⟨S, L, n, _, rfl, hst, hn, by omega, by omega, fun H' r r0 r1 hst' hO => ?_⟩
    obtain ⟨v, hv, hm⟩ := atI_mem r0 r1
    exact ⟨_, _, _, v, rfl, rfl, hO.sq aS aL hq, hv, q H' v hm hst' hO⟩
/-! ### _law_fresh -/
abbrev s__law_fresh : Stmt := topS 55
theorem sc__law_fresh : FnScope ["_law_stream", "_law_taken", "_law_letters", "_law_words", "_law_name", "_law_k", "_law_one", "_law_sign"] ["_law_stream", "_law_taken"] (defScope s__law_fresh) := ⟨rfl, rfl, rfl, by decide +kernel, rfl, by decide +kernel, by decide +kernel⟩
abbrev N__law_fresh : List Str := ["_law_stream", "_law_taken", "_law_letters", "_law_words", "_law_name", "_law_k", "_law_one", "_law_sign"]
def spFresh : Sp := fun vs H Q _ => ∃ (S L a : Addr) (n : Nat) (ts : List Str), vs = [.ref S, .ref a] ∧ Stm H S L n ∧ n ≤ 9999900 ∧ H a = some (.lst (ts.map V.str)) ∧ a ≠ S ∧ a ≠ L ∧ ts.length < 26 ∧
  ∀ (H' : Hp) (z : Str), Nm z → z ∉ ts → Stm H' S L (n + 12) → Old S L H H' → Q (.str z) H'
theorem ok_fresh {f : Addr} {fd : FuncData} (F : Fun K "_law_fresh" "_law_fresh" s__law_fresh f fd) (T : Bt mg) (O__law_draw : Own P w K mg base CX0 1 "_law_draw" ["_law_stream", "_law_many"] spDraw) : FnOk P w K mg base CX0 2 f fd ["_law_stream", "_law_taken"] spFresh := by
  refine F.ok sc__law_fresh (fun vs H Q E h => ?_) (fun cdv A outer s H vs Q E hr h => ?_)
  · obtain ⟨S, L, a, n, ts, rfl, _⟩ := h
    rfl
  · obtain ⟨S, L, a, n, ts, rfl, hst, hn, ha, aS, aL, tl, q⟩ := h
    have hu := hu_of hr
    refine ⟨_, (pss_cons (ps_asg (pe_tup (pa_cons pe_str (pa_cons (pe_lst (pa_cons pe_str (pa_cons pe_str (pa_cons pe_str (pa_cons pe_str (pa_cons pe_str (pa_cons pe_str (pa_cons pe_str pa_nil)))))))) pa_nil))) (pg_tup rfl (pgs_cons (pg_name (i := 2) sc__law_fresh.nd rfl (Or.inr rfl)) (pgs_cons (pg_name (i := 3) sc__law_fresh.nd rfl (Or.inl rfl)) pgs_nil))))
      (pss_cons (ps_set (i := 3) sc__law_fresh.nd rfl (Or.inl rfl) (pe_op op_cat (pv 3) (pe_lst (pa_cons pe_str (pa_cons pe_str (pa_cons pe_str (pa_cons pe_str (pa_cons pe_str (pa_cons pe_str (pa_cons pe_str (pa_cons pe_str (pa_cons pe_str (pa_cons pe_str (pa_cons pe_str pa_nil))))))))))))))
      (pss_cons (ps_set (i := 4) sc__law_fresh.nd rfl (Or.inl rfl) (pe_join pe_str (pe_lc (own := [("_law_k", 5)]) (g := gName 5) (by rfl) sc__law_fresh.nd (pi_range1 rfl T.m_range (pa_cons (pe_op op_add pe_int (own_call O__law_draw hr (by first | decide | omega) (pa_cons (pv 0) (pa_cons pe_int pa_nil)))) pa_nil)) (blkOk_by (own := [("_law_k", 5)]) (N := N__law_fresh) (sc := defScope s__law_fresh) (by decide +kernel)) (fun _ _ _ _ _ => (pg_name (i := 5) sc__law_fresh.nd rfl (Or.inl rfl) (Or.inr rfl))) (fun _ _ _ _ _ => pts_nil) (fun _ _ _ _ _ => (pe_ix ix_str (pv 2) (own_call O__law_draw hr (by first | decide | omega) (pa_cons (pv 0) (pa_cons pe_int pa_nil))) (fun _ _ => rfl))))))
      (C8.pss_cut (ps_set (i := 4) sc__law_fresh.nd rfl (Or.inl rfl) (pe_ifExp (pt_cmpR op_eq (own_call O__law_draw hr (by first | decide | omega) (pa_cons (pv 0) (pa_cons pe_int pa_nil))) pe_int (nomark _)) (pe_ix (ixL K) (pv 3) (own_call O__law_draw hr (by first | decide | omega) (pa_cons (pv 0) (pa_cons pe_int pa_nil))) (fun _ _ => rfl)) (pv 4)))
      (pss_cons (ps_if (PW.pt (pw_or (pt_cmpR (in_seq K) (pv 4) (pv 1) (by rfl)) (pw_or1 (pt_cmpR op_eq (pv 4) pe_str (nomark _))))) (pss_one (ps_ret (pe_ix (ixL K) (pe_lc (own := [("_law_one", 6)]) (g := gName 6) (by rfl) sc__law_fresh.nd (pi_list (pe_lc (own := [("_law_sign", 7)]) (g := gName 7) (by rfl) sc__law_fresh.nd (pi_str (pv 2)) (blkOk_by (own := [("_law_sign", 7)]) (N := N__law_fresh) (sc := defScope s__law_fresh) (by decide +kernel)) (fun _ _ _ _ _ => (pg_name (i := 7) sc__law_fresh.nd rfl (Or.inl rfl) (Or.inr rfl))) (fun _ _ _ _ _ => pts_nil) (fun _ _ _ _ _ => (pe_op op_add_str pe_str (pv 7))))) (blkOk_by (own := [("_law_one", 6)]) (N := N__law_fresh) (sc := defScope s__law_fresh) (by decide +kernel)) (fun _ _ _ _ _ => (pg_name (i := 6) sc__law_fresh.nd rfl (Or.inl rfl) (Or.inr rfl))) (fun _ _ _ _ _ => (pts_one (pt_cmpR (notIn_seq K) (pv 6) (pv 1) (by rfl)))) (fun _ _ _ _ _ => (pv 6))) pe_int (fun _ _ => rfl)))) pss_nil)
      (pss_one (ps_ret (pv 4)))))))), ?_⟩
    refine ⟨(by show 7 ≤ sizeLine; decide), fun w0 hw0 => ⟨(by show 2 ≤ sizeLine; decide), fun t0 ht0 => ?_⟩⟩
    have nw0 := hst.noneS hw0
    have nt0 : t0 ≠ w0 := fun e => by rw [e, upd_same] at ht0; cases ht0
    refine ⟨_, _, rfl, .inl (.inl upd_same), rfl, _, _, rfl, _, _, rfl, rfl, ?_⟩
    walk_at "ls"
    refine ⟨(by show 11 ≤ sizeLine; decide), fun w1 hw1 => ?_⟩
    have n10 : w1 ≠ w0 := fun e => by rw [e, upd_ne nt0.symm, upd_same] at hw1; cases hw1
    refine ⟨_, _, _, _, rfl, rfl, (by rw [upd_ne n10.symm, upd_ne nt0.symm]; exact upd_same), upd_same, (by show 7 + 11 ≤ sizeLine; decide), fun w2 hw2 => ?_⟩
    have mt := (Stm.upd hst nw0.1 nw0.2).noneS ht0
    have m1 := (Stm.upd (Stm.upd hst nw0.1 nw0.2) mt.1 mt.2).noneS hw1
    have m2 := (Stm.upd (Stm.upd (Stm.upd hst nw0.1 nw0.2) mt.1 mt.2) m1.1 m1.2).noneS hw2
    refine at_heap (φ := fun H1 => Stm H1 S L n ∧ Old S L H H1 ∧ H1 w2 = some (.lst (words.map V.str)) ∧ w2 ≠ S ∧ w2 ≠ L) ⟨?_, ?_, upd_same, m2⟩ ?_
    · exact (((hst.upd nw0.1 nw0.2).upd mt.1 mt.2).upd m1.1 m1.2).upd m2.1 m2.2
    · exact (((Old.new hw0).trans (.new ht0)).trans (.new hw1)).trans (.new hw2)
    rintro H1 ⟨st1, od1, h2, nw2⟩
    walk_at "ls"
    refine ⟨⟨_, rfl⟩, ?_⟩
    walk_at "ls"
    refine ⟨S, L, n, 8, rfl, st1, by omega, by decide, by decide, fun H2 r r0 r1 st2 od2 => ?_⟩
    walk_at "ls"
    refine ⟨by omega, by omega, fun D hD => ?_⟩
    have nD := st2.noneS hD
    refine lc_it walk_range (fun i H3 => ∃ cs : List Nat, cs.length = i ∧ (∀ c ∈ cs, 97 ≤ c ∧ c ≤ 122) ∧ H3 D = some (.lst ((cs.map one).map V.str)) ∧ Stm H3 S L (n + 1 + i) ∧ Old S L H2 H3) ⟨[], rfl, (fun _ h => nomatch h), upd_same, st2.upd nD.1 nD.2, .new hD⟩ (fun _ _ _ _ => trivial) (fun i x H3 H4 hi hP hy => ?_) (fun H3 hP => ?_)
    · obtain ⟨cs, hl, hc, h3, st3, od3⟩ := hP
      obtain ⟨rfl, rfl⟩ := hy
      refine ⟨rfl, ?_⟩
      walk_at "ls"
      refine ⟨S, L, n + 1 + i, 26, rfl, st3, by omega, by decide, by decide, fun H5 q0 q1 q2 st5 od5 => ?_⟩
      obtain ⟨c, hcat, hc1, hc2⟩ := abc_at q1 q2
      refine ⟨_, _, c, rfl, rfl, (by decide +kernel), hcat, _, od5 D _ nD.1 nD.2 h3, ?_, cs ++ [c], ?_, ?_, ?_, ?_, ?_⟩
      · rw [List.length_map, List.length_map, hl]
        exact small1000 (by omega)
      · rw [List.length_append, hl]
        rfl
      · intro d hd
        rcases List.mem_append.mp hd with h | h
        · exact hc d h
        · rw [List.mem_singleton.mp h]
          exact ⟨hc1, hc2⟩
      · rw [upd_same, List.map_append, List.map_append]
        rfl
      · exact (st5.mono (by omega)).upd nD.1 nD.2
      · intro b o h1 h2 e
        rw [upd_ne (ne_of_none e hD)]
        exact od5 b o h1 h2 (od3 b o h1 h2 e)
    · obtain ⟨cs, hl, hc, h3, st3, od3⟩ := hP
      refine ⟨_, D, cs.map one, rfl, rfl, .inl (.inl (.inl h3)), ?_, ?_⟩
      · rw [ones_len, List.length_map]
        show cs.length + cs.length * 0 ≤ 16777216
        omega
      rw [join_ones]
      refine at_heap (φ := fun H4 => Stm H4 S L (n + 10) ∧ Old S L H H4 ∧ H4 w2 = some (.lst (words.map V.str))) ⟨st3.mono (by omega), (od1.trans od2).trans od3, od3 _ _ nw2.1 nw2.2 (od2 _ _ nw2.1 nw2.2 h2)⟩ ?_
      rintro H4 ⟨st4, od4, h4⟩
      refine ⟨fun σ' H' => ∃ z, Nm' z ∧ σ' = [some (.ref S), some (.ref a), some (.str "abcdefghijklmnopqrstuvwxyz"), some (.ref w2), some (.str z), none, none, none] ∧ Stm H' S L (n + 12) ∧ Old S L H H', ?_, ?_⟩
      · walk_at "ls"
        refine ⟨S, L, n + 10, 8, rfl, st4, by omega, by decide, by decide, fun H5 q0 q1 q2 st5 od5 => ?_⟩
        walk_at "ls"
        refine ite2 (fun e => ?_) (fun e => ?_)
        · walk_at "ls"
          refine ⟨S, L, n + 11, 18, rfl, st5, by omega, by decide, by decide, fun H6 u0 u1 u2 st6 od6 => ?_⟩
          obtain ⟨y, hy, hm⟩ := words_at u1 u2
          exact ⟨_, _, _, _, rfl, rfl, .inl (.inl (od6 _ _ nw2.1 nw2.2 (od5 _ _ nw2.1 nw2.2 h4))), hy, y, words_nm y hm, rfl, st6, (od4.trans od5).trans od6⟩
        · walk_at "ls"
          exact ⟨_, ⟨(by show 1 ≤ cs.toArray.size; rw [List.size_toArray]; omega), (by show cs.toArray.size ≤ 8; rw [List.size_toArray]; omega), fun c h => hc c h⟩, rfl, st5.mono (by omega), od4.trans od5⟩
      · rintro σ' H6 ⟨z, hz, rfl, st6, od6⟩
        have ha6 : H6 a = some (.lst (ts.map V.str)) := od6 _ _ aS aL ha
        refine or2 (decide (z ∈ ts)) (decide (V.str z = V.str "strike")) (fun Q' q' => ?_) (fun _ Q' q' => ?_) ?_
        · walk_at "ls"
          refine ⟨_, _, rfl, .inl (.inl (.inl ha6)), rfl, all_flat ts, _, rfl, ?_⟩
          rw [in_strs]
          exact q'
        · walk_at "ls"
          exact q'
        refine ite2 (fun e => ?_) (fun e => ?_)
        · -- some name that is not taken
          walk_at "ls"
          intro D1 hD1
          refine lc_pure walk_str (signs "abcdefghijklmnopqrstuvwxyz") addQ (signs_len _) yld_str (by decide +kernel) (fun _ => trivial) (fun i x hi hx => ?_) ?_
          · obtain ⟨c, rfl⟩ := signs_at hx
            refine ⟨rfl, ?_⟩
            walk_at "ls"
            exact ⟨(by show 1 + 1 ≤ sizeLine; decide), lc_yes hx hi (by decide +kernel) rfl⟩
          have nd1 := st6.noneS hD1
          refine ⟨_, rfl, ⟨_, .inl (.inl upd_same)⟩, fun D2 hD2 => ?_⟩
          rw [addQ_all] at hD2 ⊢
          have n12 : D1 ≠ D2 := fun e => by rw [← e, upd_same] at hD2; cases hD2
          have naD : a ≠ D1 := ne_of_none ha6 hD1
          have ha7 : ∀ acc, (upd (upd H6 D1 (.lst (qs.map V.str))) D2 (.lst acc)) a = some (.lst (ts.map V.str)) := fun acc => by
            have naD2 : a ≠ D2 := ne_of_none (show (upd H6 D1 (.lst (qs.map V.str))) a = some _ by rw [upd_ne naD]; exact ha6) hD2
            rw [upd_ne naD2, upd_ne naD]
            exact ha6
          refine lc_pure (walk_list (xs := qs.map V.str)) (qs.map V.str) (notIn ts) rfl (fun i H x H' hi hy => hy) (by decide +kernel) (fun acc => .inl (.inl (by rw [upd_ne n12]; exact upd_same))) (fun i x hi hx => ?_) ?_
          · obtain ⟨y, rfl⟩ := str_at hx
            refine ⟨rfl, ?_⟩
            walk_at "ls"
            refine ⟨_, _, rfl, .inl (.inl (.inl (ha7 _))), rfl, all_flat ts, _, rfl, ?_⟩
            show if (!inV (V.str y) (ts.map V.str)) = true then _ else _
            rw [in_strs]
            refine ite2 (fun e => ?_) (fun e => ?_)
            · walk_at "ls"
              exact lc_yes hx hi (by decide +kernel) (by unfold notIn; rw [in_strs]; simpa using e)
            · exact lc_no hx (by unfold notIn; rw [in_strs]; simpa using e)
          · rw [notIn_all]
            obtain ⟨y, r, hy, hq, hn⟩ := some_q tl
            rw [hy]
            walk_at "ls"
            refine ⟨_, _, _, _, rfl, rfl, .inl (.inl upd_same), atI_nat (j := 0) rfl, q _ y (qs_nm y hq) hn ?_ ?_⟩
            · have nd2 := (st6.upd nd1.1 nd1.2).noneS hD2
              exact (st6.upd nd1.1 nd1.2).upd nd2.1 nd2.2
            · exact (od6.trans (.new hD1)).trans (.new hD2)
        · walk_at "ls"
          rw [Bool.or_eq_true, not_or, decide_eq_true_eq, decide_eq_true_eq] at e
          exact q H6 z ⟨hz, fun h => e.2 (congrArg V.str h)⟩ e.1 st6 od6
end
end Ls
namespace Ls
open PySem PySem.Spec PyProof.Rows L2
/-! ### short steps -/
local macro_rules | `(tactic| walk_at "ls_ne") => `(tactic| first | assumption | exact Ne.symm (by assumption) | exact ne_of_none (by assumption) (by assumption) | exact Ne.symm (ne_of_none (by assumption) (by assumption)))
local macro_rules | `(tactic| walk_at "ls_hp") => `(tactic| first
  | with_reducible assumption
  | exact upd_same
  | exact Eq.trans (upd_ne (by walk_at "ls_ne")) (by walk_at "ls_hp"))
local macro_rules | `(tactic| walk_at "ls_st") => `(tactic| first
  | with_reducible assumption
  | exact Stm.upd (by walk_at "ls_st") (by first | walk_at "ls_ne" | exact (Stm.noneS (by assumption) (by assumption)).1) (by first | walk_at "ls_ne" | exact (Stm.noneS (by assumption) (by assumption)).2))
local macro_rules | `(tactic| walk_at "ls1") => `(tactic| first
  | refine ⟨_, rfl, ?_⟩
  | refine ⟨_, _, rfl, rfl, ?_⟩
  | refine ⟨_, _, _, _, rfl, rfl, .inl (.inl (by walk_at "ls_hp")), rfl, ?_⟩
  | refine ⟨_, _, _, _, rfl, rfl, (by walk_at "ls_hp"), rfl, ?_⟩
  | refine ⟨rfl, _, rfl, ?_⟩
  | refine ⟨.inl ⟨rfl, _, .inl (.inl (by walk_at "ls_hp"))⟩, ?_⟩)
local macro_rules | `(tactic| walk_at "ls") => `(tactic| repeat (walk_at "ls1"))

section
variable {P : Program} {w : World} {K : PySem.W.Frag} {mg : Str → Option Value} {base : Heap}
theorem nodup_snoc {α : Type} {l : List α} {x : α} (h : l.Nodup) (hx : x ∉ l) : (l ++ [x]).Nodup := by
  rw [List.nodup_append]
  refine ⟨h, by simp, fun a ha b hb e => ?_⟩
  rw [List.mem_singleton.mp hb] at e
  exact hx (e ▸ ha)
theorem all_snoc {α : Type} {p : α → Prop} {l : List α} {x : α} (h : ∀ y ∈ l, p y) (hx : p x) : ∀ y ∈ l ++ [x], p y := fun y hy => by
  rcases List.mem_append.mp hy with h1 | h1
  · exact h y h1
  · rw [List.mem_singleton.mp h1]
    exact hx
/-! ### _law_names -/
abbrev s__law_names : Stmt := topS 56
theorem sc__law_names : FnScope ["_law_stream", "_law_many", "_law_found", "_law_k"] ["_law_stream", "_law_many"] (defScope s__law_names) := ⟨rfl, rfl, rfl, by decide +kernel, rfl, by decide +kernel, by decide +kernel⟩
abbrev N__law_names : List Str := ["_law_stream", "_law_many", "_law_found", "_law_k"]
/-- names, all unlike -/
def NmsOk (ts : List Str) : Prop := ts.Nodup ∧ ∀ z ∈ ts, Nm z
def spNames : Sp := fun vs H Q _ => ∃ (S L : Addr) (n m : Nat), vs = [.ref S, .int (m : Int)] ∧ Stm H S L n ∧ n ≤ 9999000 ∧ m ≤ 20 ∧
  ∀ (H' : Hp) (p : Addr) (ts : List Str), ts.length = m → NmsOk ts → H p = none → H' p = some (.lst (ts.map V.str)) → Stm H' S L (n + 12 * m) → Old S L H H' → Q (.ref p) H'
theorem ok_names {f : Addr} {fd : FuncData} (F : Fun K "_law_names" "_law_names" s__law_names f fd) (T : Bt mg) (O__law_fresh : Own P w K mg base CX0 2 "_law_fresh" ["_law_stream", "_law_taken"] spFresh) : FnOk P w K mg base CX0 3 f fd ["_law_stream", "_law_many"] spNames := by
  refine F.ok sc__law_names (fun vs H Q E h => ?_) (fun cdv A outer s H vs Q E hr h => ?_)
  · obtain ⟨S, L, n, m, rfl, _⟩ := h
    rfl
  · obtain ⟨S, L, n, m, rfl, hst, hn, hm, q⟩ := h
    have hu := hu_of hr
    refine ⟨_, (pss_cons (ps_set (i := 2) sc__law_names.nd rfl (Or.inl rfl) (pe_lst pa_nil))
      (pss_cons (ps_for PassesOwn.never rfl (pi_range1 rfl T.m_range (pa_cons (pv 1) pa_nil)) (pg_name (i := 3) sc__law_names.nd rfl (Or.inl rfl)) (pss_one (ps_expr (pe_bm PySem.F.plainAttrs_list PySem.F.slot_list_append PySem.F.type_list_append mt_append (pv 2) (pa_cons (own_call O__law_fresh hr (by first | decide | omega) (pa_cons (pv 0) (pa_cons (pv 2) pa_nil))) pa_nil)))))
      (pss_one (ps_ret (pv 2))))), ?_⟩
    refine ⟨Nat.zero_le _, fun p hp => ?_⟩
    have np := hst.noneS hp
    walk_at "ls"
    refine ⟨by omega, by omega, ?_⟩
    refine for_it walk_range (fun i σ H1 => ∃ (ts : List Str) (v : Option V), σ = [some (.ref S), some (.int (m : Int)), some (.ref p), v] ∧ ts.length = i ∧ NmsOk ts ∧ H1 p = some (.lst (ts.map V.str)) ∧ Stm H1 S L (n + 12 * i) ∧ Old S L H H1)
      ⟨[], none, rfl, rfl, ⟨List.nodup_nil, fun _ h => nomatch h⟩, upd_same, hst.upd np.1 np.2, .new hp⟩ (fun _ _ _ _ _ => trivial) ?_ ?_
    · rintro i x σ H1 H2 hi ⟨ts, v, rfl, hl, hok, h1, st1, od1⟩ ⟨rfl, rfl⟩
      walk_at "ls"
      refine ⟨S, L, p, n + 12 * i, ts, rfl, st1, by omega, h1, np.1, np.2, by omega, fun H3 z hz hn2 st3 od3 => ?_⟩
      refine ⟨_, _, _, rfl, rfl, od3 _ _ np.1 np.2 h1, ?_, ts ++ [z], _, rfl, ?_, ⟨?_, ?_⟩, ?_, ?_, ?_⟩
      · rw [List.length_map]
        exact small1000 (by omega)
      · rw [List.length_append, hl]
        rfl
      · exact nodup_snoc hok.1 hn2
      · exact all_snoc hok.2 hz
      · rw [upd_same, List.map_append]
        rfl
      · exact (st3.mono (by omega)).upd np.1 np.2
      · exact (od1.trans od3).set hp
    · rintro σ H1 ⟨ts, v, rfl, hl, hok, h1, st1, od1⟩
      walk_at "ls"
      exact q H1 p ts hl hok hp h1 st1 od1
/-! ### _law_shape -/
abbrev s__law_shape : Stmt := topS 57
theorem sc__law_shape : FnScope ["_law_stream", "_law_many", "_law_most", "_law_words", "_law_columns", "_law_name", "_law_home", "_law_goal", "_law_kinds"] ["_law_stream", "_law_many", "_law_most"] (defScope s__law_shape) := ⟨rfl, rfl, rfl, by decide +kernel, rfl, by decide +kernel, by decide +kernel⟩
abbrev N__law_shape : List Str := ["_law_stream", "_law_many", "_law_most", "_law_words", "_law_columns", "_law_name", "_law_home", "_law_goal", "_law_kinds"]
/-- what a book is made of: kinds, columns (a name, its home, its goal, does it fall) -/
structure Shp where
  ks : List (Str × Bool)
  cs : List (Str × Str × Str × Bool)
abbrev ruleS (b : Bool) : Str := if b then "fall" else "clear"
def kindV (k : Str × Bool) : List V := [.str k.1, .bl k.2]
def colV (c : Str × Str × Str × Bool) : List V := [.str c.1, .str c.2.1, .str c.2.2.1, .str (ruleS c.2.2.2)]
/-- v is a tuple of these values -/
def TupOf (H : Hp) (v : V) (ys : List V) : Prop := ∃ t, v = .ref t ∧ H t = some (.tup ys)
/-- a list of tuples stands at a -/
def TupsAt (H : Hp) (xs : List V) (yss : List (List V)) : Prop := Paired (TupOf H) xs yss
structure Shp.Ok (B : Shp) : Prop where
  nk : 0 < B.ks.length
  nk3 : B.ks.length ≤ 3
  nc : B.cs.length ≤ 8
  nd : (B.ks.map (·.1) ++ B.cs.map (·.1)).Nodup
  nm : ∀ z ∈ B.ks.map (·.1) ++ B.cs.map (·.1), Nm z
  home : ∀ c ∈ B.cs, c.2.1 ∈ B.ks.map (·.1)
  goal : ∀ c ∈ B.cs, c.2.2.1 ∈ B.ks.map (·.1)
  nc0 : 0 < B.cs.length
/-- the law's own record of a shape at b -/
structure ShpAt (S L : Addr) (H : Hp) (b : Addr) (B : Shp) (ck : List Str) : Prop where
  ex : ∃ (ka ca ea : Addr) (kx cx : List V), H b = some (.dK [(.inr "kinds", .ref ka), (.inr "columns", .ref ca), (.inr "checks", .ref ea)]) ∧
    H ka = some (.lst kx) ∧ TupsAt H kx (B.ks.map kindV) ∧ H ca = some (.lst cx) ∧ TupsAt H cx (B.cs.map colV) ∧ H ea = some (.lst (ck.map V.str)) ∧ (ka ≠ S ∧ ka ≠ L) ∧ (ca ≠ S ∧ ca ≠ L) ∧ (ea ≠ S ∧ ea ≠ L)
/-! ### what stays of tuples -/
def TK (H H' : Hp) : Prop := ∀ t ys, H t = some (.tup ys) → H' t = some (.tup ys)
theorem TK.refl (H : Hp) : TK H H := fun _ _ h => h
theorem TK.trans {H H1 H2 : Hp} (a : TK H H1) (b : TK H1 H2) : TK H H2 := fun t ys h => b t ys (a t ys h)
theorem TK.same {H H1 : Hp} (s : Same H H1) : TK H H1 := fun t ys h => s t _ h
theorem TK.new {H : Hp} {p : Addr} {o : HO} (h : H p = none) : TK H (upd H p o) := .same (same_new h)
theorem TK.lst {H : Hp} {p : Addr} {o : HO} {xs : List V} (h : H p = some (.lst xs)) : TK H (upd H p o) := fun t ys e => by
  rw [upd_ne (ne_of e h fun z => nomatch z)]
  exact e
theorem TK.dK {H : Hp} {p : Addr} {o : HO} {xs : List (Key × V)} (h : H p = some (.dK xs)) : TK H (upd H p o) := fun t ys e => by
  rw [upd_ne (ne_of e h fun z => nomatch z)]
  exact e
theorem TK.old {S L : Addr} {H H' : Hp} {n : Nat} (st : Stm H S L n) (od : Old S L H H') : TK H H' := fun t ys e => by
  obtain ⟨ns, d, c, k, h1, h2, _⟩ := st
  exact od _ _ (ne_of e h1 fun z => nomatch z) (ne_of e h2 fun z => nomatch z) e
theorem TupOf.keep {H H' : Hp} {v : V} {ys : List V} (h : TupOf H v ys) (k : TK H H') : TupOf H' v ys := by
  obtain ⟨t, e, h⟩ := h
  exact ⟨t, e, k _ _ h⟩
theorem TupsAt.keep {H H' : Hp} : ∀ {xs : List V} {yss : List (List V)}, TupsAt H xs yss → TK H H' → TupsAt H' xs yss
  | _, _, .nil, _ => .nil
  | _, _, .cons r t, k => .cons (r.keep k) (TupsAt.keep t k)
theorem TupsAt.snoc {H : Hp} : ∀ {xs : List V} {yss : List (List V)} {v : V} {ys : List V}, TupsAt H xs yss → TupOf H v ys → TupsAt H (xs ++ [v]) (yss ++ [ys])
  | _, _, _, _, .nil, r => .cons r .nil
  | _, _, _, _, .cons a t, r => .cons a (TupsAt.snoc t r)
theorem TupsAt.len {H : Hp} {xs : List V} {yss : List (List V)} (h : TupsAt H xs yss) : xs.length = yss.length := Paired.length h
theorem rule_at {i : Int} (h0 : 0 ≤ i) (h1 : i < 3) : ∃ b, atI [V.str "fall", V.str "fall", V.str "clear"] i = some (.str (ruleS b)) := by
  obtain ⟨n, rfl⟩ := Int.eq_ofNat_of_zero_le h0
  match n, h1 with
  | 0, _ => exact ⟨true, rfl⟩
  | 1, _ => exact ⟨true, rfl⟩
  | 2, _ => exact ⟨false, rfl⟩
  | k + 3, h => omega
theorem ShpAt.old {S L : Addr} {H H' : Hp} {b : Addr} {B : Shp} {ck : List Str} {n : Nat} (h : ShpAt S L H b B ck) (st : Stm H S L n) (od : Old S L H H') : ShpAt S L H' b B ck := by
  obtain ⟨ka, ca, ea, kx, cx, hb, hk, hkt, hc, hct, he, n1, n2, n3⟩ := h
  have k := TK.old st od
  have nb : b ≠ S ∧ b ≠ L := by
    obtain ⟨ns, d, c, k, h1, h2, _⟩ := st
    exact ⟨ne_of hb h1 (fun z => nomatch z), ne_of hb h2 (fun z => nomatch z)⟩
  exact ⟨ka, ca, ea, kx, cx, od _ _ nb.1 nb.2 hb, od _ _ n1.1 n1.2 hk, hkt.keep k, od _ _ n2.1 n2.2 hc, hct.keep k, od _ _ n3.1 n3.2 he, n1, n2, n3⟩
theorem ShpAt.same {S L : Addr} {H H' : Hp} {b : Addr} {B : Shp} {ck : List Str} (h : ShpAt S L H b B ck) (s : Same H H') : ShpAt S L H' b B ck := by
  obtain ⟨ka, ca, ea, kx, cx, hb, hk, hkt, hc, hct, he, n1, n2, n3⟩ := h
  exact ⟨ka, ca, ea, kx, cx, s _ _ hb, s _ _ hk, hkt.keep (.same s), s _ _ hc, hct.keep (.same s), s _ _ he, n1, n2, n3⟩
theorem cut_take (xs : List V) (n : Nat) : cutV xs none (some (n : Int)) = xs.take n := by
  unfold cutV
  rw [HT.sIx_nat, HT.sIx_none, List.drop_zero, Nat.sub_zero]
  by_cases h : n ≤ xs.length
  · rw [Nat.min_eq_left h]
  · rw [Nat.min_eq_right (by omega), List.take_of_length_le (Nat.le_refl _), List.take_of_length_le (by omega)]
theorem cut_mid (xs : List V) (m k : Nat) (hm : m ≤ xs.length) : cutV xs (some (m : Int)) (some ((m + k : Nat) : Int)) = (xs.drop m).take k := by
  unfold cutV
  rw [HT.sIx_nat, HT.sIx_nat, Nat.min_eq_left hm]
  by_cases h : m + k ≤ xs.length
  · rw [Nat.min_eq_left h, Nat.add_sub_cancel_left]
  · rw [Nat.min_eq_right (by omega), List.take_of_length_le (by rw [List.length_drop]; omega), List.take_of_length_le (by rw [List.length_drop]; omega)]
end
section
variable {P : Program} {w : World} {K : PySem.W.Frag} {mg : Str → Option Value} {base : Heap}
def spShape : Sp := fun vs H Q _ => ∃ (S L : Addr) (n m c : Nat), vs = [.ref S, .int (m : Int), .int (c : Int)] ∧ Stm H S L n ∧ n ≤ 9990000 ∧ 0 < m ∧ m ≤ 3 ∧ 0 < c ∧ c ≤ 8 ∧
  ∀ (H' : Hp) (b : Addr) (B : Shp), B.Ok → B.ks.length = m → B.cs.length ≤ c → H b = none → ShpAt S L H' b B [] → Stm H' S L (n + 200) → Old S L H H' → Q (.ref b) H'
theorem ok_shape {f : Addr} {fd : FuncData} (F : Fun K "_law_shape" "_law_shape" s__law_shape f fd) (T : Bt mg) (O__law_draw : Own P w K mg base CX0 1 "_law_draw" ["_law_stream", "_law_many"] spDraw)
    (O__law_pick : Own P w K mg base CX0 2 "_law_pick" ["_law_stream", "_law_things"] (spPick K)) (O__law_names : Own P w K mg base CX0 3 "_law_names" ["_law_stream", "_law_many"] spNames) :
    FnOk P w K mg base CX0 4 f fd ["_law_stream", "_law_many", "_law_most"] spShape := by
  refine F.ok sc__law_shape (fun vs H Q E h => ?_) (fun cdv A outer s H vs Q E hr h => ?_)
  · obtain ⟨S, L, n, m, c, rfl, _⟩ := h
    rfl
  · obtain ⟨S, L, n, m, c, rfl, hst, hn, m0, m3, c0, c8, q⟩ := h
    have hu := hu_of hr
    refine ⟨_, (pss_cons (ps_par (i := 3) (j := 4) (by rfl) sc__law_shape.nd rfl rfl (by decide) rfl rfl (pa_cons (own_call O__law_names hr (by first | decide | omega) (pa_cons (pv 0) (pa_cons (pe_op op_add (pv 1) (pv 2)) pa_nil))) (pa_cons (pe_lst pa_nil) pa_nil)) (by rfl))
      (pss_cons (ps_for PassesOwn.never rfl (pi_list (pe_slice sl_list (pv 3) (po_some (pv 1)) (po_some (pe_op op_add (pe_op op_add (pv 1) pe_int) (own_call O__law_draw hr (by first | decide | omega) (pa_cons (pv 0) (pa_cons (pv 2) pa_nil))))))) (pg_name (i := 5) sc__law_shape.nd rfl (Or.inl rfl)) (pss_cons (ps_par (i := 6) (j := 7) (by rfl) sc__law_shape.nd rfl rfl (by decide) rfl rfl (pa_cons (own_call O__law_pick hr (by first | decide | omega) (pa_cons (pv 0) (pa_cons (pe_slice sl_list (pv 3) po_none (po_some (pv 1))) pa_nil))) (pa_cons (own_call O__law_pick hr (by first | decide | omega) (pa_cons (pv 0) (pa_cons (pe_slice sl_list (pv 3) po_none (po_some (pv 1))) pa_nil))) pa_nil)) (by rfl))
      (pss_one (ps_expr (pe_bm PySem.F.plainAttrs_list PySem.F.slot_list_append PySem.F.type_list_append mt_append (pv 4) (pa_cons (pe_tup (pa_cons (pv 5) (pa_cons (pv 6) (pa_cons (pv 7) (pa_cons (pe_ix (ixL K) (pe_lst (pa_cons pe_str (pa_cons pe_str (pa_cons pe_str pa_nil)))) (own_call O__law_draw hr (by first | decide | omega) (pa_cons (pv 0) (pa_cons pe_int pa_nil))) (fun _ _ => rfl)) pa_nil))))) pa_nil))))))
      (pss_cons (ps_setLc (i := 8) (own := [("_law_name", 5)]) (g := gName 5) (by rfl) sc__law_shape.nd rfl rfl (sw_true rfl rfl rfl (by decide +kernel)) (pi_list (pe_slice sl_list (pv 3) po_none (po_some (pv 1)))) (blkOk_by (own := [("_law_name", 5)]) (N := N__law_shape) (sc := defScope s__law_shape) (by decide +kernel)) (fun _ _ _ _ _ => (pg_name (i := 5) sc__law_shape.nd rfl (Or.inl rfl) (Or.inr rfl))) (fun _ _ _ _ _ => pts_nil) (fun _ _ _ _ _ => (pe_tup (pa_cons (pv 5) (pa_cons (pe_cmpR op_gt (own_call O__law_draw hr (by first | decide | omega) (pa_cons (pv 0) (pa_cons pe_int pa_nil))) pe_int (nomark _)) pa_nil)))))
      (pss_one (ps_ret (pe_disp (pps_cons pe_str (pv 8) (pps_cons pe_str (pv 4) (pps_cons pe_str (pe_lst pa_nil) pps_nil))) (by rfl) (by rfl) (fun z => by cases z) (by decide))))))), ?_⟩
    walk_at "ls"
    refine ⟨S, L, n, m + c, rfl, hst, by omega, by omega, fun H1 pw ts tl tok hpw h1 st1 od1 => ?_⟩
    refine ⟨Nat.zero_le _, fun ca hca => ?_⟩
    refine ⟨_, _, rfl, ?_⟩
    have npw := hst.noneS hpw
    have hca0 : H ca = none := by
      cases e : H ca with
      | none => rfl
      | some o => rw [od1 _ _ (st1.noneS hca).1 (st1.noneS hca).2 e] at hca; cases hca
    have nca := st1.noneS hca
    have ncw : pw ≠ ca := ne_of_none h1 hca
    -- the slice of the columns' names
    walk_at "ls"
    refine ⟨S, L, n + 12 * (m + c), (c : Int), rfl, st1.upd nca.1 nca.2, by omega, by omega, by omega, fun H2 r r0 r1 st2 od2 => ?_⟩
    walk_at "ls"
    have h2 : H2 pw = some (.lst (ts.map V.str)) := od2 _ _ npw.1 npw.2 (by rw [upd_ne ncw]; exact h1)
    have h2c : H2 ca = some (.lst []) := od2 _ _ nca.1 nca.2 upd_same
    refine ⟨pw, _, rfl, .inl (.inl h2), fun sa hsa => ?_⟩
    have nsa := st2.noneS hsa
    have nsw : pw ≠ sa := ne_of_none h2 hsa
    have nsc : ca ≠ sa := ne_of_none h2c hsa
    obtain ⟨r, rfl⟩ := Int.eq_ofNat_of_zero_le r0
    have ecut : cutV (ts.map V.str) (some (m : Int)) (some ((m : Int) + 1 + (r : Int))) = (((ts.drop m).take (1 + r)).map V.str) := by
      have := cut_mid (ts.map V.str) m (1 + r) (by rw [List.length_map]; omega)
      rw [show ((m : Int) + 1 + (r : Int)) = ((m + (1 + r) : Nat) : Int) by omega, this, List.map_take, List.map_drop]
    refine at_heap (φ := fun H3 => Stm H3 S L (n + 12 * (m + c) + 1) ∧ Old S L H H3 ∧ H3 pw = some (.lst (ts.map V.str)) ∧ H3 ca = some (.lst []) ∧ H3 sa = some (.lst (((ts.drop m).take (1 + r)).map V.str)))
      ⟨st2.upd nsa.1 nsa.2, ((od1.trans (.new hca)).trans od2).trans (.new hsa), (by rw [upd_ne nsw]; exact h2), (by rw [upd_ne nsc]; exact h2c), (by rw [← ecut]; exact upd_same)⟩ ?_
    rintro H3 ⟨st3, od3, h3, h3c, h3s⟩
    refine ⟨sa, rfl, ⟨_, .inl (.inl h3s)⟩, ?_⟩
    have lC : ((ts.drop m).take (1 + r)).length ≤ c := by rw [List.length_take, List.length_drop]; omega
    refine for_it (walk_list (xs := (((ts.drop m).take (1 + r)).map V.str))) (fun i σ H4 => ∃ (cs : List (Str × Str × Str × Bool)) (cx : List V) (v5 v6 v7 : Option V), σ = [some (.ref S), some (.int (m : Int)), some (.int (c : Int)), some (.ref pw), some (.ref ca), v5, v6, v7, none] ∧
        cs.map (·.1) = ((ts.drop m).take (1 + r)).take i ∧ (∀ d ∈ cs, d.2.1 ∈ ts.take m ∧ d.2.2.1 ∈ ts.take m) ∧ H4 ca = some (.lst cx) ∧ TupsAt H4 cx (cs.map colV) ∧ Stm H4 S L (n + 12 * (m + c) + 1 + 3 * i) ∧ Old S L H H4 ∧
        H4 pw = some (.lst (ts.map V.str)) ∧ H4 sa = some (.lst (((ts.drop m).take (1 + r)).map V.str)))
      ⟨[], [], none, none, none, rfl, rfl, (fun _ h => nomatch h), h3c, .nil, st3, od3, h3, h3s⟩ (fun i σ H4 _ ⟨_, _, _, _, _, _, _, _, _, _, _, _, _, hs⟩ => .inl (.inl hs)) ?_ ?_
    · rintro i x σ Hz H4 hi ⟨cs, cx, v5, v6, v7, rfl, ecs, hcs, h4c, h4t, st4, od4, h4, h4s⟩ ⟨rfl, hx⟩
      obtain ⟨z, rfl⟩ := str_at hx
      rw [List.length_map] at hi
      walk_at "ls"
      -- home
      refine ⟨pw, _, rfl, .inl (.inl h4), fun p1 hp1 => ?_⟩
      have n1 := st4.noneS hp1
      have n1w : pw ≠ p1 := ne_of_none h4 hp1
      rw [cut_take, ← List.map_take]
      refine ⟨S, L, p1, _, _, rfl, st4.upd n1.1 n1.2, by omega, .inl (.inl upd_same), n1.1, n1.2, ?_, ?_, fun H5 v hv st5 od5 => ?_⟩
      · rw [List.length_map, List.length_take]
        omega
      · rw [List.length_map, List.length_take]
        omega
      obtain ⟨hm, hhm, rfl⟩ := List.mem_map.mp hv
      have h5 : H5 pw = some (.lst (ts.map V.str)) := od5 _ _ npw.1 npw.2 (by rw [upd_ne n1w]; exact h4)
      walk_at "ls"
      -- goal
      refine ⟨pw, _, rfl, .inl (.inl h5), fun p2 hp2 => ?_⟩
      have n2 := st5.noneS hp2
      have n2w : pw ≠ p2 := ne_of_none h5 hp2
      rw [cut_take, ← List.map_take]
      refine ⟨S, L, p2, _, _, rfl, st5.upd n2.1 n2.2, by omega, .inl (.inl upd_same), n2.1, n2.2, ?_, ?_, fun H6 v2 hv2 st6 od6 => ?_⟩
      · rw [List.length_map, List.length_take]
        omega
      · rw [List.length_map, List.length_take]
        omega
      obtain ⟨gl, hgl, rfl⟩ := List.mem_map.mp hv2
      have k46 : Old S L H4 H6 := (((Old.new hp1).trans od5).trans (.new hp2)).trans od6
      have h6c := k46 _ _ nca.1 nca.2 h4c
      refine ⟨_, _, rfl, ?_⟩
      walk_at "ls"
      refine ⟨(by show 3 ≤ sizeLine; decide), fun p3 hp3 => ?_⟩
      have n3 := st6.noneS hp3
      walk_at "ls"
      refine ⟨S, L, _, 3, rfl, st6.upd n3.1 n3.2, by omega, by decide, by decide, fun H7 q0 q1 q2 st7 od7 => ?_⟩
      obtain ⟨b, hb⟩ := rule_at q1 q2
      refine ⟨_, _, _, _, rfl, rfl, .inl (.inl (od7 _ _ n3.1 n3.2 upd_same)), hb, ?_⟩
      refine ⟨(by show 4 ≤ sizeLine; decide), fun t ht => ?_⟩
      have k47 : Old S L H4 H7 := (k46.trans (.new hp3)).trans od7
      have h7c := k47 _ _ nca.1 nca.2 h4c
      have nct : ca ≠ t := ne_of_none h7c ht
      have nt := st7.noneS ht
      refine ⟨_, _, _, rfl, rfl, (by rw [upd_ne nct]; exact h7c), ?_, ?_⟩
      · have := h4t.len
        have e2 : cs.length = i := by
          have := congrArg List.length ecs
          rw [List.length_map, List.length_take, Nat.min_eq_left (by omega)] at this
          exact this
        rw [List.length_map] at this
        exact small1000 (by omega)
      · have kt : TK H4 (upd (upd H7 t (.tup [.str z, .str hm, .str gl, .str (ruleS b)])) ca (.lst (cx ++ [.ref t]))) := ((TK.old st4 k47).trans (.new ht)).trans (.lst (by rw [upd_ne nct]; exact h7c))
        refine ⟨cs ++ [(z, hm, gl, b)], cx ++ [.ref t], _, _, _, rfl, ?_, ?_, upd_same, ?_, ?_, ?_, ?_, ?_⟩
        · have hz : ((ts.drop m).take (1 + r))[i]? = some z := by
            rw [List.getElem?_map] at hx
            cases e : ((ts.drop m).take (1 + r))[i]? with
            | none => rw [e] at hx; cases hx
            | some y => rw [e] at hx; cases hx; rfl
          rw [List.map_append, ecs, List.take_add_one, hz]
          rfl
        · exact all_snoc hcs ⟨hhm, hgl⟩
        · rw [List.map_append]
          exact (h4t.keep kt).snoc ⟨t, rfl, by rw [upd_ne nct.symm]; exact upd_same⟩
        · exact ((st7.mono (by omega)).upd nt.1 nt.2).upd nca.1 nca.2
        · exact ((od4.trans k47).trans (.new ht)).set hca0
        · rw [upd_ne ncw, upd_ne (ne_of_none (k47 _ _ npw.1 npw.2 h4) ht)]
          exact k47 _ _ npw.1 npw.2 h4
        · rw [upd_ne nsc.symm, upd_ne (ne_of_none (k47 _ _ nsa.1 nsa.2 h4s) ht)]
          exact k47 _ _ nsa.1 nsa.2 h4s
    · rintro σ H4 ⟨cs, cx, v5, v6, v7, rfl, ecs, hcs, h4c, h4t, st4, od4, h4, h4s⟩
      rw [List.length_map, List.take_length] at ecs
      rw [List.length_map] at st4
      walk_at "ls"
      refine ⟨pw, _, rfl, .inl (.inl h4), fun sk hsk => ?_⟩
      have nsk := st4.noneS hsk
      rw [cut_take, ← List.map_take]
      have nskw : pw ≠ sk := ne_of_none h4 hsk
      have nskc : ca ≠ sk := ne_of_none h4c hsk
      refine ⟨sk, rfl, ⟨_, .inl (.inl upd_same)⟩, fun D hD => ?_⟩
      have st5 := st4.upd (o := .lst ((ts.take m).map V.str)) nsk.1 nsk.2
      have nD := st5.noneS hD
      have nDk : sk ≠ D := ne_of_none upd_same hD
      have od4s : Old S L H (upd H4 sk (.lst ((ts.take m).map V.str))) := od4.trans (.new hsk)
      have h5c : (upd H4 sk (.lst ((ts.take m).map V.str))) ca = some (.lst cx) := by rw [upd_ne nskc]; exact h4c
      have nDc : ca ≠ D := ne_of_none h5c hD
      refine lc_it (walk_list (xs := (ts.take m).map V.str)) (fun i H5 => ∃ (ks : List (Str × Bool)) (kx : List V), ks.map (·.1) = (ts.take m).take i ∧ H5 D = some (.lst kx) ∧ TupsAt H5 kx (ks.map kindV) ∧ H5 sk = some (.lst ((ts.take m).map V.str)) ∧ H5 ca = some (.lst cx) ∧
          TupsAt H5 cx (cs.map colV) ∧ Stm H5 S L (n + 12 * (m + c) + 1 + 3 * ((ts.drop m).take (1 + r)).length + i) ∧ Old S L H H5)
        ⟨[], [], rfl, upd_same, .nil, (by rw [upd_ne nDk]; exact upd_same), (by rw [upd_ne nDc]; exact h5c), (h4t.keep (.new hsk)).keep (.new hD), st5.upd nD.1 nD.2, (od4.trans (.new hsk)).trans (.new hD)⟩
        (fun i H5 _ ⟨_, _, _, _, _, h, _⟩ => .inl (.inl h)) ?_ ?_
      · rintro i x Hz H5 hi ⟨ks, kx, eks, h5D, h5t, h5s, h5c, h5ct, st5, od5⟩ ⟨rfl, hx⟩
        obtain ⟨z, rfl⟩ := str_at hx
        rw [List.length_map] at hi
        refine ⟨rfl, ?_⟩
        walk_at "ls"
        have lm : (ts.take m).length ≤ m := by rw [List.length_take]; omega
        refine ⟨S, L, _, 3, rfl, st5, by omega, by decide, by decide, fun H6 q0 q1 q2 st6 od6 => ?_⟩
        walk_at "ls"
        refine ⟨(by show 2 ≤ sizeLine; decide), fun t ht => ?_⟩
        have nt := st6.noneS ht
        have h6D := od6 _ _ nD.1 nD.2 h5D
        have nDt : D ≠ t := ne_of_none h6D ht
        have h6D' : (upd H6 t (.tup [V.str z, V.bl (decide (0 < q0))])) D = some (.lst kx) := by rw [upd_ne nDt]; exact h6D
        have kt : TK H5 (upd (upd H6 t (.tup [V.str z, V.bl (decide (0 < q0))])) D (.lst (kx ++ [.ref t]))) := ((TK.old st5 od6).trans (.new ht)).trans (.lst h6D')
        have ek : ks.length = i := by
          have := congrArg List.length eks
          rw [List.length_map, List.length_take, Nat.min_eq_left (by omega)] at this
          exact this
        have hkl : kx.length = i := by rw [h5t.len, List.length_map, ek]
        have hz : (ts.take m)[i]? = some z := by
          rw [List.getElem?_map] at hx
          cases e : (ts.take m)[i]? with
          | none => rw [e] at hx; cases hx
          | some y => rw [e] at hx; cases hx; rfl
        have h6s := od6 _ _ nsk.1 nsk.2 h5s
        have h6c := od6 _ _ nca.1 nca.2 h5c
        have lm : (ts.take m).length ≤ m := by rw [List.length_take]; omega
        refine ⟨kx, h6D', small1000 (by omega), ks ++ [(z, decide (0 < q0))], kx ++ [.ref t], ?_, upd_same, ?_, ?_, ?_, h5ct.keep kt, ?_, ?_⟩
        · rw [List.map_append, eks, List.take_add_one, hz]
          rfl
        · rw [List.map_append]
          exact (h5t.keep kt).snoc ⟨t, rfl, by rw [upd_ne nDt.symm]; exact upd_same⟩
        · rw [upd_ne nDk, upd_ne (ne_of_none h6s ht)]
          exact h6s
        · rw [upd_ne nDc, upd_ne (ne_of_none h6c ht)]
          exact h6c
        · exact ((st6.mono (by omega)).upd nt.1 nt.2).upd nD.1 nD.2
        · exact ((od5.trans od6).trans (.new ht)).set (od4s.none hD nD)
      · rintro H5 ⟨ks, kx, eks, h5D, h5t, h5s, h5c, h5ct, st5, od5⟩
        rw [List.length_map, List.take_length] at eks
        rw [List.length_map] at st5
        intro b hb
        have nb := st5.noneS hb
        have nDb : D ≠ b := ne_of_none h5D hb
        have ncb : ca ≠ b := ne_of_none h5c hb
        walk_at "ls"
        refine ⟨Nat.zero_le _, fun ea hea => ?_⟩
        have neb : b ≠ ea := ne_of_none upd_same hea
        have nea := (st5.upd nb.1 nb.2).noneS hea
        have nDe : D ≠ ea := ne_of_none (show (upd H5 b (.dK [])) D = _ by rw [upd_ne nDb]; exact h5D) hea
        have nce : ca ≠ ea := ne_of_none (show (upd H5 b (.dK [])) ca = _ by rw [upd_ne ncb]; exact h5c) hea
        refine ⟨(by rw [upd_ne neb]; exact upd_same), [(.inr "kinds", .ref D), (.inr "columns", .ref ca), (.inr "checks", .ref ea)], rfl, (by show 3 ≤ 15; decide), ?_⟩
        have lm : (ts.take m).length = m := by rw [List.length_take]; omega
        have elk : ks.length = m := by
          have := congrArg List.length eks
          rw [List.length_map, lm] at this
          exact this
        have elc : cs.length ≤ c := by
          have := congrArg List.length ecs
          rw [List.length_map] at this
          omega
        have elc0 : 0 < cs.length := by
          have := congrArg List.length ecs
          rw [List.length_map, List.length_take, List.length_drop] at this
          omega
        have emb : ∀ z ∈ (ks.map (·.1) ++ cs.map (·.1)), z ∈ ts := by
          rw [eks, ecs]
          intro z hz
          rcases List.mem_append.mp hz with h | h
          · exact List.mem_of_mem_take h
          · exact List.mem_of_mem_drop (List.mem_of_mem_take h)
        have kt : TK H5 (upd (upd (upd H5 b (.dK [])) ea (.lst [])) b (.dK (mergeK [] [(.inr "kinds", .ref D), (.inr "columns", .ref ca), (.inr "checks", .ref ea)]))) :=
          ((TK.new hb).trans (.new hea)).trans (.dK (by rw [upd_ne neb]; exact upd_same))
        refine q _ b ⟨ks, cs⟩ ⟨by show 0 < ks.length; omega, by show ks.length ≤ 3; omega, by show cs.length ≤ 8; omega, ?_, fun z hz => tok.2 z (emb z hz), fun d hd => by show d.2.1 ∈ ks.map (·.1); rw [eks]; exact (hcs d hd).1, fun d hd => by show d.2.2.1 ∈ ks.map (·.1); rw [eks]; exact (hcs d hd).2, elc0⟩
          elk elc (od5.none hb nb) ⟨D, ca, ea, kx, cx, upd_same, ?_, h5t.keep kt, ?_, h5ct.keep kt, ?_, nD, nca, nea⟩ ?_ ?_
        · show (ks.map (·.1) ++ cs.map (·.1)).Nodup
          rw [eks, ecs]
          have nd := tok.1
          rw [← List.take_append_drop m ts] at nd
          have h1 := List.nodup_append.mp nd
          refine List.nodup_append.mpr ⟨h1.1, h1.2.1.sublist (List.take_sublist _ _), fun x hx y hy => h1.2.2 x hx y (List.mem_of_mem_take hy)⟩
        · rw [upd_ne nDb, upd_ne nDe, upd_ne nDb]
          exact h5D
        · rw [upd_ne ncb, upd_ne nce, upd_ne ncb]
          exact h5c
        · rw [upd_ne neb.symm]
          exact upd_same
        · exact (((st5.mono (by omega)).upd nb.1 nb.2).upd nea.1 nea.2).upd nb.1 nb.2
        · exact ((od5.trans (.new hb)).trans (.new hea)).set (od5.none hb nb)
end
end Ls
namespace Ls
open PySem PySem.Spec PyProof.Rows L2
/-! ### short steps -/
local macro_rules | `(tactic| walk_at "ls_ne") => `(tactic| first | assumption | exact Ne.symm (by assumption) | exact ne_of_none (by assumption) (by assumption) | exact Ne.symm (ne_of_none (by assumption) (by assumption)))
local macro_rules | `(tactic| walk_at "ls_hp") => `(tactic| first
  | with_reducible assumption
  | exact upd_same
  | exact Eq.trans (upd_ne (by walk_at "ls_ne")) (by walk_at "ls_hp"))
local macro_rules | `(tactic| walk_at "ls_st") => `(tactic| first
  | with_reducible assumption
  | exact Stm.upd (by walk_at "ls_st") (by first | walk_at "ls_ne" | exact (Stm.noneS (by assumption) (by assumption)).1) (by first | walk_at "ls_ne" | exact (Stm.noneS (by assumption) (by assumption)).2))
local macro_rules | `(tactic| walk_at "ls1") => `(tactic| first
  | refine ⟨_, rfl, ?_⟩
  | refine ⟨_, _, rfl, rfl, ?_⟩
  | refine ⟨_, _, _, _, rfl, rfl, .inl (.inl (by walk_at "ls_hp")), rfl, ?_⟩
  | refine ⟨_, _, _, _, rfl, rfl, (by walk_at "ls_hp"), rfl, ?_⟩
  | refine ⟨rfl, _, rfl, ?_⟩
  | refine ⟨.inl ⟨rfl, _, .inl (.inl (by walk_at "ls_hp"))⟩, ?_⟩)
local macro_rules | `(tactic| walk_at "ls") => `(tactic| repeat (walk_at "ls1"))

/-! ### the menu -/
def colW : List Str := ["put", "turn", "keep", "hold", "again"]
def kindW : List Str := ["bare", "calm", "again"]
def bookW : List Str := ["lone", "fresh"]
def withN (ws : List Str) (z : Str) : List Str := ws.map fun a => a ++ " " ++ z
def menu (B : Shp) : List Str := ((B.cs.flatMap fun c => withN colW c.1) ++ B.ks.flatMap fun k => withN kindW k.1) ++ bookW
def addN (z : Str) : V → Option V
  | .str a => some (.str (a ++ " " ++ z))
  | _ => none
theorem addN_all (z : Str) : ∀ ws : List Str, (ws.map V.str).filterMap (addN z) = (withN ws z).map V.str
  | [] => rfl
  | a :: r => by
    rw [List.map_cons, List.filterMap_cons]
    show V.str (a ++ " " ++ z) :: (r.map V.str).filterMap (addN z) = _
    rw [addN_all z r]
    rfl
theorem cat_len (a b : Str) : (a ++ b).length = a.length + b.length := Array.size_append
theorem flat_len {α : Type} (f : α → List Str) (k : Nat) (h : ∀ x, (f x).length = k) : ∀ l : List α, (l.flatMap f).length = k * l.length
  | [] => by simp
  | a :: r => by rw [List.flatMap_cons, List.length_append, flat_len f k h r, h, List.length_cons, Nat.mul_succ]; omega
theorem menu_len (B : Shp) : (menu B).length = 5 * B.cs.length + 3 * B.ks.length + 2 := by
  unfold menu
  rw [List.length_append, List.length_append, flat_len _ 5 (fun c => by rw [withN, List.length_map]; rfl), flat_len _ 3 (fun c => by rw [withN, List.length_map]; rfl)]
  rfl
theorem TupsAt.get {H : Hp} : ∀ {xs : List V} {yss : List (List V)} {i : Nat} {x : V}, TupsAt H xs yss → xs[i]? = some x → ∃ ys, yss[i]? = some ys ∧ TupOf H x ys
  | _, _, _, _, .nil, e => by simp at e
  | _, _, 0, x, .cons r _, e => by simp at e; subst e; exact ⟨_, rfl, r⟩
  | _, _, i + 1, x, .cons _ t, e => by
    obtain ⟨u, h1, h2⟩ := TupsAt.get (i := i) (x := x) t (by simpa using e)
    exact ⟨u, by simpa using h1, h2⟩
theorem map_get {α β : Type} {f : α → β} {l : List α} {i : Nat} {y : β} (h : (l.map f)[i]? = some y) : ∃ x, l[i]? = some x ∧ y = f x := by
  rw [List.getElem?_map] at h
  cases e : l[i]? with
  | none => rw [e] at h; cases h
  | some x => rw [e] at h; exact ⟨x, rfl, (Option.some.inj h).symm⟩
theorem colW_len : ∀ a ∈ colW, a.length ≤ 5 := by decide +kernel
theorem kindW_len : ∀ a ∈ kindW, a.length ≤ 5 := by decide +kernel
theorem room_str {a b : Str} {n m : Nat} (h1 : a.length ≤ n) (h2 : b.length ≤ m) (h3 : n + m ≤ 1000) : a.length + b.length ≤ sizeLine := Nat.le_trans (by omega) (show 1000 ≤ sizeLine by decide)
theorem word_len {a : Str} (h : a.length ≤ 5) : (a ++ " ").length ≤ 6 := by
  rw [cat_len]
  have : (" " : Str).length = 1 := by decide +kernel
  omega
theorem flat_snoc {α : Type} {f : α → List Str} {l : List α} {i : Nat} {c : α} (h : l[i]? = some c) : ((l.take (i + 1)).flatMap f) = (l.take i).flatMap f ++ f c := by
  rw [List.take_add_one, h, List.flatMap_append]
  simp
/-! ### the record's three lists -/
theorem nkc : ¬ ((Sum.inr ("kinds" : Str) : Key) = Sum.inr ("columns" : Str)) := by decide +kernel
theorem nkh : ¬ ((Sum.inr ("kinds" : Str) : Key) = Sum.inr ("checks" : Str)) := by decide +kernel
theorem nch : ¬ ((Sum.inr ("columns" : Str) : Key) = Sum.inr ("checks" : Str)) := by decide +kernel
section
variable {H : Hp} {b : Addr} {x y z : V}
theorem dg {k : Key} {v : V} {kvs : List (Key × V)} (h : H b = some (.dK kvs)) (e : valV kvs k = some v) : DGet H b (kV k) (some v) := by rw [← e]; exact DGet.k h
theorem dg_kinds (h : H b = some (.dK [(.inr "kinds", x), (.inr "columns", y), (.inr "checks", z)])) : DGet H b (.str "kinds") (some x) := dg (k := .inr "kinds") h (valV_pos rfl)
theorem dg_columns (h : H b = some (.dK [(.inr "kinds", x), (.inr "columns", y), (.inr "checks", z)])) : DGet H b (.str "columns") (some y) := dg (k := .inr "columns") h (by rw [valV_neg nkc]; exact valV_pos rfl)
theorem dg_checks (h : H b = some (.dK [(.inr "kinds", x), (.inr "columns", y), (.inr "checks", z)])) : DGet H b (.str "checks") (some z) := dg (k := .inr "checks") h (by rw [valV_neg nkh, valV_neg nch]; exact valV_pos rfl)
end
section
variable {P : Program} {w : World} {K : PySem.W.Frag} {mg : Str → Option Value} {base : Heap}
abbrev s__law_all_checks : Stmt := topS 58
theorem sc__law_all_checks : FnScope ["_law_b", "_law_found", "_law_column", "_law_kind", "_law_word"] ["_law_b"] (defScope s__law_all_checks) := ⟨rfl, rfl, rfl, by decide +kernel, rfl, by decide +kernel, by decide +kernel⟩
abbrev N__law_all_checks : List Str := ["_law_b", "_law_found", "_law_column", "_law_kind", "_law_word"]
def spAll : Sp := fun vs H Q _ => ∃ (S L b : Addr) (B : Shp) (ck : List Str), vs = [.ref b] ∧ ShpAt S L H b B ck ∧ B.Ok ∧
  ∀ (H' : Hp) (p : Addr), H p = none → H' p = some (.lst ((menu B).map V.str)) → Same H H' → Q (.ref p) H'
theorem ok_all {f : Addr} {fd : FuncData} (F : Fun K "_law_all_checks" "_law_all_checks" s__law_all_checks f fd) (T : Bt mg) : FnOk P w K mg base CX0 1 f fd ["_law_b"] spAll := by
  refine F.ok sc__law_all_checks (fun vs H Q E h => ?_) (fun cdv A outer s H vs Q E hr h => ?_)
  · obtain ⟨S, L, b, B, ck, rfl, _⟩ := h
    rfl
  · obtain ⟨S, L, b, B, ck, rfl, ⟨ka, ca, ea, kx, cx, hb, hka, hkt, hca, hct, hea, _⟩, hB, q⟩ := h
    have hu := hu_of hr
    refine ⟨_, (pss_cons (ps_set (i := 1) sc__law_all_checks.nd rfl (Or.inl rfl) (pe_lst pa_nil))
      (pss_cons (ps_for PassesOwn.never rfl (pi_list (pe_dget hu (pv 0) pe_str (fun _ _ => rfl))) (pg_name (i := 2) sc__law_all_checks.nd rfl (Or.inr rfl)) (pss_one (ps_expr (pe_bm PySem.F.plainAttrs_list PySem.F.slot_list_extend PySem.F.type_list_extend mt_extend (pv 1) (pa_cons (pe_lc (own := [("_law_word", 4)]) (g := gName 4) (by rfl) sc__law_all_checks.nd (pi_list (pe_lst (pa_cons pe_str (pa_cons pe_str (pa_cons pe_str (pa_cons pe_str (pa_cons pe_str pa_nil))))))) (blkOk_by (own := [("_law_word", 4)]) (N := N__law_all_checks) (sc := defScope s__law_all_checks) (by decide +kernel)) (fun _ _ _ _ _ => (pg_name (i := 4) sc__law_all_checks.nd rfl (Or.inl rfl) (Or.inr rfl))) (fun _ _ _ _ _ => pts_nil) (fun _ _ _ _ _ => (pe_op op_add_str (pe_op op_add_str (pv 4) pe_str) (pe_ix (ixT K) (pv 2) pe_int (fun _ _ => rfl))))) pa_nil)))))
      (pss_cons (ps_for PassesOwn.never rfl (pi_list (pe_dget hu (pv 0) pe_str (fun _ _ => rfl))) (pg_name (i := 3) sc__law_all_checks.nd rfl (Or.inr rfl)) (pss_one (ps_expr (pe_bm PySem.F.plainAttrs_list PySem.F.slot_list_extend PySem.F.type_list_extend mt_extend (pv 1) (pa_cons (pe_lc (own := [("_law_word", 4)]) (g := gName 4) (by rfl) sc__law_all_checks.nd (pi_list (pe_lst (pa_cons pe_str (pa_cons pe_str (pa_cons pe_str pa_nil))))) (blkOk_by (own := [("_law_word", 4)]) (N := N__law_all_checks) (sc := defScope s__law_all_checks) (by decide +kernel)) (fun _ _ _ _ _ => (pg_name (i := 4) sc__law_all_checks.nd rfl (Or.inl rfl) (Or.inr rfl))) (fun _ _ _ _ _ => pts_nil) (fun _ _ _ _ _ => (pe_op op_add_str (pe_op op_add_str (pv 4) pe_str) (pe_ix (ixT K) (pv 3) pe_int (fun _ _ => rfl))))) pa_nil)))))
      (pss_one (ps_ret (pe_op op_cat (pv 1) (pe_lst (pa_cons pe_str (pa_cons pe_str pa_nil))))))))), ?_⟩
    refine ⟨Nat.zero_le _, fun p hp => ?_⟩
    walk_at "ls"
    have nbp : b ≠ p := ne_of_none hb hp
    have nca : ca ≠ p := ne_of_none hca hp
    have s0 : Same H (upd H p (.lst [])) := same_new hp
    refine ⟨b, _, rfl, dg_columns (s0 _ _ hb), ca, rfl, ⟨_, .inl (.inl (s0 _ _ hca))⟩, ?_⟩
    refine for_it (walk_list (xs := cx)) (fun i σ H1 => ∃ v : Option V, σ = [some (.ref b), some (.ref p), v, none, none] ∧ H1 p = some (.lst (((B.cs.take i).flatMap fun c => withN colW c.1).map V.str)) ∧ Same H H1)
      ⟨none, rfl, upd_same, s0⟩ (fun i σ H1 _ ⟨_, _, _, s1⟩ => .inl (.inl (s1 _ _ hca))) ?_ ?_
    · rintro i x σ Hz H1 hi ⟨v, rfl, h1, s1⟩ ⟨rfl, hx⟩
      obtain ⟨ys, hys, t, rfl, ht⟩ := TupsAt.get (hct.keep (.same s1)) hx
      obtain ⟨c, hc, rfl⟩ := map_get hys
      have hci : i < B.cs.length := (List.getElem?_eq_some_iff.mp hc).1
      have hnm : c.1.length ≤ 8 := (hB.nm _ (List.mem_append_right _ (List.mem_map_of_mem (List.mem_of_getElem? hc)))).1.2.1
      walk_at "ls"
      refine ⟨(by show 5 ≤ sizeLine; decide), fun w1 hw1 => ?_⟩
      refine ⟨w1, rfl, ⟨_, .inl (.inl upd_same)⟩, fun D hD => ?_⟩
      have nwD : w1 ≠ D := ne_of_none upd_same hD
      have npw : p ≠ w1 := ne_of_none h1 hw1
      have npD : p ≠ D := ne_of_none (by rw [upd_ne npw]; exact h1) hD
      have ntw : t ≠ w1 := ne_of_none ht hw1
      have ntD : t ≠ D := ne_of_none (by rw [upd_ne ntw]; exact ht) hD
      refine lc_pure (walk_list (xs := colW.map V.str)) (colW.map V.str) (addN c.1) rfl (fun i H x H' hi hy => hy) (by decide +kernel) (fun acc => .inl (.inl (by rw [upd_ne nwD]; exact upd_same))) (fun k y hk hy => ?_) ?_
      · obtain ⟨a, ha, rfl⟩ := map_get hy
        have hal : a.length ≤ 5 := colW_len a (List.mem_of_getElem? ha)
        refine ⟨rfl, ?_⟩
        walk_at "ls"
        refine ⟨room_str (m := 1) hal (by decide +kernel) (by decide), ?_⟩
        walk_at "ls"
        refine ⟨room_str (n := 6) (m := 8) (word_len hal) hnm (by decide), ?_⟩
        exact lc_yes hy hk (by decide +kernel) rfl
      rw [addN_all]
      refine ⟨_, _, _, _, rfl, rfl, (by rw [upd_ne npD, upd_ne npw]; exact h1), upd_same, ?_, ?_⟩
      · rw [List.length_map, List.length_map, flat_len _ 5 (fun c => by rw [withN, List.length_map]; rfl), withN, List.length_map, List.length_take]
        have := hB.nc
        show 5 * _ + 5 ≤ sizeLine
        exact Nat.le_trans (by omega) (show 1000 ≤ sizeLine by decide)
      · refine ⟨_, rfl, ?_, ?_⟩
        · rw [upd_same, flat_snoc hc, List.map_append]
        · intro u o e
          have nup : u ≠ p := ne_of_none e hp
          have e1 := s1 _ _ e
          have nuw : u ≠ w1 := ne_of_none e1 hw1
          rw [upd_ne nup, upd_ne (ne_of_none (by rw [upd_ne nuw]; exact e1) hD), upd_ne nuw]
          exact e1
    · rintro σ H1 ⟨v, rfl, h1, s1⟩
      have e1 : B.cs.take cx.length = B.cs := by
        have := hct.len
        rw [List.length_map] at this
        rw [this, List.take_length]
      rw [e1] at h1
      walk_at "ls"
      refine ⟨b, _, rfl, dg_kinds (s1 _ _ hb), ka, rfl, ⟨_, .inl (.inl (s1 _ _ hka))⟩, ?_⟩
      refine for_it (walk_list (xs := kx)) (fun i σ H1 => ∃ v v3 : Option V, σ = [some (.ref b), some (.ref p), v, v3, none] ∧ H1 p = some (.lst (((B.cs.flatMap fun c => withN colW c.1) ++ (B.ks.take i).flatMap fun c => withN kindW c.1).map V.str)) ∧ Same H H1)
        ⟨v, none, rfl, (by rw [List.take_zero, List.flatMap_nil, List.append_nil]; exact h1), s1⟩ (fun i σ H1 _ ⟨_, _, _, _, s1⟩ => .inl (.inl (s1 _ _ hka))) ?_ ?_
      · clear h1 s1 v
        rintro i x σ Hz H1 hi ⟨v, v3, rfl, h1, s1⟩ ⟨rfl, hx⟩
        obtain ⟨ys, hys, t, rfl, ht⟩ := TupsAt.get (hkt.keep (.same s1)) hx
        obtain ⟨c, hc, rfl⟩ := map_get hys
        have hci : i < B.ks.length := (List.getElem?_eq_some_iff.mp hc).1
        have hnm : c.1.length ≤ 8 := (hB.nm _ (List.mem_append_left _ (List.mem_map_of_mem (List.mem_of_getElem? hc)))).1.2.1
        walk_at "ls"
        refine ⟨(by show 3 ≤ sizeLine; decide), fun w1 hw1 => ?_⟩
        refine ⟨w1, rfl, ⟨_, .inl (.inl upd_same)⟩, fun D hD => ?_⟩
        have nwD : w1 ≠ D := ne_of_none upd_same hD
        have npw : p ≠ w1 := ne_of_none h1 hw1
        have npD : p ≠ D := ne_of_none (by rw [upd_ne npw]; exact h1) hD
        have ntw : t ≠ w1 := ne_of_none ht hw1
        have ntD : t ≠ D := ne_of_none (by rw [upd_ne ntw]; exact ht) hD
        refine lc_pure (walk_list (xs := kindW.map V.str)) (kindW.map V.str) (addN c.1) rfl (fun i H x H' hi hy => hy) (by decide +kernel) (fun acc => .inl (.inl (by rw [upd_ne nwD]; exact upd_same))) (fun k y hk hy => ?_) ?_
        · obtain ⟨a, ha, rfl⟩ := map_get hy
          have hal : a.length ≤ 5 := kindW_len a (List.mem_of_getElem? ha)
          refine ⟨rfl, ?_⟩
          walk_at "ls"
          refine ⟨room_str (m := 1) hal (by decide +kernel) (by decide), ?_⟩
          walk_at "ls"
          refine ⟨room_str (n := 6) (m := 8) (word_len hal) hnm (by decide), ?_⟩
          exact lc_yes hy hk (by decide +kernel) rfl
        rw [addN_all]
        refine ⟨_, _, _, _, rfl, rfl, (by rw [upd_ne npD, upd_ne npw]; exact h1), upd_same, ?_, ?_⟩
        · rw [List.length_map, List.length_append, List.length_map, flat_len _ 5 (fun c => by rw [withN, List.length_map]; rfl), flat_len _ 3 (fun c => by rw [withN, List.length_map]; rfl), withN, List.length_map, List.length_take]
          have := hB.nc
          have := hB.nk3
          show 5 * _ + 3 * _ + 3 ≤ sizeLine
          exact Nat.le_trans (by omega) (show 1000 ≤ sizeLine by decide)
        · refine ⟨_, _, rfl, ?_, ?_⟩
          · rw [upd_same, flat_snoc hc, List.map_append, List.map_append, List.map_append, List.append_assoc]
          · intro u o e
            have nup : u ≠ p := ne_of_none e hp
            have e1 := s1 _ _ e
            have nuw : u ≠ w1 := ne_of_none e1 hw1
            rw [upd_ne nup, upd_ne (ne_of_none (by rw [upd_ne nuw]; exact e1) hD), upd_ne nuw]
            exact e1
      · clear h1 s1 v
        rintro σ H1 ⟨v, v3, rfl, h1, s1⟩
        have e2 : B.ks.take kx.length = B.ks := by
          have := hkt.len
          rw [List.length_map] at this
          rw [this, List.take_length]
        rw [e2] at h1
        walk_at "ls"
        refine ⟨(by show 2 ≤ sizeLine; decide), fun p2 hp2 => ?_⟩
        have np2 : p ≠ p2 := ne_of_none h1 hp2
        refine ⟨_, _, _, _, rfl, rfl, (by rw [upd_ne np2]; exact h1), upd_same, ?_, fun p3 hp3 => ?_⟩
        · have l1 := flat_len (fun c : Str × Str × Str × Bool => withN colW c.1) 5 (fun c => by show (withN colW c.1).length = 5; rw [withN, List.length_map]; rfl) B.cs
          have l2 := flat_len (fun c : Str × Bool => withN kindW c.1) 3 (fun c => by show (withN kindW c.1).length = 3; rw [withN, List.length_map]; rfl) B.ks
          have := hB.nc
          have := hB.nk3
          rw [List.length_map, List.length_append, l1, l2]
          refine Nat.le_trans ?_ (show 1000 ≤ sizeLine by decide)
          show _ + 2 ≤ 1000
          omega
        · have s2 : Same H (upd H1 p2 (.lst [.str "lone", .str "fresh"])) := s1.trans (same_new hp2)
          refine q _ p3 (s2.free hp3) ?_ (s2.trans (same_new hp3))
          rw [upd_same]
          unfold menu
          rw [List.map_append (l₂ := bookW)]
          rfl
/-! ### _law_checked -/
abbrev s__law_checked : Stmt := topS 59
theorem sc__law_checked : FnScope ["_law_stream", "_law_b", "_law_share", "_law_checks", "_law_check"] ["_law_stream", "_law_b"] (defScope s__law_checked) := ⟨rfl, rfl, rfl, by decide +kernel, rfl, by decide +kernel, by decide +kernel⟩
abbrev N__law_checked : List Str := ["_law_stream", "_law_b", "_law_share", "_law_checks", "_law_check"]
def spChecked : Sp := fun vs H Q _ => ∃ (S L b : Addr) (n : Nat) (B : Shp) (ck : List Str), vs = [.ref S, .ref b] ∧ Stm H S L n ∧ n ≤ 9990000 ∧ ShpAt S L H b B ck ∧ B.Ok ∧
  ∀ (H' : Hp) (p : Addr) (ck' : List Str), H p = none → ck'.Sublist (menu B) → ShpAt S L H' p B ck' → Stm H' S L (n + 60) → Old S L H H' → Q (.ref p) H'
theorem share_at {i : Int} (h0 : 0 ≤ i) (h1 : i < 6) : ∃ k : Int, atI [V.int 0, V.int 2, V.int 4, V.int 6, V.int 9, V.int 12] i = some (.int k) := by
  obtain ⟨n, rfl⟩ := Int.eq_ofNat_of_zero_le h0
  match n, h1 with
  | 0, _ => exact ⟨0, rfl⟩
  | 1, _ => exact ⟨2, rfl⟩
  | 2, _ => exact ⟨4, rfl⟩
  | 3, _ => exact ⟨6, rfl⟩
  | 4, _ => exact ⟨9, rfl⟩
  | 5, _ => exact ⟨12, rfl⟩
  | k + 6, h => omega
theorem sub_snoc {α : Type} {l m : List α} {x : α} (h : l.Sublist m) : (l ++ [x]).Sublist (m ++ [x]) := List.Sublist.append h (List.Sublist.refl _)
theorem sub_skip {α : Type} {l m : List α} {x : α} (h : l.Sublist m) : l.Sublist (m ++ [x]) := h.trans (List.sublist_append_left _ _)
theorem ok_checked {f : Addr} {fd : FuncData} (F : Fun K "_law_checked" "_law_checked" s__law_checked f fd) (T : Bt mg) (O__law_draw : Own P w K mg base CX0 1 "_law_draw" ["_law_stream", "_law_many"] spDraw)
    (O__law_all_checks : Own P w K mg base CX0 1 "_law_all_checks" ["_law_b"] spAll) : FnOk P w K mg base CX0 2 f fd ["_law_stream", "_law_b"] spChecked := by
  refine F.ok sc__law_checked (fun vs H Q E h => ?_) (fun cdv A outer s H vs Q E hr h => ?_)
  · obtain ⟨S, L, b, n, B, ck, rfl, _⟩ := h
    rfl
  · obtain ⟨S, L, b, n, B, ck, rfl, hst, hn, hs, hB, q⟩ := h
    have hu := hu_of hr
    refine ⟨_, (pss_cons (ps_set (i := 2) sc__law_checked.nd rfl (Or.inr rfl) (pe_ix (ixL K) (pe_lst (pa_cons pe_int (pa_cons pe_int (pa_cons pe_int (pa_cons pe_int (pa_cons pe_int (pa_cons pe_int pa_nil))))))) (own_call O__law_draw hr (by first | decide | omega) (pa_cons (pv 0) (pa_cons pe_int pa_nil))) (fun _ _ => rfl)))
      (pss_cons (ps_setLc (i := 3) (own := [("_law_check", 4)]) (g := gName 4) (by rfl) sc__law_checked.nd rfl rfl (sw_true rfl rfl rfl (by decide +kernel)) (pi_list (own_call O__law_all_checks hr (by first | decide | omega) (pa_cons (pv 1) pa_nil))) (blkOk_by (own := [("_law_check", 4)]) (N := N__law_checked) (sc := defScope s__law_checked) (by decide +kernel)) (fun _ _ _ _ _ => (pg_name (i := 4) sc__law_checked.nd rfl (Or.inl rfl) (Or.inr rfl))) (fun _ _ _ _ _ => (pts_one (pt_cmpR op_lt (own_call O__law_draw hr (by first | decide | omega) (pa_cons (pv 0) (pa_cons pe_int pa_nil))) (pv 2) (nomark _)))) (fun _ _ _ _ _ => (pv 4)))
      (pss_one (ps_ret (pe_disp (pps_cons pe_str (pe_dget hu (pv 1) pe_str (fun _ _ => rfl)) (pps_cons pe_str (pe_dget hu (pv 1) pe_str (fun _ _ => rfl)) (pps_cons pe_str (pv 3) pps_nil))) (by rfl) (by rfl) (fun z => by cases z) (by decide)))))), ?_⟩
    refine ⟨(by show 6 ≤ sizeLine; decide), fun p0 hp0 => ?_⟩
    have n0 := hst.noneS hp0
    walk_at "ls"
    refine ⟨S, L, n, 6, rfl, hst.upd n0.1 n0.2, by omega, by decide, by decide, fun H1 r r0 r1 st1 od1 => ?_⟩
    obtain ⟨k, hk⟩ := share_at r0 r1
    refine ⟨_, _, _, _, rfl, rfl, .inl (.inl (od1 _ _ n0.1 n0.2 upd_same)), hk, ?_⟩
    have od1' : Old S L H H1 := (Old.new hp0).trans od1
    have hs1 := hs.old hst od1'
    walk_at "ls"
    refine ⟨S, L, b, B, ck, rfl, hs1, hB, fun H2 pm hpm h2 s2 => ?_⟩
    have hs2 := hs1.same s2
    have st2 := st1.keep s2
    have nm := st1.noneS hpm
    refine ⟨pm, rfl, ⟨_, .inl (.inl h2)⟩, fun D hD => ?_⟩
    have nD := st2.noneS hD
    have nmD : pm ≠ D := ne_of_none h2 hD
    have od2 : Old S L H H2 := od1'.trans (.same s2)
    have lm : (menu B).length ≤ 51 := by have := menu_len B; have := hB.nc; have := hB.nk3; omega
    refine lc_it (walk_list (xs := (menu B).map V.str)) (fun i H3 => ∃ cs : List Str, cs.Sublist ((menu B).take i) ∧ H3 D = some (.lst (cs.map V.str)) ∧ H3 pm = some (.lst ((menu B).map V.str)) ∧ Stm H3 S L (n + 1 + i) ∧ Old S L H H3)
      ⟨[], List.Sublist.refl _, upd_same, (by rw [upd_ne nmD]; exact h2), st2.upd nD.1 nD.2, od2.trans (.new hD)⟩ (fun i H3 _ ⟨_, _, _, h, _⟩ => .inl (.inl h)) ?_ ?_
    · rintro i x Hz H3 hi ⟨cs, hcs, h3D, h3m, st3, od3⟩ ⟨rfl, hx⟩
      obtain ⟨z, hz, rfl⟩ := map_get hx
      rw [List.length_map] at hi
      refine ⟨rfl, ?_⟩
      walk_at "ls"
      refine ⟨S, L, _, 12, rfl, st3, by omega, by decide, by decide, fun H4 u u0 u1 st4 od4 => ?_⟩
      have h4D := od4 _ _ nD.1 nD.2 h3D
      have h4m := od4 _ _ nm.1 nm.2 h3m
      walk_at "ls"
      have et : (menu B).take (i + 1) = (menu B).take i ++ [z] := by rw [List.take_add_one, hz]; rfl
      refine ite2 (fun e => ?_) (fun e => ?_)
      · walk_at "ls"
        have lcs : cs.length ≤ i := by have := hcs.length_le; rw [List.length_take] at this; omega
        refine ⟨_, h4D, (by rw [List.length_map]; exact small1000 (by omega)), cs ++ [z], ?_, ?_, ?_, (st4.mono (by omega)).upd nD.1 nD.2, (od3.trans od4).set (od2.none hD nD)⟩
        · rw [et]
          exact sub_snoc hcs
        · rw [upd_same, List.map_append]
          rfl
        · rw [upd_ne nmD]
          exact h4m
      · exact ⟨cs, (by rw [et]; exact sub_skip hcs), h4D, h4m, st4.mono (by omega), od3.trans od4⟩
    · rintro H3 ⟨cs, hcs, h3D, h3m, st3, od3⟩
      rw [List.length_map, List.take_length] at hcs
      obtain ⟨ka, ca, ea, kx, cx, hb, hka, hkt, hca, hct, hea, nk, nc, ne⟩ := hs.old hst od3
      intro p hp
      have np := st3.noneS hp
      have nbp : b ≠ p := ne_of_none hb hp
      have nDp : D ≠ p := ne_of_none h3D hp
      have hb' : (upd H3 p (.dK [])) b = _ := (upd_ne nbp).trans hb
      walk_at "ls"
      refine ⟨b, _, rfl, dg_kinds hb', ?_⟩
      walk_at "ls"
      refine ⟨b, _, rfl, dg_columns hb', ?_⟩
      walk_at "ls"
      refine ⟨upd_same, [(.inr "kinds", .ref ka), (.inr "columns", .ref ca), (.inr "checks", .ref D)], rfl, (by show 3 ≤ 15; decide), ?_⟩
      have kt : TK H3 (upd (upd H3 p (.dK [])) p (.dK (mergeK [] [(.inr "kinds", .ref ka), (.inr "columns", .ref ca), (.inr "checks", .ref D)]))) := (TK.new hp).trans (.dK upd_same)
      have hpn := od3.none hp np
      refine q _ p cs hpn hcs ⟨ka, ca, D, kx, cx, upd_same, ?_, hkt.keep kt, ?_, hct.keep kt, ?_, nk, nc, nD⟩ ((st3.mono (by rw [List.length_map]; omega)).upd np.1 np.2 |>.upd np.1 np.2) ((od3.trans (.new hp)).set hpn)
      · rw [upd_upd, upd_ne (ne_of_none hka hp)]
        exact hka
      · rw [upd_upd, upd_ne (ne_of_none hca hp)]
        exact hca
      · rw [upd_upd, upd_ne nDp]
        exact h3D
end
end Ls
namespace Ls
open PySem PySem.Spec PyProof.Rows L2
/-! ### repr of data, or of a pair of a text and an empty dict -/
def DpX (K : PySem.W.Frag) (H : Hp) (v : V) (d : PyData) : Prop := (Dp K H v d ∧ d.hasDict = false) ∨ ∃ (a e : Addr) (z : Str), v = .ref a ∧ H a = some (.tup [.str z, .ref e]) ∧ H e = some (.dK []) ∧ d = .tuple [.str z, .dict []]
section
variable {X : Cx} {pins : List (Addr × Obj)} {σ : L2.St} {H : Hp} {s : Shared}
theorem DpX.reads (I : Inv X pins σ H s) {v : V} {u : Value} {d : PyData} (h : DpX X.K H v d) (r : RelV v u) : ∃ as, Reads s.heap u d as ∧ (d.hasDict = true → sysModules ∉ as) := by
  rcases h with ⟨h, hn⟩ | ⟨a, e, z, rfl, ha, he, rfl⟩
  · obtain ⟨as, rd⟩ := Dp.reads I d v u h r
    exact ⟨as, rd, fun y => by rw [hn] at y; cases y⟩
  · cases r
    obtain ⟨its, rv, ⟨o, ho, hc, n, hd⟩, _⟩ := I.tuple (.inl (.inl ha))
    obtain ⟨_, hsm, vs, kv, oD, es, ep, hoD, hex, hdD, _, pr, _⟩ := dk_of I.hok he
    cases kv
    have e0 : es.toList = [] := by
      cases h : es.toList with
      | nil => rfl
      | cons x y => rw [h] at pr; cases pr
    have hcls : oD.cls = .type "dict" := hex.1
    cases rv with
    | cons r1 rr =>
      cases rr with
      | cons r2 rr =>
        cases rr
        obtain ⟨t, rfl⟩ := r1
        cases r2
        refine ⟨[] ++ ((e :: [] ++ []) ++ []), Reads.tuple ho hc hd (.cons (.str z t) (.cons (Reads.dict hoD hcls hdD ?_ ?_) .nil)), fun _ hm => ?_⟩
        · rw [e0]
          exact .nil
        · rw [e0]
          exact .nil
        · simp at hm
          rw [← hm] at hsm
          simp at hsm
/-- repr(x): the text of x's data -/
def rReprX (K : PySem.W.Frag) : List V → Hp → VK → Prop := fun xs H Q => ∃ (a : Addr) (d : PyData), xs = [.ref a] ∧ DpX K H (.ref a) d ∧ d.showable = true ∧ d.depth ≤ 60 ∧ d.shown.length ≤ sizeLine ∧ Q (.str d.shown) H
theorem call_repr_dataX {k : Nat} (hgd : X.A.guards = some []) (hr : Room k X.A) : CallR X (.builtin "repr") (rReprX X.K) := by
  intro pins s σ H xs us Q I r h
  obtain ⟨a, d, rfl, hd, hs, hdp, hz, q⟩ := h
  obtain ⟨u, rfl, ru⟩ := r.one
  obtain ⟨as, rd, hsm⟩ := DpX.reads I hd ru
  cases ru
  refine repr_of_reads' rd hs hsm hgd (by have := hr.un; omega) (fun b o e => e) (fun h' v tk keep => ?_) hz
  exact ⟨.str d.shown, H, I.kept (t' := tk) keep, ⟨_, rfl⟩, q⟩
end
end Ls
namespace Ls
open PySem PySem.Spec PyProof.Rows L2
/-! ### data whose text is not too long -/
structure DOk (k m : Nat) (d : PyData) : Prop where
  sh : d.showable = true
  nd : d.hasDict = false
  dp : d.depth ≤ k
  ls : d.leavesShort 100 = true
  bk : d.bulk ≤ m
theorem DOk.mono {k m k' m' : Nat} {d : PyData} (h : DOk k m d) (h1 : k ≤ k') (h2 : m ≤ m') : DOk k' m' d := ⟨h.sh, h.nd, Nat.le_trans h.dp h1, h.ls, Nat.le_trans h.bk h2⟩
theorem DOk.none {m : Nat} : DOk 0 m .none := ⟨rfl, rfl, by simp [PyData.depth], rfl, by simp [PyData.bulk]⟩
theorem DOk.bool {m : Nat} (b : Bool) : DOk 0 m (.bool b) := ⟨rfl, rfl, by simp [PyData.depth], rfl, by simp [PyData.bulk]⟩
theorem log_small {i : Int} (h : i.natAbs < 2 ^ 1920) : i.natAbs.log2 < 1920 := by
  by_cases z : i.natAbs = 0
  · rw [z]
    decide
  · exact (Nat.log2_lt z).mpr h
theorem DOk.int {m : Nat} {i : Int} (h : i.natAbs < 10 ^ 60) : DOk 0 m (.int i) :=
  ⟨by
    have e := log_small (Nat.lt_trans h (show 10 ^ 60 < 2 ^ 1920 by decide +kernel))
    simp [PyData.showable, e], by simp [PyData.hasDict], by simp [PyData.depth], by
    have e := int_text_length_le10 (k := 60) (by decide) h
    simp only [PyData.leavesShort, PyData.shown, decide_eq_true_eq]
    refine decide_eq_true ?_
    rw [PySem.ofString_length]
    omega, by simp [PyData.bulk]⟩
/-- a text of at most m signs -/
def okB (m : Nat) (z : Str) : Bool := decide (z.length ≤ m) && z.cps.toList.all fun c => decide (c < 1114112)
theorem okB_len {m : Nat} {z : Str} (h : okB m z = true) : z.length ≤ m := of_decide_eq_true (Bool.and_eq_true_iff.mp h).1
theorem okB_cp {m : Nat} {z : Str} (h : okB m z = true) : ∀ c ∈ z.cps.toList, c < 1114112 := fun c hc => of_decide_eq_true (List.all_eq_true.mp (Bool.and_eq_true_iff.mp h).2 c hc)
theorem okB_ch {m : Nat} {z : Str} (h : okB m z = true) : ∀ c ∈ z.cps.toList, c < 16 ^ 8 := fun c hc => Nat.lt_trans (okB_cp h c hc) (by decide)
theorem okB_strOk {m : Nat} {z : Str} (h : okB m z = true) : PyData.strOk z = true := by
  unfold PyData.strOk
  rw [← Array.all_toList]
  exact List.all_eq_true.mpr fun c hc => decide_eq_true (okB_cp h c hc)
theorem okB_mono {m m' : Nat} {z : Str} (h : okB m z = true) (h1 : m ≤ m') : okB m' z = true := by
  unfold okB at h ⊢
  obtain ⟨a, b⟩ := Bool.and_eq_true_iff.mp h
  rw [b, decide_eq_true (Nat.le_trans (of_decide_eq_true a) h1)]
  rfl
theorem okB_of {m : Nat} {z : Str} (h : z.length ≤ m) (h2 : ∀ c ∈ z.cps.toList, c < 1114112) : okB m z = true := by
  unfold okB
  rw [decide_eq_true h, Bool.true_and, List.all_eq_true]
  exact fun c hc => decide_eq_true (h2 c hc)
theorem okB_append {m n : Nat} {y z : Str} (h : okB m y = true) (h2 : okB n z = true) : okB (m + n) (y ++ z) = true := by
  unfold okB at h h2
  obtain ⟨a, b⟩ := Bool.and_eq_true_iff.mp h
  obtain ⟨c, d⟩ := Bool.and_eq_true_iff.mp h2
  have a := of_decide_eq_true a
  have c := of_decide_eq_true c
  refine okB_of ?_ fun x hx => ?_
  · rw [strLen_append]
    omega
  · have e : (y ++ z).cps.toList = y.cps.toList ++ z.cps.toList := by rw [PySem.Str.cps_append, Array.toList_append]
    rw [e] at hx
    rcases List.mem_append.mp hx with h | h
    · exact of_decide_eq_true (List.all_eq_true.mp b x h)
    · exact of_decide_eq_true (List.all_eq_true.mp d x h)
theorem DOk.str {m : Nat} {z : Str} (h : okB m z = true) : DOk 0 m (.str z) :=
  ⟨rfl, rfl, by simp [PyData.depth], by
    simp only [PyData.leavesShort]
    exact List.all_eq_true.mpr fun c hc => decide_eq_true (okB_ch h c hc), by
    simp only [PyData.bulk]
    exact okB_len h⟩
theorem dok_all {k m : Nat} : ∀ {ds : List PyData}, (∀ d ∈ ds, DOk k m d) → PyData.showableAll ds = true ∧ PyData.hasDictAll ds = false ∧ PyData.depthAll ds ≤ k ∧ PyData.leavesShortAll 100 ds = true ∧ PyData.bulkAll ds ≤ (m + 1) * ds.length
  | [], _ => ⟨by simp [PyData.showableAll], by simp [PyData.hasDictAll], by simp [PyData.depthAll], by simp [PyData.leavesShortAll], by simp [PyData.bulkAll]⟩
  | d :: r, h => by
    obtain ⟨a, b, c, e, f⟩ := dok_all fun x hx => h x (.tail _ hx)
    obtain ⟨a1, b1, c1, e1, f1⟩ := h d (.head _)
    refine ⟨by simp [PyData.showableAll, a, a1], by simp [PyData.hasDictAll, b, b1], ?_, by simp [PyData.leavesShortAll, e, e1], ?_⟩
    · simp only [PyData.depthAll]
      omega
    · simp only [PyData.bulkAll, List.length_cons]
      rw [Nat.mul_add, Nat.mul_one]
      omega
theorem DOk.list {k m : Nat} {ds : List PyData} (h : ∀ d ∈ ds, DOk k m d) : DOk (k + 1) ((m + 1) * ds.length) (.list ds) := by
  obtain ⟨a, b, c, e, f⟩ := dok_all h
  exact ⟨by rw [PyData.showable]; exact a, by rw [PyData.hasDict]; exact b, by rw [PyData.depth]; omega, by rw [PyData.leavesShort]; exact e, by rw [PyData.bulk]; exact f⟩
theorem DOk.tuple {k m : Nat} {ds : List PyData} (h : ∀ d ∈ ds, DOk k m d) : DOk (k + 1) ((m + 1) * ds.length) (.tuple ds) := by
  obtain ⟨a, b, c, e, f⟩ := dok_all h
  exact ⟨by rw [PyData.showable]; exact a, by rw [PyData.hasDict]; exact b, by rw [PyData.depth]; omega, by rw [PyData.leavesShort]; exact e, by rw [PyData.bulk]; exact f⟩
theorem DOk.list' {k m n : Nat} {ds : List PyData} (h : ∀ d ∈ ds, DOk k m d) (hn : ds.length ≤ n) : DOk (k + 1) ((m + 1) * n) (.list ds) := (DOk.list h).mono (Nat.le_refl _) (Nat.mul_le_mul_left _ hn)
theorem DOk.tuple' {k m n : Nat} {ds : List PyData} (h : ∀ d ∈ ds, DOk k m d) (hn : ds.length ≤ n) : DOk (k + 1) ((m + 1) * n) (.tuple ds) := (DOk.tuple h).mono (Nat.le_refl _) (Nat.mul_le_mul_left _ hn)
theorem DOk.fits {k m : Nat} {d : PyData} (h : DOk k m d) (hk : k ≤ 60) (hm : m ≤ 160000) : d.showable = true ∧ d.depth ≤ 60 ∧ d.shown.length ≤ sizeLine := by
  refine ⟨h.sh, Nat.le_trans h.dp hk, ?_⟩
  have e := PyData.shown_le_bulk 100 (by decide) d h.ls
  have e2 := h.bk
  have e3 : (100 + 2) * d.bulk ≤ 102 * 160000 := Nat.mul_le_mul_left _ (by omega)
  exact Nat.le_trans (show _ ≤ 102 * 160000 + 100 by omega) (by decide)
end Ls
namespace Ls
open PySem PySem.Spec PyProof.Rows L2
/-! ### names and checks are short -/
theorem nm_ok {z : Str} (h : Nm z) : okB 8 z = true := okB_of h.1.2.1 fun c hc => by
  have := (h.1.2.2 c hc).2
  omega
theorem nm_ok100 {z : Str} (h : Nm z) : okB 100 z = true := okB_mono (nm_ok h) (by decide)
theorem with_ok {ws : List Str} {z : Str} (hw : ∀ a ∈ ws, okB 5 a = true) (hz : Nm z) : ∀ x ∈ withN ws z, okB 14 x = true := fun x hx => by
  obtain ⟨a, ha, rfl⟩ := List.mem_map.mp hx
  exact okB_append (okB_append (hw a ha) (show okB 1 " " = true by decide +kernel)) (nm_ok hz)
theorem menu_ok {B : Shp} (hB : B.Ok) : ∀ z ∈ menu B, okB 14 z = true := fun z hz => by
  unfold menu at hz
  rcases List.mem_append.mp hz with hz | hz
  · rcases List.mem_append.mp hz with hz | hz
    · obtain ⟨c, hc, h⟩ := List.mem_flatMap.mp hz
      exact with_ok (show ∀ a ∈ colW, okB 5 a = true by decide +kernel) (hB.nm _ (List.mem_append_right _ (List.mem_map_of_mem hc))) z h
    · obtain ⟨c, hc, h⟩ := List.mem_flatMap.mp hz
      exact with_ok (show ∀ a ∈ kindW, okB 5 a = true by decide +kernel) (hB.nm _ (List.mem_append_left _ (List.mem_map_of_mem hc))) z h
  · exact (show ∀ z ∈ bookW, okB 14 z = true by decide +kernel) z hz
theorem menu_small {B : Shp} (hB : B.Ok) : (menu B).length ≤ 51 := by
  have h2 := menu_len B
  have h3 := hB.nc
  have h4 := hB.nk3
  omega
theorem menu_pos (B : Shp) : 0 < (menu B).length := by
  have h2 := menu_len B
  omega
end Ls
namespace Ls
open PySem PySem.Spec PyProof.Rows L2
/-! ### short steps -/
local macro_rules | `(tactic| walk_at "ls_ne") => `(tactic| first | assumption | exact Ne.symm (by assumption) | exact ne_of_none (by assumption) (by assumption) | exact Ne.symm (ne_of_none (by assumption) (by assumption)))
local macro_rules | `(tactic| walk_at "ls_hp") => `(tactic| first
  | with_reducible assumption
  | exact upd_same
  | exact Eq.trans (upd_ne (by walk_at "ls_ne")) (by walk_at "ls_hp"))
local macro_rules | `(tactic| walk_at "ls_st") => `(tactic| first
  | with_reducible assumption
  | exact Stm.upd (by walk_at "ls_st") (by first | walk_at "ls_ne" | exact (Stm.noneS (by assumption) (by assumption)).1) (by first | walk_at "ls_ne" | exact (Stm.noneS (by assumption) (by assumption)).2))
local macro_rules | `(tactic| walk_at "ls1") => `(tactic| first
  | refine ⟨_, rfl, ?_⟩
  | refine ⟨_, _, rfl, rfl, ?_⟩
  | refine ⟨_, _, _, _, rfl, rfl, .inl (.inl (by walk_at "ls_hp")), rfl, ?_⟩
  | refine ⟨_, _, _, _, rfl, rfl, (by walk_at "ls_hp"), rfl, ?_⟩
  | refine ⟨rfl, _, rfl, ?_⟩
  | refine ⟨.inl ⟨rfl, _, .inl (.inl (by walk_at "ls_hp"))⟩, ?_⟩)
local macro_rules | `(tactic| walk_at "ls") => `(tactic| repeat (walk_at "ls1"))

section
variable {P : Program} {w : World} {K : PySem.W.Frag} {mg : Str → Option Value} {base : Heap}
/-! ### _law_rules -/
abbrev s__law_rules : Stmt := topS 60
theorem sc__law_rules : FnScope ["_law_stream", "_law_many", "_law_most"] ["_law_stream", "_law_many", "_law_most"] (defScope s__law_rules) := ⟨rfl, rfl, rfl, by decide +kernel, rfl, by decide +kernel, by decide +kernel⟩
abbrev N__law_rules : List Str := ["_law_stream", "_law_many", "_law_most"]
def spRules : Sp := fun vs H Q _ => ∃ (S L : Addr) (n m c : Nat), vs = [.ref S, .int (m : Int), .int (c : Int)] ∧ Stm H S L n ∧ n ≤ 9900000 ∧ 0 < m ∧ m ≤ 3 ∧ 0 < c ∧ c ≤ 8 ∧
  ∀ (H' : Hp) (b : Addr) (B : Shp) (ck : List Str), B.Ok → B.ks.length ≤ m → B.cs.length ≤ c → H b = none → ck.Sublist (menu B) → ShpAt S L H' b B ck → Stm H' S L (n + 300) → Old S L H H' → Q (.ref b) H'
theorem ok_rules {f : Addr} {fd : FuncData} (F : Fun K "_law_rules" "_law_rules" s__law_rules f fd) (T : Bt mg) (O__law_draw : Own P w K mg base CX0 1 "_law_draw" ["_law_stream", "_law_many"] spDraw)
    (O__law_shape : Own P w K mg base CX0 4 "_law_shape" ["_law_stream", "_law_many", "_law_most"] spShape) (O__law_checked : Own P w K mg base CX0 2 "_law_checked" ["_law_stream", "_law_b"] spChecked) : FnOk P w K mg base CX0 5 f fd ["_law_stream", "_law_many", "_law_most"] spRules := by
  refine F.ok sc__law_rules (fun vs H Q E h => ?_) (fun cdv A outer s H vs Q E hr h => ?_)
  · obtain ⟨S, L, n, m, c, rfl, _⟩ := h
    rfl
  · obtain ⟨S, L, n, m, c, rfl, st, hn, hm0, hm3, hc0, hc8, q⟩ := h
    have hu := hu_of hr
    refine ⟨_, (pss_one (ps_ret (own_call O__law_checked hr (by first | decide | omega) (pa_cons (pv 0) (pa_cons (own_call O__law_shape hr (by first | decide | omega) (pa_cons (pv 0) (pa_cons (pe_op op_add pe_int (own_call O__law_draw hr (by first | decide | omega) (pa_cons (pv 0) (pa_cons (pv 1) pa_nil)))) (pa_cons (pv 2) pa_nil)))) pa_nil))))), ?_⟩
    walk_at "ls"
    refine ⟨S, L, n, (m : Int), rfl, st, by omega, by omega, by omega, fun H1 r r0 r1 st1 od1 => ?_⟩
    refine ⟨_, _, rfl, rfl, ?_⟩
    have er : (1 : Int) + r = ((1 + r.toNat : Nat) : Int) := by omega
    walk_at "ls"
    refine ⟨S, L, n + 1, 1 + r.toNat, c, (by show [V.ref S, V.int (1 + r), V.int (c : Int)] = _; rw [er]), st1, by omega, by omega, by omega, hc0, hc8, fun H2 b B hB hBk hBc hb2 hsh st2 od2 => ?_⟩
    refine ⟨S, L, b, _, B, [], rfl, st2, by omega, hsh, hB, fun H3 p ck' hp hck hsh3 st3 od3 => ?_⟩
    exact q _ p B ck' hB (by omega) hBc ((od1.trans od2).none hp (st2.noneS hp)) hck hsh3 (st3.mono (by omega)) ((od1.trans od2).trans od3)
end
end Ls
namespace Ls
open PySem PySem.Spec PyProof.Rows L2 NdefX
open PySem.W (InstAt ks_superObj ksEnv mg_none_of)

/-! ### an own error over ValueError whose __init__ says super().__init__('..') ahead -/
abbrev bmVE : List Value := [.type "ValueError", .type "Exception", .type "BaseException", .type "object"]
/-- the class at C, the cell of its name, the code object of its __init__ -/
structure SupC (P : Program) (K : PySem.W.Frag) (C cc cda : Addr) : Prop where
  ox : OexC K C
  code : ∃ ccl cdd vs ccs file tf, K.lookup cda = some ⟨ccl, cdd, .fields vs, ccs⟩ ∧ vs[2]? = some (.str file tf) ∧ ((P.main.file : Str) == file) = true
  cell : ∃ cl cld csl, K.lookup cc = some ⟨cl, cld, .cell (some (.ref C)), csl⟩
  sub : PySem.W.mroIn K C (.ref C) = some true
  nsup : PySem.W.nsIn K mainGlobals "super" = some none
  opq : PySem.W.nsIn K cStatics "thirdparty.any" = some none
  sup : PySem.W.ks_superIn K C C "__init__" = some (some (.builtin "ValueError.__init__"))
  subV : PySem.W.subIn K (.ref C) (.type "ValueError") = some true
  ini : PySem.W.excInitIn K C bmVE "ValueError.__new__" = true
  top : (P.main.scope.names.lookup ("super" : Str)).isSome = false

section
variable {prog : Program} {w : World} {A : Around} {E : Value → Shared → Prop} {s : Shared} {h₀ : Heap} {L : Addr} {m mg : Str → Option Value} {K : PySem.W.Frag} {news : List (Addr × Obj)} {x C f cc cda : Addr} {ox : Obj} {odx : Option Obj}
  {body : List Stmt} {q : Str} {scope : Scope} {p0 p1 p2 p3 p4 p5 : Pos} {fd : FuncData} {ar : Arg} {oc : Value} {od : Option Addr} {osl : Array (Option Value)}
theorem sup_node {whole : Sem Value} {Q : Value → Shared → Prop} (T : SupC prog K C cc cda) (F : Fr h₀ L s.heap m) (M : Mod K mg h₀) (N : News h₀ L s.heap news)
    (hf : K.lookup f = some ⟨oc, od, .func fd, osl⟩) (hp : (fd.params.posonlyargs ++ fd.params.args).head? = some ar) (hv : m ar.arg = some (.ref x)) (I : InstAt s.heap x ox C odx)
    (hks : scope.names.lookup ("super" : Str) = some .globalImplicit) (hkc : scope.names.lookup ("__class__" : Str) = some .free) (hka : scope.names.lookup ar.arg = some .local) (hk : scope.kind = .function)
    (h : ∀ so h', Fr h₀ L h' m → News h₀ L h' ((so, ks_superObj C x C) :: news) → (∀ p ∈ news, p.1 < so) → Q (.ref so) { s with heap := h' }) :
    _root_.PySem.wpAt (model prog w) A (.func body (ksEnv q scope L f (.ref cda) cc)) (attributeBase (.Call (.Name "super" p0) [] [] p1) "__init__" (ksEnv q scope L f (.ref cda) cc) whole) Q E s := by
  have KH : K.In s.heap := M.kin.keeps F.keep
  obtain ⟨ccl, cdd, vs, ccs, file, tf, hcode, hvs, hfile⟩ := T.code
  obtain ⟨cl, cld, csl, hcell⟩ := T.cell
  obtain ⟨nm, qn, N', bs, bm, sn, sub, ab, col, dd, k0, k1, k2, k3, k5, hC, _⟩ := T.ox.cls
  obtain ⟨mb, hb, hbt⟩ := M.blt
  obtain ⟨hh, g, d, t, os⟩ := s
  have oC := KH _ _ hC
  refine ks_wpAt_super_base (env := ksEnv q scope L f (.ref cda) cc) hks hkc (by decide) rfl (KH _ _ hf) rfl hp rfl (KH _ _ hcode) rfl hvs hfile T.top ?_
  refine PySem.W.ks_loadName_global hk hks ?_
  refine Calls.loadGlobal_builtin (env := ksEnv q scope L f (.ref cda) cc) (M.glob.keeps F.keep) (mg_none_of M.kin M.glob T.nsup) (hb.keeps F.keep) ((hbt _ (by decide +kernel)).trans PyProof.Rows.Boot.«super») ⟨rfl, ?_⟩
  refine wpAny_loadName_free hk hkc rfl ⟨_, KH _ _ hcell, rfl⟩ ?_
  refine wpAny_loadName_local hk hka F.ns hv ?_
  refine ks_wpAny_isType_cls oC rfl ⟨rfl, ?_⟩
  have nc : ∀ c, ox.data ≠ .cls c := fun c e => by
    have z := I.no
    unfold PySem.W.notCls at z
    rw [e] at z
    exact Bool.noConfusion z
  refine ks_wpAny_call_super oC rfl I.at_ I.cls nc (PySem.W.looks_mroIn KH T.sub) fun h' e k => ?_
  obtain ⟨F', N', l'⟩ := PySem.W.ks_newsPush (s := ⟨hh, g, d, t, os⟩) F N rfl e k
  exact h _ _ F' N' l'
/-- how that call reads in its frame -/
def SupEv (q : Str) (scope : Scope) (f cc cda : Addr) (txt : Str) (j : Nat) (p0 p1 p2 p3 p4 : Pos) : Prop := ∀ L, ∃ pl : Sem Bool, eval (.Call (.Attribute (.Call (.Name "super" p0) [] [] p1) "__init__" p2) [.Constant (.str txt) j p3] [] p4) (ksEnv q scope L f (.ref cda) cc) = (do
  let ov ← attributeBase (.Call (.Name "super" p0) [] [] p1) "__init__" (ksEnv q scope L f (.ref cda) cc) (eval (.Call (.Name "super" p0) [] [] p1) (ksEnv q scope L f (.ref cda) cc))
  standAt p2.atName
  let (f', first) ← holding [ov] (getMethod ov "__init__" pl)
  callWith p4 f' first (backTo p4 (starEach [.Constant (.str txt) j p3] (ksEnv q scope L f (.ref cda) cc))) [])
/-- the statement super().__init__('..') -/
theorem sup_first {txt : Str} {j : Nat} {t0 : Addr} {Q : Flow → Shared → Prop} (T : SupC prog K C cc cda) (F : Fr h₀ L s.heap m) (M : Mod K mg h₀) (hx : s.heap.get? x = some (PySem.W.excObj C t0 none .none)) (xL : x ≠ L) (x0 : h₀.get? x = none)
    (hf : K.lookup f = some ⟨oc, od, .func fd, osl⟩) (hp : (fd.params.posonlyargs ++ fd.params.args).head? = some ar) (hv : m ar.arg = some (.ref x))
    (hks : scope.names.lookup ("super" : Str) = some .globalImplicit) (hkc : scope.names.lookup ("__class__" : Str) = some .free) (hka : scope.names.lookup ar.arg = some .local) (hk : scope.kind = .function)
    (hev : SupEv q scope f cc cda txt j p0 p1 p2 p3 p4) (h : ∀ h' tk t1, Fr h₀ L h' m → h'.get? x = some (PySem.W.excObj C t1 none .none) → Q .next { s with heap := h', toks := tk }) :
    _root_.PySem.wpAt (model prog w) A (.func body (ksEnv q scope L f (.ref cda) cc)) (exec (.Expr (.Call (.Attribute (.Call (.Name "super" p0) [] [] p1) "__init__" p2) [.Constant (.str txt) j p3] [] p4) p5) (ksEnv q scope L f (.ref cda) cc)) Q E s := by
  have N : News h₀ L s.heap [(x, PySem.W.excObj C t0 none .none)] := fun p hp => by
    rcases List.mem_singleton.mp hp with rfl
    exact ⟨hx, xL, x0⟩
  obtain ⟨pl, hcl⟩ := hev L
  refine ks_wpAt_Expr_any (ks_wpAt_MethodCall (pl := pl) ?_ hcl) (hi := by show (scope.kind == .module && _) = false; rw [hk]; rfl)
  refine sup_node (ox := PySem.W.excObj C t0 none .none) (odx := none) T F M N hf hp hv ⟨hx, rfl, rfl, trivial⟩ hks hkc hka hk fun so h1 F1 N1 l1 => ?_
  refine PySem.W.kxs_method PySem.W.kxs_ValueError F1 M.kin N1 (List.mem_cons_self ..) (ox := PySem.W.excObj C t0 none .none) (odx := none) ⟨(N1 _ (.tail _ (.head _))).1, rfl, rfl, trivial⟩ T.opq T.sup T.subV rfl fun u h2 F2 N2 l2 => ?_
  have xs : x ≠ so := Nat.ne_of_lt (l1 (x, PySem.W.excObj C t0 none .none) (.head _))
  have xu : x ≠ u := Nat.ne_of_lt (l2 (x, PySem.W.excObj C t0 none .none) (.tail _ (.head _)))
  refine PySem.W.kxs_callWith1 N2 (.head _) ?_
  refine Calls.spliced_cons (Calls.Constant_str (k := j) (pos := p3) (Calls.spliced_nil ⟨PySem.W.kxs_at N2 (.head _), ?_⟩))
  refine PySem.W.kxs_call F2 M.kin N2 PySem.F.excBase_ValueError T.ini (.head _) (PySem.W.UpdF.tail (Ne.symm xu) (PySem.W.UpdF.tail (Ne.symm xs) (PySem.W.UpdF.head fun p hp => nomatch hp))) (by show 1 ≤ sizeLine; rw [sizeLine_eq]; omega) fun t' h3 F3 N3 l3 => ?_
  exact h h3 _ t' F3 (N3 _ (.tail _ (.tail _ (.tail _ (.head _))))).1
end

/-- no error leaves -/
abbrev CXN : CXT := fun _ _ _ _ _ _ => False
/-- THE RULE: such an __init__ by what stands behind super().__init__('..') -/
theorem sup_fn {CX : CXT} {P : Program} {w : World} {K : PySem.W.Frag} {mg : Str → Option Value} {base : Heap} {k : Nat} {fI C cc cda : Addr} {name qual : Str} {params : Arguments} {body rest : List Stmt} {scope : Scope} {doc pm ct oc : Value}
    {od : Option Addr} {osl : Array (Option Value)} {N ps : List Str} {sp : Sp} {txt : Str} {j : Nat} {p0 p1 p2 p3 p4 p5 : Pos} {ar : Arg} (T : SupC P K C cc cda)
    (lk : K.lookup fI = some ⟨oc, od, .func (PySem.W.fnX name qual params body scope [("__class__", cc)] .none .none doc pm none (.ref cda) ct), osl⟩) (hcd : PySem.W.codeIn K (.ref cda) qual = true) (S : NScope N ps ["__class__"] scope)
    (hbd : body = .Expr (.Call (.Attribute (.Call (.Name "super" p0) [] [] p1) "__init__" p2) [.Constant (.str txt) j p3] [] p4) p5 :: rest)
    (hp : (params.posonlyargs ++ params.args).head? = some ar) (ha : ps[0]? = some ar.arg) (hks : scope.names.lookup ("super" : Str) = some .globalImplicit) (hev : SupEv qual scope fI cc cda txt j p0 p1 p2 p3 p4)
    (len : ∀ vs H Q E, sp vs H Q E → vs.length = ps.length)
    (self : ∀ vs H Q E, sp vs H Q E → ∃ a, vs[0]? = some (.ref a) ∧ H a = some (exo a C none))
    (hbody : ∀ (A : Around) (outer : List Env) (s : Shared) (H : Hp) (vs : List V) (Q : VK) (E : XK), sp vs H Q E →
      ∃ t, PSs (ncx CXN P w K mg base N ⟨name, qual, params, body, scope, [("__class__", cc)], cda⟩ fI A outer s H E) rest t ∧ t { nx := fun _ H' => Q .non H', rt := Q } (startF N vs [some (.ref C)]) H) :
    FnOk P w K mg base CX (k + 1) fI (PySem.W.fnX name qual params body scope [("__class__", cc)] .none .none doc pm none (.ref cda) ct) ps sp := by
  refine ⟨len, fun A outer s H args us vs Q E hr e0 hb r hsp => ?_⟩
  have hl := len _ _ _ _ hsp
  obtain ⟨a, hv0, hHa⟩ := self _ _ _ _ hsp
  obtain ⟨u0, hu0, ru0⟩ := r.get hv0
  obtain rfl : u0 = Value.ref a := ru0
  have bk : ∀ b o, base.get? b = some o → s.heap.get? b = some o := fun b o e => (e0.bs b o e).1
  have KX : K.In s.heap := e0.mod.kin.keeps bk
  have lim : s.heap.NoLimit := e0.mod.nolimit.keeps bk
  obtain ⟨t1, hoa⟩ := exo_at e0.hok hHa
  obtain ⟨cl, cld, csl, hcell⟩ := T.cell
  have C0 : CellsAt [("__class__", cc)] ["__class__"] [some (.ref C)] s.heap H := {
    len := rfl
    all := fun y c e => by
      have z : y = "__class__" ∧ c = cc := by
        by_cases hy : y = ("__class__" : Str)
        · subst hy
          simp [List.lookup] at e
          exact ⟨rfl, e.symm⟩
        · have e2 : (y == ("__class__" : Str)) = false := by simpa using hy
          simp [List.lookup, e2] at e
      obtain ⟨_, rfl⟩ := z
      refine ⟨?_, _, _, KX _ _ hcell, rfl⟩
      exact (e0.bs _ _ (e0.mod.kin _ _ hcell)).2
    inj := fun x y c e1 e2 => by
      have one : ∀ {y : Str}, List.lookup y [(("__class__" : Str), cc)] = some c → y = "__class__" := fun {y} e => by
        by_cases hy : y = ("__class__" : Str)
        · exact hy
        · have e2 : (y == ("__class__" : Str)) = false := by simpa using hy
          simp [List.lookup, e2] at e
      rw [one e1, one e2]
    has := fun i y e => by
      cases i with
      | succ i => simp at e
      | zero =>
        simp at e
        subst e
        refine ⟨cc, by simp [List.lookup], fun v hv => ?_⟩
        simp at hv
        subst hv
        exact ⟨.ref C, rfl, _, KX _ _ hcell, rfl⟩ }
  refine codeAny_call_function hr.depth (KX _ _ lk) rfl S.co S.gen rfl (PySem.W.codeRec_of KX hcd) (hb _ _ _ _ ?_)
  refine wpAny_newFunctionEnv S.nocell (fun ⟨n, _⟩ hy => S.par n (List.of_mem_zip hy).1) (fun h₁ hns hsb => ⟨lim.fresh _ hsb, ?_⟩) S.kind
  have kp : ∀ b o, s.heap.get? b = some o → h₁.get? b = some o := fun b o e => hsb.extBut b o (Nat.ne_of_lt (Heap.lt_size e)) (Heap.get?_push_of_some _ e)
  obtain ⟨t, ht, hq⟩ := hbody A outer s H vs Q E hsp
  have I1 : Inv (ncx CXN P w K mg base N ⟨name, qual, params, body, scope, [("__class__", cc)], cda⟩ fI A outer s H E) [] (startF N vs [some (.ref C)]) H { s with heap := h₁, toks := s.toks + (ps.zip us).length } := inv_startN S hr.hd e0 hl r C0 hns kp
  have aL : a ≠ s.heap.objs.size := Nat.ne_of_lt (Heap.lt_size hoa)
  have hid : ∀ b o, (PySem.W.hideAll s.heap [a]).get? b = some o → s.heap.get? b = some o := fun b o e => PySem.W.of_hideAll _ e
  have G0 : ∀ b o, base.get? b = some o → (PySem.W.hideAll s.heap [a]).get? b = some o := fun b o e => PySem.W.hideAll_get _ (bk b o e) fun z => by
    have z' := List.mem_singleton.mp z
    subst z'
    rw [(e0.bs _ _ e).2] at hHa
    cases hHa
  have M0 : Mod K mg (PySem.W.hideAll s.heap [a]) := ⟨e0.mod.kin.keeps G0, e0.mod.glob.keeps G0, by
    obtain ⟨mb, hb, hbt⟩ := e0.mod.blt
    exact ⟨mb, hb.keeps G0, hbt⟩, e0.mod.nolimit.keeps G0⟩
  have ndP : ps.Nodup := by
    have q := S.nd.sublist (List.take_sublist (ps.length + [("__class__" : Str)].length) N)
    rw [S.pre] at q
    exact (List.nodup_append.mp q).1
  have F1 : Fr (PySem.W.hideAll s.heap [a]) s.heap.objs.size h₁ (fun y => (ps.zip us).reverse.lookup y) := ⟨hns, fun b o e => kp _ _ (hid _ _ e), Nat.le_of_eq (PySem.W.hideAll_size _ _)⟩
  show codeAny _ _ (.func body (envF ⟨name, qual, params, body, scope, [("__class__", cc)], cda⟩ fI s.heap.objs.size)) _ _
  refine ks_codeAny_funcAt ?_
  show _root_.PySem.wpAt _ _ (.func body (ksEnv qual scope s.heap.objs.size fI (.ref cda) cc)) (execs body (ksEnv qual scope s.heap.objs.size fI (.ref cda) cc)) _ _ _
  have hbx : execs body (ksEnv qual scope s.heap.objs.size fI (.ref cda) cc) = execs (.Expr (.Call (.Attribute (.Call (.Name "super" p0) [] [] p1) "__init__" p2) [.Constant (.str txt) j p3] [] p4) p5 :: rest) (ksEnv qual scope s.heap.objs.size fI (.ref cda) cc) := by rw [hbd]
  rw [hbx]
  refine ks_wpAt_execs_cons ?_
  refine sup_first (x := a) T F1 M0 (kp _ _ hoa) aL (PySem.W.hideAll_none _ (List.mem_singleton.mpr rfl)) lk hp (zip_look ndP ha hu0) hks (S.frk _ (List.mem_singleton.mpr rfl)) (S.par _ (List.mem_of_getElem? ha)) S.kind hev fun h3 tk t3 F3 hx3 => ?_
  have k3 : ∀ b o, b ≠ a → s.heap.get? b = some o → h3.get? b = some o := fun b o hb e => F3.keep _ _ (PySem.W.hideAll_get _ e fun z => hb (List.mem_singleton.mp z))
  have old : ∀ b o, b ≠ s.heap.objs.size → h₁.get? b = some o → s.heap.get? b = some o := fun b o hb e => by
    exact (Heap.get?_push_ne _ _ _ hb).symm.trans ((hsb.2 b hb).symm.trans e)
  have na : ∀ {b : Addr}, H b = none → b ≠ a := fun {b} n z => by
    rw [z, hHa] at n
    cases n
  have eu : upd H a (exo a C none) = H := by
    funext b
    by_cases hb : b = a
    · rw [hb, upd_same, hHa]
    · rw [upd_ne hb]
  have hok3 : HOk P w H h3 := by
    have z := e0.hok.write (x := a) (e := a) (o' := exo a C none) (h' := h3) (by rw [hHa]; exact True.intro) (.inl rfl) k3 ⟨_, hx3⟩ (exo_ok hx3)
    rw [eu] at z
    exact z
  have I3 : Inv (ncx CXN P w K mg base N ⟨name, qual, params, body, scope, [("__class__", cc)], cda⟩ fI A outer s H E) [] (startF N vs [some (.ref C)]) H { s with heap := h3, toks := tk } := by
    refine Inv.step (s := { s with heap := h₁, toks := s.toks + (ps.zip us).length }) (h' := h3) I1 (g' := s.gens) (d' := s.drawn) (t' := tk) (ch := []) (fun _ z => nomatch z) (fun b o hL _ _ e n => k3 b o (na n) (old b o hL e)) (fun b o hL _ _ e n => ⟨o.slots, k3 b o (na n) (old b o hL e)⟩) (fun _ _ _ _ n => n) (fun b o _ e => ?_)
      (fun _ _ z => z) (fun _ _ _ z => z) (fun b ps z => ⟨#[], by rw [z]; simp⟩) (fun m hm => ?_) hok3 e0.bare
    · by_cases hL : b = s.heap.objs.size
      · obtain ⟨o', _, _, q, _⟩ := F3.ns
        exact ⟨o', by rw [hL]; exact q⟩
      · by_cases hb : b = a
        · exact ⟨_, by rw [hb]; exact hx3⟩
        · exact ⟨o, k3 b o hb (old b o hL e)⟩
    · have q : m = fun y => (ps.zip us).reverse.lookup y := funext fun y => Heap.Ns.agree (show h₁.Ns s.heap.objs.size m from hm) hns y
      rw [q]
      exact F3.ns
  refine wpAt_of_wpAny ?_
  refine wpAny_mono (ht.run [] _ (startF N vs [some (.ref C)]) H _ I3 hq) (fun fl s' hs => ?_) fun e s' hs => ?_
  · have fin : ∀ {σ' : L2.St} {H' : Hp} {v : V} {u : Value}, Inv (ncx CXN P w K mg base N ⟨name, qual, params, body, scope, [("__class__", cc)], cda⟩ fI A outer s H E) [] σ' H' s' → L2.RelV v u → Q v H' → CE outer P w H s Q u s' :=
      fun {σ' H' v u} J rv q => ⟨v, H', J.os, J.bare, J.base, J.hok, rv, q⟩
    cases fl with
    | ret u =>
      obtain ⟨v, σ', H', J, rv, q⟩ := hs
      exact fin J rv q
    | next =>
      obtain ⟨σ', H', J, q⟩ := hs
      exact fin (v := V.non) (u := Value.none) J rfl q
    | brk =>
      obtain ⟨_, _, _, q⟩ := hs
      exact False.elim q
    | cont =>
      obtain ⟨_, _, _, q⟩ := hs
      exact False.elim q
  · exact wpAny_mono hs (fun _ _ z => z.elim) fun _ _ z => z.elim
end Ls
namespace Ls
open PySem PySem.Spec PyProof.Rows L2 NdefX
open PySem.W (ksEnv)

/-! ### the texts of such __init__ -/
/-- self.f = f -/
def StoreSt (f : Str) (st : Stmt) : Prop := (∃ p p' p'' pos, st = .Assign [.Attribute (.Name "self" p) f p'] (.Name f p'') pos) ∧ (f == ("__debug__" : Str)) = false ∧ (f == ("__classdict__" : Str)) = false
def Stores : List Str → List Stmt → Prop
  | [], [] => True
  | f :: fs, st :: r => StoreSt f st ∧ Stores fs r
  | _, _ => False
/-- what is asked of the text st of an own error's __init__ with the fields fs -/
structure ErrTx (st : Stmt) (qual : Str) (fs : List Str) : Prop where
  nsc : NScope (("self" : Str) :: (fs ++ [("__class__" : Str)])) (("self" : Str) :: fs) [("__class__" : Str)] (defScope st)
  hsup : (defScope st).names.lookup ("super" : Str) = some .globalImplicit
  par : ∃ ar, ((defArgs st).posonlyargs ++ (defArgs st).args).head? = some ar ∧ ar.arg = "self"
  body : ∃ (txt : Str) (j : Nat) (p0 p1 p2 p3 p4 p5 : Pos) (rest : List Stmt), defBody st = .Expr (.Call (.Attribute (.Call (.Name "super" p0) [] [] p1) "__init__" p2) [.Constant (.str txt) j p3] [] p4) p5 :: rest ∧ Stores fs rest ∧
    ∀ f cc cda, SupEv qual (defScope st) f cc cda txt j p0 p1 p2 p3 p4
  bind : ∀ (cc cda : Addr) (doc pm ct : Value) (us : List Value), us.length = (("self" : Str) :: fs).length → bindArgs (PySem.W.fnX "__init__" qual (defArgs st) (defBody st) (defScope st) [("__class__", cc)] .none .none doc pm none (.ref cda) ct) ⟨us, []⟩ = pure ((("self" : Str) :: fs).zip us)

/-! ### what they promise -/
/-- an exception of C at a, its dict (fields fs) at d -/
def exoD (H : Hp) (a C d : Addr) (fs : List (Str × V)) : Hp := upd (upd H d (exd d fs)) a (exo a C (some d))
def spI0 (C : Addr) : Sp := fun vs H Q _ => ∃ a, vs = [.ref a] ∧ H a = some (exo a C none) ∧ Q .non H
def spI1 (C : Addr) (f : Str) : Sp := fun vs H Q _ => ∃ a v, vs = [.ref a, v] ∧ H a = some (exo a C none) ∧ ∀ d, H d = none → d ≠ a → Q .non (exoD H a C d [(f, v)])
def spI2 (C : Addr) (f g : Str) : Sp := fun vs H Q _ => ∃ a v w, vs = [.ref a, v, w] ∧ H a = some (exo a C none) ∧ ∀ d, H d = none → d ≠ a → Q .non (exoD H a C d [(g, w), (f, v)])

section
variable {CX : CXT} {P : Program} {w : World} {K : PySem.W.Frag} {mg : Str → Option Value} {base : Heap} {fI C cc cda : Addr} {st : Stmt} {qual f g : Str} {doc pm ct oc : Value} {od : Option Addr} {osl : Array (Option Value)}
theorem err_fn0 (T : SupC P K C cc cda) (Tx : ErrTx st qual [])
    (lk : K.lookup fI = some ⟨oc, od, .func (PySem.W.fnX "__init__" qual (defArgs st) (defBody st) (defScope st) [("__class__", cc)] .none .none doc pm none (.ref cda) ct), osl⟩) (hcd : PySem.W.codeIn K (.ref cda) qual = true) :
    FnOk P w K mg base CX 1 fI (PySem.W.fnX "__init__" qual (defArgs st) (defBody st) (defScope st) [("__class__", cc)] .none .none doc pm none (.ref cda) ct) ["self"] (spI0 C) := by
  obtain ⟨txt, j, p0, p1, p2, p3, p4, p5, rest, hb, hst, hev⟩ := Tx.body
  obtain ⟨ar, hp, ha⟩ := Tx.par
  refine sup_fn (N := ["self", "__class__"]) T lk hcd Tx.nsc hb hp (by rw [ha]; rfl) Tx.hsup (hev _ _ _) (fun vs H Q E ⟨a, e, _⟩ => by rw [e]; rfl) (fun vs H Q E ⟨a, e, h, _⟩ => ⟨a, by rw [e]; rfl, h⟩) fun A outer s H vs Q E ⟨a, e, h, q⟩ => ?_
  cases rest with
  | nil => exact ⟨_, pss_nil, q⟩
  | cons x r => exact hst.elim
theorem err_fn1 (T : SupC P K C cc cda) (Tx : ErrTx st qual [f]) (hno : PySem.W.findIn K (.ref C) f = some none)
    (lk : K.lookup fI = some ⟨oc, od, .func (PySem.W.fnX "__init__" qual (defArgs st) (defBody st) (defScope st) [("__class__", cc)] .none .none doc pm none (.ref cda) ct), osl⟩) (hcd : PySem.W.codeIn K (.ref cda) qual = true) :
    FnOk P w K mg base CX 1 fI (PySem.W.fnX "__init__" qual (defArgs st) (defBody st) (defScope st) [("__class__", cc)] .none .none doc pm none (.ref cda) ct) ["self", f] (spI1 C f) := by
  obtain ⟨txt, j, p0, p1, p2, p3, p4, p5, rest, hb, hst, hev⟩ := Tx.body
  obtain ⟨ar, hp, ha⟩ := Tx.par
  refine sup_fn (N := ["self", f, "__class__"]) T lk hcd Tx.nsc hb hp (by rw [ha]; rfl) Tx.hsup (hev _ _ _) (fun vs H Q E ⟨a, v, e, _⟩ => by rw [e]; rfl) (fun vs H Q E ⟨a, v, e, h, _⟩ => ⟨a, by rw [e]; rfl, h⟩) fun A outer s H vs Q E ⟨a, v, e, h, q⟩ => ?_
  subst e
  match rest, hst with
  | [x], hst =>
    obtain ⟨⟨⟨q1, q2, q3, q4, rfl⟩, d1, d2⟩, _⟩ := hst
    refine ⟨_, pss_one (ps_ost (pe_var (i := 0) rfl (.inl (Tx.nsc.par _ (List.mem_cons_self ..)))) (pe_var (i := 1) rfl (.inl (Tx.nsc.par _ (.tail _ (.head _)))) d1 d2)), ?_⟩
    exact ⟨v, rfl, .ref a, rfl, a, C, rfl, T.ox, hno, .inl ⟨h, fun dx n ne => q dx n ne⟩⟩
  | [], hst => exact hst.elim
  | _ :: _ :: _, hst => exact hst.2.elim
theorem err_fn2 (T : SupC P K C cc cda) (Tx : ErrTx st qual [f, g]) (hno : PySem.W.findIn K (.ref C) f = some none) (hno2 : PySem.W.findIn K (.ref C) g = some none)
    (lk : K.lookup fI = some ⟨oc, od, .func (PySem.W.fnX "__init__" qual (defArgs st) (defBody st) (defScope st) [("__class__", cc)] .none .none doc pm none (.ref cda) ct), osl⟩) (hcd : PySem.W.codeIn K (.ref cda) qual = true) :
    FnOk P w K mg base CX 1 fI (PySem.W.fnX "__init__" qual (defArgs st) (defBody st) (defScope st) [("__class__", cc)] .none .none doc pm none (.ref cda) ct) ["self", f, g] (spI2 C f g) := by
  obtain ⟨txt, j, p0, p1, p2, p3, p4, p5, rest, hb, hst, hev⟩ := Tx.body
  obtain ⟨ar, hp, ha⟩ := Tx.par
  refine sup_fn (N := ["self", f, g, "__class__"]) T lk hcd Tx.nsc hb hp (by rw [ha]; rfl) Tx.hsup (hev _ _ _) (fun vs H Q E ⟨a, v, u, e, _⟩ => by rw [e]; rfl) (fun vs H Q E ⟨a, v, u, e, h, _⟩ => ⟨a, by rw [e]; rfl, h⟩) fun A outer s H vs Q E ⟨a, v, u, e, h, q⟩ => ?_
  subst e
  match rest, hst with
  | [x, y], hst =>
    obtain ⟨⟨⟨q1, q2, q3, q4, rfl⟩, d1, d2⟩, ⟨⟨q5, q6, q7, q8, rfl⟩, d3, d4⟩, _⟩ := hst
    refine ⟨_, pss_cons (ps_ost (pe_var (i := 0) rfl (.inl (Tx.nsc.par _ (List.mem_cons_self ..)))) (pe_var (i := 1) rfl (.inl (Tx.nsc.par _ (.tail _ (.head _)))) d1 d2))
      (pss_one (ps_ost (pe_var (i := 0) rfl (.inl (Tx.nsc.par _ (List.mem_cons_self ..)))) (pe_var (i := 2) rfl (.inl (Tx.nsc.par _ (.tail _ (.tail _ (.head _))))) d3 d4))), ?_⟩
    refine ⟨v, rfl, .ref a, rfl, a, C, rfl, T.ox, hno, .inl ⟨h, fun dx n ne => ?_⟩⟩
    refine ⟨u, rfl, .ref a, rfl, a, C, rfl, T.ox, hno2, .inr ⟨dx, [(f, v)], upd_same, (upd_ne ne).trans upd_same, Nat.le_of_ble_eq_true rfl, ?_⟩⟩
    have e : upd (upd (upd H dx (exd dx [(f, v)])) a (exo a C (some dx))) dx (exd dx [(g, u), (f, v)]) = exoD H a C dx [(g, u), (f, v)] := by
      funext b
      unfold exoD
      by_cases hb : b = dx
      · subst hb
        rw [upd_same, upd_ne ne, upd_same]
      · rw [upd_ne hb]
        by_cases h2 : b = a
        · subst h2
          rw [upd_same, upd_same]
        · rw [upd_ne h2, upd_ne h2, upd_ne hb, upd_ne hb]
    show Q _ (upd (upd (upd H dx (exd dx [(f, v)])) a (exo a C (some dx))) dx (exd dx [(g, u), (f, v)]))
    rw [e]
    exact q dx n ne
  | [], hst => exact hst.elim
  | [_], hst => exact hst.2.elim
  | _ :: _ :: _ :: _, hst => exact hst.2.2.elim
end
end Ls
namespace Ls
open PySem PySem.Spec PyProof.Rows L2 NdefX

/-! ### a class of own errors -/
/-- x names the class at C, its fields fs, sp what its __init__ promises -/
structure OwnX (P : Program) (w : World) (K : PySem.W.Frag) (mg : Str → Option Value) (base : Heap) (x : Str) (fs : List Str) (sp : Sp) (C : Addr) : Prop where
  ox : OexC K C
  xf : XfC K C
  gl : mg x = some (.ref C)
  nof : ∀ f ∈ fs, PySem.W.findIn K (.ref C) f = some none
  ini : ∃ (fI : Addr) (fd : FuncData), PySem.W.findIn K (.ref C) "__init__" = some (some (.ref fI)) ∧ PySem.W.typeIn K (.ref fI) = some (.type "function") ∧ FnOk P w K mg base CX0 1 fI fd (("self" : Str) :: fs) sp ∧ Binds K fd (("self" : Str) :: fs) []

/-- a reading of arguments that may be weakened -/
def upA (ta : TA) : TA := fun σ H Q => ∃ Q' : List V → Hp → Prop, ta σ H Q' ∧ ∀ vs H', Q' vs H' → Q vs H'
section
variable {X : Cx} {x f g : Str} {C : Addr} {fs : List Str} {sp : Sp} {e : Expr} {es : List Expr} {ta : TA} {p pos : Pos}
theorem pa_up (h : PA X es ta) : PA X es (upA ta) := ⟨fun pos pins s σ H Q I ⟨Q', h', k⟩ => thn (h.run pos pins s σ H Q' I h') fun us s1 ⟨vs, H1, I1, r, q⟩ => ⟨vs, H1, I1, r, k _ _ q⟩⟩
theorem pmk_imp {t t' : L2.St → Hp → XK → Prop} (h : PMk X e t) (i : ∀ σ H Q, t' σ H Q → t σ H Q) : PMk X e t' := fun pins s σ H Q I q => h pins s σ H Q I (i _ _ _ q)
theorem pass0E {E : XK} : Passes CX0 X E := fun _ _ _ _ _ _ _ h => h.elim
theorem exoD_end {H : Hp} {a d : Addr} {l : List (Str × V)} (ha : H a = none) : upd (del (exoD (upd H a (exo a C none)) a C d l) a) d (.xd l) = upd H d (.xd l) := by
  funext b
  by_cases hb : b = d
  · rw [hb, upd_same, upd_same]
  · rw [upd_ne hb, upd_ne hb]
    by_cases h2 : b = a
    · rw [h2, del_same, ha]
    · unfold exoD
      rw [del_ne h2, upd_ne h2, upd_ne hb, upd_ne h2]
def tErr1 (C : Addr) (f : Str) (ta : TA) : L2.St → Hp → XK → Prop := fun σ H Q => ta σ H fun vs H1 => ∃ v, vs = [v] ∧ ∀ d, H1 d = none → Q (.ref C) (some d) (upd H1 d (.xd [(f, v)]))
def tErr2 (C : Addr) (f g : Str) (ta : TA) : L2.St → Hp → XK → Prop := fun σ H Q => ta σ H fun vs H1 => ∃ v w, vs = [v, w] ∧ ∀ d, H1 d = none → Q (.ref C) (some d) (upd H1 d (.xd [(g, w), (f, v)]))
def tErr0 (C : Addr) : L2.St → Hp → XK → Prop := fun _ H Q => Q (.ref C) none H
theorem xd_of {H : Hp} {a d : Addr} {l : List (Str × V)} : exoD H a C d l a = some (exo a C (some d)) := upd_same
/-- x(e) -/
theorem pmk_err1 (O : OwnX X.prog X.w X.K X.mg X.base x [f] (spI1 C f) C) (hr : Room 2 X.A) (ha : PA X [e] ta) (hg : Gl X x := by rfl) (hdb : (x == ("__debug__" : Str)) = false := by decide)
    (he : starEach [e] X.env = (false, eval e X.env) :: starEach [] X.env := by rfl) : PMk X (.Call (.Name x p) [e] [] pos) (tErr1 C f ta) := by
  obtain ⟨fI, fd, iC, tI, F1, hb⟩ := O.ini
  refine pmk_imp (pmk_oex O.ox iC tI F1 hr hb .nil pass0E hg O.gl (pa_up ha) hdb he rfl) fun σ H Q q => ?_
  refine ⟨_, q, fun vs H1 ⟨v, ev, k⟩ => ?_⟩
  subst ev
  refine ⟨Nat.le_of_ble_eq_true rfl, fun a ha => ⟨a, v, rfl, upd_same, fun d hd hda => ⟨rfl, d, [(f, v)], xd_of, ?_, ?_, ?_⟩⟩⟩
  · unfold exoD
    rw [upd_ne hda, upd_same]
  · rw [upd_ne hda] at hd
    exact hd
  · rw [exoD_end ha]
    rw [upd_ne hda] at hd
    exact k d hd
/-- x(e, e2) -/
theorem pmk_err2 {e2 : Expr} (O : OwnX X.prog X.w X.K X.mg X.base x [f, g] (spI2 C f g) C) (hr : Room 2 X.A) (ha : PA X [e, e2] ta) (hg : Gl X x := by rfl) (hdb : (x == ("__debug__" : Str)) = false := by decide)
    (he : starEach [e, e2] X.env = (false, eval e X.env) :: starEach [e2] X.env := by rfl) (hpl : (backTo pos (starEach [e2] X.env)).any (·.1) = false := by rfl) : PMk X (.Call (.Name x p) [e, e2] [] pos) (tErr2 C f g ta) := by
  obtain ⟨fI, fd, iC, tI, F1, hb⟩ := O.ini
  refine pmk_imp (pmk_oex O.ox iC tI F1 hr hb .nil pass0E hg O.gl (pa_up ha) hdb he hpl) fun σ H Q q => ?_
  refine ⟨_, q, fun vs H1 ⟨v, w, ev, k⟩ => ?_⟩
  subst ev
  refine ⟨Nat.le_of_ble_eq_true rfl, fun a ha => ⟨a, v, w, rfl, upd_same, fun d hd hda => ⟨rfl, d, [(g, w), (f, v)], xd_of, ?_, ?_, ?_⟩⟩⟩
  · unfold exoD
    rw [upd_ne hda, upd_same]
  · rw [upd_ne hda] at hd
    exact hd
  · rw [exoD_end ha]
    rw [upd_ne hda] at hd
    exact k d hd
/-- the end of x(): the exception, which has no dict, is let go -/
theorem mk_endN {pins : List (Addr × Obj)} {σ : L2.St} {H1 : Hp} {Q : XK} {hp hp2 h2 : Heap} {g1 g2 : Array GenState} {d1 d2 : Drawn} {t1 t2 : Nat} {os1 os2 : OsState} {a : Addr} (T : Raises X (.ref C)) (I1 : Inv X pins σ H1 ⟨hp, g1, d1, t1, os1⟩)
    (ha : hp.objs.size ≤ a) (k : ∀ b o, hp.get? b = some o → hp2.get? b = some o) (un : Un (frs X.stack) [] (upd H1 a (exo a C none)) (upd H1 a (exo a C none)) hp2 h2) (hok : HOk X.prog X.w (upd H1 a (exo a C none)) h2) (ho : os2 = os1) (hb : AllBare g2)
    (q : Q (.ref C) none H1) : MkP X pins σ Q (.ref a) ⟨h2, g2, d2, t2, os2⟩ := by
  obtain ⟨t0, hoe⟩ := exo_at (e := a) (C := C) (d := none) hok upd_same
  have hn : H1 a = none := I1.hok.fresh ha
  obtain ⟨G, g1', g2'⟩ := restrict h2 fun b => decide (b ≠ a)
  have gk : ∀ b, b ≠ a → G.get? b = h2.get? b := fun b hb => g1' b (decide_eq_true hb)
  have ge : G.get? a = none := g2' a (by simp)
  have nha : ∀ {b : Addr} {o : Obj}, hp.get? b = some o → b ≠ a := fun {b o} z => Nat.ne_of_lt (Nat.lt_of_lt_of_le (Heap.lt_size z) ha)
  have up : ∀ {b : Addr}, b ≠ a → H1 b = none → upd H1 a (exo a C none) b = none := fun {b} hb n => by rw [upd_ne hb]; exact n
  have U : Un (frs X.stack) [] H1 H1 hp G := {
    keep := fun b o z n hf hx => by
      rw [gk b (nha z)]
      exact un.keep b o (k b o z) (up (nha z) n) hf hx
    slot := fun b o z n hf hx => by
      rw [gk b (nha z)]
      exact un.slot b o (k b o z) (up (nha z) n) hf hx
    free := fun b o z n hx => n
    there := fun b o z hx => by
      rw [gk b (nha z)]
      exact un.there b o (k b o z) hx
    tups := fun b xs z => z
    frzs := fun b o v z => z
    tbls := fun b ps z => ⟨#[], by rw [z]; simp⟩ }
  have hok3 : HOk X.prog X.w H1 G := fun b o z => by
    have hba : b ≠ a := fun e => by
      rw [e, hn] at z
      cases z
    have z2 : upd H1 a (exo a C none) b = some o := (upd_ne hba).trans z
    have noa : ∀ {c : Addr}, upd H1 a (exo a C none) c = some (.own b) → c ≠ a := fun {c} hc e => by
      rw [e, upd_same] at hc
      exact exo_own (Option.some.inj hc)
    exact (hok b o z2).stay (fun c v hc y => by
        have hca : c ≠ a := by
          rcases hc with hc | hc
          · rw [hc]
            exact hba
          · exact noa hc
        rw [gk c hca]
        exact y)
      (fun c hc => by rw [upd_ne (noa hc)] at hc; exact hc) (fun c xs hc => by
        have hca : c ≠ a := fun e => by
          rw [e, upd_same] at hc
          exact exo_tup (Option.some.inj hc)
        rw [upd_ne hca] at hc
        exact hc)
  have J : Inv X pins σ H1 ⟨G, g2, d2, t2, os2⟩ := I1.call' (ch := []) ho U hok3 hb (fun b z => absurd z (by simp))
  refine ⟨a, _, _, ⟨G, g2, d2, t2, os2⟩, H1, .ref C, none, rfl, J, fun b o z => ?_, ge, hoe, ⟨rfl, rfl⟩, rfl, rfl, hn, rfl, hb, T, q⟩
  by_cases hba : b = a
  · rw [hba, ge] at z
    cases z
  · exact (gk b hba).symm.trans z
/-- x() -/
theorem pmk_err0 (O : OwnX X.prog X.w X.K X.mg X.base x [] (spI0 C) C) (hr : Room 2 X.A) (hg : Gl X x := by rfl) (hdb : (x == ("__debug__" : Str)) = false := by decide) : PMk X (.Call (.Name x p) [] [] pos) (tErr0 C) := by
  obtain ⟨fI, fd, iC, tI, F1, hb⟩ := O.ini
  intro pins s σ H Q I h
  obtain ⟨nm, q, N, bs, bm, sn, sub, ab, col, dd, k0, k1, k2, k3, k5, hC, hbm⟩ := O.ox.cls
  refine wpAny_Call_Name_kw (ld_glob I hg O.gl ?_ hdb)
  refine PySem.W.callWith_K0 I.kIn O.ox.kC ?_
  show wpAny _ _ (call (.ref C) []) _ _ _
  obtain ⟨hp, g, dr, tk, os⟩ := s
  have hsz : hp.objs.size ≤ hp.objs.size + 1 := Nat.le_succ _
  have hn : H (hp.objs.size + 1) = none := I.hok.fresh hsz
  have kk : ∀ b o, hp.get? b = some o → ((hp.push (PySem.W.kdv_tup [])).push (PySem.HandSPX.excO C hp.objs.size)).get? b = some o := fun b o e => Heap.get?_push_of_some _ (Heap.get?_push_of_some _ e)
  have hget : ((hp.push (PySem.W.kdv_tup [])).push (PySem.HandSPX.excO C hp.objs.size)).get? (hp.objs.size + 1) = some (PySem.HandSPX.excO C hp.objs.size) := by heap_get
  have I2 : Inv X pins σ (upd H (hp.objs.size + 1) (exo (hp.objs.size + 1) C none)) ⟨(hp.push (PySem.W.kdv_tup [])).push (PySem.HandSPX.excO C hp.objs.size), g, dr, tk, os⟩ :=
    I.laid (t' := tk) (a := hp.objs.size + 1) (o := exo (hp.objs.size + 1) C none) (h' := (hp.push (PySem.W.kdv_tup [])).push (PySem.HandSPX.excO C hp.objs.size)) kk hsz (exo_ok hget)
  have r2 : Vals [V.ref (hp.objs.size + 1)] [Value.ref (hp.objs.size + 1)] := .cons rfl .nil
  have hq : spI0 C [V.ref (hp.objs.size + 1)] (upd H (hp.objs.size + 1) (exo (hp.objs.size + 1) C none)) (fun v H2 => v = .non ∧ H2 = upd H (hp.objs.size + 1) (exo (hp.objs.size + 1) C none)) (fun _ _ _ => False) := ⟨_, rfl, upd_same, rfl, rfl⟩
  refine wpAny_call (PySem.HandSPX.call_own F.excBase_ValueError (fun Y => PySem.HandSPX.refsVE_contains Y bm hbm) (I.kIn _ _ hC) (PySem.W.looks_findIn I.kIn iC) (fun self => PySem.W.bind_fn I.kIn self tI) (Nat.zero_le _)
    (codeAny_mono (F1.run _ X.stack _ _ ⟨[Value.ref (hp.objs.size + 1)], []⟩ [Value.ref (hp.objs.size + 1)] _ _ (fun _ _ _ => False) ((hr.mono (by omega : 2 ≤ 2)).make C [] [] |>.mono (Nat.le_refl _)) (I2.env0.make C [] []) (hb _ [Value.ref (hp.objs.size + 1)] I2.kIn rfl) r2 hq) fun r s' hq' => ?_))
  cases r with
  | error er => exact hq'.elim
  | ok fl =>
    cases fl with
    | ret u =>
      obtain ⟨v, H2, os2, bare2, un2, hok2, rv, ev, eH⟩ := hq'
      subst ev
      subst eH
      obtain ⟨h2, g2, d2, t2, os'⟩ := s'
      exact ⟨rv, mk_endN (raises_own O.ox.exC O.ox.tyC) I hsz kk un2 hok2 os2 bare2 h⟩
    | next => exact False.elim hq'
    | brk => exact False.elim hq'
    | cont => exact False.elim hq'
end
end Ls
namespace Ls
open PySem PySem.Spec PyProof.Rows L2

/-! ### several clauses «except X as e» -/
/-- the ends of a suite behind which the name at slot i goes -/
def asEnds (D : Ends) (i : Nat) : Ends := { nx := fun σ' H' => D.nx (σ'.set i none) H', rt := D.rt, bk := fun σ' H' => D.bk (σ'.set i none) H', ct := fun σ' H' => D.ct (σ'.set i none) H' }
/-- a clause: its class, its name's slot, its suite -/
structure AsCl where
  c : Value
  i : Nat
  ts : Addr → Value → Option Addr → TS
/-- what the clauses wish of an exception of the body -/
def wAsM (K : PySem.W.Frag) (Wout : WX) (D : Ends) : List AsCl → WX
  | [] => Wout
  | q :: r => fun cls d σ H => ∃ b, PySem.W.exmOne K cls q.c = some b ∧ (b = true → ∀ a, H a = none → q.ts a cls d (asEnds D q.i) (σ.set q.i (some (.ref a))) H) ∧ (b = false → wAsM K Wout D r cls d σ H)
inductive AsOk (X : Cx) : List ExceptHandler → List AsCl → Prop
  | nil : AsOk X [] []
  | cons {x n : Str} {q : AsCl} {st : Stmt} {sts : List Stmt} {p1 p2 : Pos} {hds : List ExceptHandler} {l : List AsCl} (hi : X.N[q.i]? = some n) (hl : X.env.kindOf n = some .local) (hc : Names X x q.c)
      (hsu : ∀ (a : Addr) (oe : Obj) (cls : Value) (d : Option Addr) (pn : List (Addr × Obj)), Zc cls d oe → (∃ vs, oe.data = .fields vs) → PSs (X.suite a ((a, oe) :: pn)) (st :: sts) (q.ts a cls d)) (r : AsOk X hds l) :
      AsOk X (.ExceptHandler (some (.Name x p1)) (some n) (st :: sts) p2 :: hds) (q :: l)
/-- where an exception of the body arrives -/
abbrev xeAs (X : Cx) (pins : List (Addr × Obj)) (hds : List ExceptHandler) (D : Ends) : Value → Shared → Prop := fun e s₁ =>
  wpAny (model X.prog X.w) X.A (noteFrame e X.env) (fun _ s₂ => wpAny (model X.prog X.w) X.A (setFlight e none) (fun _ s₃ => wpAny (model X.prog X.w) X.A (handleBy e X.env hds) (SP X pins D) X.xe s₃) X.xe s₂) X.xe s₁
section
variable {X : Cx} {body : List Stmt} {h₀ : ExceptHandler} {hds : List ExceptHandler} {l : List AsCl} {pos : Pos} {tb : WX → TS} {Wout : WX} {pins : List (Addr × Obj)} {D : Ends}
theorem as_takes (ok : X.Ok) (hs : X.stack = X.env :: X.outer) (hf : X.env.frame = some X.env.locals) (hN : X.N.Nodup) (tk : Takes X Wout) (hh : AsOk X hds l) : Takes (X.tr (X.pn ++ pins) (xeAs X pins hds D)) (wAsM X.K Wout D l) := by
  intro u s' xx
  have hfr : X.A.frames = some (X.env :: X.outer) := by rw [ok.frames, hs]
  obtain ⟨a, B, sI, pins', σ', H', cls, d, rfl, JT, nb, up, sky, na, os, ag, w0⟩ := xx
  have J : Inv X pins σ' H' sI := JT.ofTry ok
  have sky2 : Sky B (X.env :: X.outer) a (Zc cls d) X.env.locals s'.heap := by
    rw [← hs]
    exact sky
  show wpAny _ _ (noteFrame (.ref a) X.env) _ _ _
  refine Sky.land Zc.steady hfr hf sky2 fun hA flA upA => ?_
  have JA : Inv X pins σ' H' { s' with heap := hA } := J.landed nb flA.1 (up.trans upA) os ag
  obtain ⟨oA, vA, eA, zA, dA⟩ := flA.there
  have nfr : a ∉ frs (X.env :: X.outer) := fun hm => by
    obtain ⟨_, o', e', hnf⟩ := (flA.2.2.1).mem hm
    have e2 := eA.symm.trans e'
    cases e2
    exact hnf _ dA
  have nL : a ≠ X.env.locals := fun z => nfr (List.mem_filterMap.mpr ⟨X.env, List.mem_cons_self, by rw [hf, z]⟩)
  have nF : a ∉ X.fs := fun hm => by
    obtain ⟨y, hy, q⟩ := List.mem_filterMap.mp hm
    exact nfr (List.mem_filterMap.mpr ⟨y, .tail _ hy, q⟩)
  have SA := JA.suite eA dA na nL nF
  have LT : PySem.W.Looks (model X.prog X.w) hA (typeOf (.ref a)) cls := fun A Q E s k q => wpAny_typeOf_ref (k _ _ eA) (by rw [zA.1]; exact q)
  have go : ∀ {hds' : List ExceptHandler} {l' : List AsCl}, AsOk X hds' l' → wAsM X.K Wout D l' cls d σ' H' → wpAny (model X.prog X.w) X.A (handleBy (.ref a) X.env hds') (SP X pins D) X.xe { s' with heap := hA } := by
    intro hds' l' hk
    induction hk with
    | nil =>
      intro w
      refine wpAny_handleBy_nil ?_
      obtain ⟨_, _, _, oe, vs, T, _, _, he, _, hd, h1, _⟩ := id flA
      unfold PySem.passOn
      refine wpAny_bind (wpAny_field he hd h1 ?_)
      have nt : ¬ ((Value.ref T == Value.none) = true) := by simp
      rw [if_neg nt]
      have fin : wpAny (model X.prog X.w) X.A (setFlight (.ref a) X.env.frame) (fun _ s4 => wpAny (model X.prog X.w) X.A (throw (.ref a) : Sem Flow) (SP X pins D) X.xe s4) X.xe { s' with heap := hA } := by
        rw [hf]
        refine HandSPX.setFlight_upZ flA fun hB skyB upB => wpAny_throw (tk _ _ ?_)
        refine ⟨a, B, sI, pins, σ', H', cls, d, rfl, J, nb, (up.trans upA).trans upB, .inr (.inr ?_), na, os, ag, w⟩
        rw [hs]
        exact skyB
      first
        | exact wpAny_bind (wpAny_pure (wpAny_bind fin))
        | exact wpAny_bind fin
    | @cons x n q st sts p1 p2 hds2 l2 hi hl hc hsu r ih =>
      intro w
      obtain ⟨b, hb, hyes, hno⟩ := w
      refine wpAny_handleBy_cons (codeAny_handlers_test ?_) (by intro z; cases z)
      have LM := PySem.W.exm_one (M := model X.prog X.w) JA.kIn LT hb
      have test : ∀ {Q : Value → Shared → Prop} {E : Value → Shared → Prop}, Q q.c { s' with heap := hA } → wpAny (model X.prog X.w) (X.A.mark (some (.ref a))) (eval (.Name x p1) X.env) Q E { s' with heap := hA } := fun {Q E} z => by
        obtain ⟨hg, hdb, hm | ⟨hm, hv, hnn⟩⟩ := hc
        · exact ld_glob (X := X.suite a ((a, oA) :: (X.pn ++ pins))) SA hg hm z hdb
        · exact ld_blt (X := X.suite a ((a, oA) :: (X.pn ++ pins))) SA hg hm hv z hnn hdb
      refine test (LM.here ?_)
      cases b with
      | false =>
        show wpAny _ X.A (handleBy (.ref a) X.env hds2) _ _ _
        exact ih (hno rfl)
      | true =>
        refine codeAny_handlers_suite_as ?_
        refine HandSPX.lands_againZ flA fun hB flB upB => ?_
        have JB : Inv X pins σ' H' { s' with heap := hB } := J.landed nb flB.1 ((up.trans upA).trans upB) os ag
        obtain ⟨oB, vB, eB, zB, dB⟩ := flB.there
        have SB := JB.suite eB dB na nL nF
        refine store_ok (X := X.suite a ((a, oB) :: (X.pn ++ pins))) (v := .ref a) SB hN hi (.inl hl) rfl (fun s5 S5 => ?_) (.inr hl)
        refine wpAny_mono ((hsu a oB cls d (X.pn ++ pins) zB ⟨_, dB⟩).run [] s5 _ H' _ S5 (hyes rfl a na)) (fun f s6 hsp => ?_) (fun _ _ z => z.elim)
        have gone : ∀ {σ6 : L2.St} {H6 : Hp} {Q : Shared → Prop}, Inv (X.suite a ((a, oB) :: (X.pn ++ pins))) [] σ6 H6 s6 → (∀ s7, Inv X pins (σ6.set q.i none) H6 s7 → Q s7) →
            wpAny (model X.prog X.w) X.A (do bindName X.env n .none; unbindBehindTheSuite X.env n p2) (fun _ s7 => Q s7) X.xe s6 := fun {σ6 H6 Q} S6 hq => gone_ok (S6.unsuite ok) hN hi hl hq
        cases f with
        | ret u =>
          obtain ⟨v6, σ6, H6, S6, r6, q6⟩ := hsp
          exact gone S6 fun s7 J7 => ⟨v6, _, _, J7, r6, q6⟩
        | next =>
          obtain ⟨σ6, H6, S6, q6⟩ := hsp
          exact gone S6 fun s7 J7 => ⟨_, _, J7, q6⟩
        | brk =>
          obtain ⟨σ6, H6, S6, q6⟩ := hsp
          exact gone S6 fun s7 J7 => ⟨_, _, J7, q6⟩
        | cont =>
          obtain ⟨σ6, H6, S6, q6⟩ := hsp
          exact gone S6 fun s7 J7 => ⟨_, _, J7, q6⟩
  exact go hh w0
/-- THE RULE: try: body / except X as e: .. / except Y as f: .. -/
theorem ps_try_asM (hs : X.stack = X.env :: X.outer) (hf : X.env.frame = some X.env.locals) (hN : X.N.Nodup) (tk : Takes X Wout)
    (hb : ∀ (W : WX) (pn : List (Addr × Obj)) (xe : Value → Shared → Prop), Takes (X.tr pn xe) W → PassesOwn (model X.prog X.w) X.A X.env xe → PSs (X.tr pn xe) body (tb W))
    (hh : AsOk X (h₀ :: hds) l) : PS X (.Try body (h₀ :: hds) [] [] pos) (fun D σ H => tb (wAsM X.K Wout D l) D σ H) := by
  refine ⟨fun pins s σ H D I h => ?_⟩
  have ok := I.ok
  refine wpAny_Try_except ?_
  have PB := hb (wAsM X.K Wout D l) (X.pn ++ pins) (xeAs X pins (h₀ :: hds) D) (as_takes ok hs hf hN tk hh) PassesOwn.looking
  refine wpAny_mono (PB.run [] s σ H D (I.toTry _) h) (fun f s1 hsp => ?_) (fun e s1 he => he)
  cases f with
  | next =>
    obtain ⟨σ', H', J', q⟩ := hsp
    exact wpAny_execs_nil ⟨σ', H', J'.ofTry ok, q⟩
  | ret u =>
    obtain ⟨v, σ', H', J', r, q⟩ := hsp
    exact ⟨v, σ', H', J'.ofTry ok, r, q⟩
  | brk =>
    obtain ⟨σ', H', J', q⟩ := hsp
    exact ⟨σ', H', J'.ofTry ok, q⟩
  | cont =>
    obtain ⟨σ', H', J', q⟩ := hsp
    exact ⟨σ', H', J'.ofTry ok, q⟩
end
end Ls
namespace Ls
open PySem PySem.Spec PyProof.Rows L2 NdefX

/-! ### what the written part must say of an own error, as one test -/
/-- C is an own exception class over ValueError -/
def clsB (K : PySem.W.Frag) (C : Addr) : Bool := match K.lookup C with
  | some ⟨.type "type", _, .cls cd, sl⟩ => (match cd.mro, sl.toList with
    | .ref D :: bm, [_, _, _, _, some (.builtin n), _] => D == C && n == "ValueError.__new__" && cd.hasDict && !cd.hasDel && PySem.HandSPX.refsVE bm
    | _, _ => false)
  | _ => false
def findB (K : PySem.W.Frag) (C : Addr) (x : Str) (v : Option Value) : Bool := decide (PySem.W.findIn K (.ref C) x = some v)
def cellB (K : PySem.W.Frag) (C cc : Addr) : Bool := match K.lookup cc with
  | some ⟨_, _, .cell (some v), _⟩ => v == .ref C
  | _ => false
def codeB (P : Program) (K : PySem.W.Frag) (cda : Addr) : Bool := match K.lookup cda with
  | some ⟨_, _, .fields vs, _⟩ => (match (vs : Array Value)[2]? with
    | some (Value.str file _) => (P.main.file : Str) == file
    | _ => false)
  | _ => false
def errB (P : Program) (K : PySem.W.Frag) (C fI cc cda : Addr) (fs : List Str) : Bool :=
  clsB K C && (findB K C "__setattr__" (some (.builtin "object.__setattr__")) && (decide (PySem.W.subIn K (.ref C) (.type "BaseException") = some true) && (decide (PySem.W.typeIn K (.ref C) = some (.type "type")) &&
  (PySem.W.keepIn K (.ref C) && (xfB K C && (codeB P K cda && (cellB K C cc && (decide (PySem.W.mroIn K C (.ref C) = some true) && (decide (PySem.W.nsIn K mainGlobals "super" = some none) &&
  (decide (PySem.W.nsIn K cStatics "thirdparty.any" = some none) && (decide (PySem.W.ks_superIn K C C "__init__" = some (some (.builtin "ValueError.__init__"))) && (decide (PySem.W.subIn K (.ref C) (.type "ValueError") = some true) &&
  (PySem.W.excInitIn K C bmVE "ValueError.__new__" && (!(P.main.scope.names.lookup ("super" : Str)).isSome && (findB K C "__init__" (some (.ref fI)) && (decide (PySem.W.typeIn K (.ref fI) = some (.type "function")) &&
  fs.all fun f => findB K C f none))))))))))))))))

section
variable {P : Program} {w : World} {K : PySem.W.Frag} {mg : Str → Option Value} {base h : Heap} {C fI cc cda : Addr} {fs : List Str}
theorem clsB_ok (q : clsB K C = true) : ∃ nm qn N bs bm sn sub ab col dd k0 k1 k2 k3 k5, K.lookup C = some (excClassObj nm qn C N bs bm true sn sub ab col dd k0 k1 k2 k3 k5 "ValueError.__new__") ∧ PySem.HandSPX.refsVE bm = true := by
  unfold clsB at q
  split at q
  · rename_i dd cd sl ho
    split at q
    · rename_i D bm k0 k1 k2 k3 n k5 hm hs
      simp only [Bool.and_eq_true, beq_iff_eq, Bool.not_eq_true'] at q
      obtain ⟨⟨⟨⟨rfl, rfl⟩, hd⟩, hdel⟩, hr⟩ := q
      obtain ⟨nm, bs, mro, ns, qn, hd', sn, sub, ab, col, del⟩ := cd
      dsimp only at hm hdel hd
      subst hm hdel hd
      obtain ⟨l⟩ := sl
      simp only at hs
      subst hs
      exact ⟨nm, qn, ns, bs, bm, sn, sub, ab, col, dd, k0, k1, k2, k3, k5, ho, hr⟩
    · cases q
  · cases q
/-- what the test tells -/
structure ErrK (P : Program) (K : PySem.W.Frag) (C fI cc cda : Addr) (fs : List Str) : Prop where
  sup : SupC P K C cc cda
  xf : XfC K C
  ini : PySem.W.findIn K (.ref C) "__init__" = some (some (.ref fI))
  tI : PySem.W.typeIn K (.ref fI) = some (.type "function")
  nof : ∀ f ∈ fs, PySem.W.findIn K (.ref C) f = some none
theorem errB_ok (q : errB P K C fI cc cda fs = true) : ErrK P K C fI cc cda fs := by
  unfold errB at q
  obtain ⟨q1, q⟩ := Bool.and_eq_true_iff.mp q
  obtain ⟨q2, q⟩ := Bool.and_eq_true_iff.mp q
  obtain ⟨q3, q⟩ := Bool.and_eq_true_iff.mp q
  obtain ⟨q4, q⟩ := Bool.and_eq_true_iff.mp q
  obtain ⟨q5, q⟩ := Bool.and_eq_true_iff.mp q
  obtain ⟨q6, q⟩ := Bool.and_eq_true_iff.mp q
  obtain ⟨q7, q⟩ := Bool.and_eq_true_iff.mp q
  obtain ⟨q8, q⟩ := Bool.and_eq_true_iff.mp q
  obtain ⟨q9, q⟩ := Bool.and_eq_true_iff.mp q
  obtain ⟨q10, q⟩ := Bool.and_eq_true_iff.mp q
  obtain ⟨q11, q⟩ := Bool.and_eq_true_iff.mp q
  obtain ⟨q12, q⟩ := Bool.and_eq_true_iff.mp q
  obtain ⟨q13, q⟩ := Bool.and_eq_true_iff.mp q
  obtain ⟨q14, q⟩ := Bool.and_eq_true_iff.mp q
  obtain ⟨q15, q⟩ := Bool.and_eq_true_iff.mp q
  obtain ⟨q16, q⟩ := Bool.and_eq_true_iff.mp q
  obtain ⟨q17, q18⟩ := Bool.and_eq_true_iff.mp q
  have O : OexC K C := ⟨clsB_ok q1, of_decide_eq_true q2, of_decide_eq_true q3, of_decide_eq_true q4, q5⟩
  refine ⟨⟨O, ?_, ?_, of_decide_eq_true q9, of_decide_eq_true q10, of_decide_eq_true q11, of_decide_eq_true q12, of_decide_eq_true q13, q14, by simpa using q15⟩, xfB_ok q6, of_decide_eq_true q16, of_decide_eq_true q17, fun f hf => ?_⟩
  · unfold codeB at q7
    split at q7
    · rename_i c d vs sl ho
      split at q7
      · rename_i file tk hv
        exact ⟨c, d, vs, sl, file, tk, ho, hv, q7⟩
      · cases q7
    · cases q7
  · unfold cellB at q8
    split at q8
    · rename_i c d v sl ho
      have e := beq_iff_eq.mp q8
      subst e
      exact ⟨c, d, sl, ho⟩
    · cases q8
  · exact of_decide_eq_true (List.all_eq_true.mp q18 f hf)

variable {x qual f g : Str} {st : Stmt} {oc doc pm ct : Value} {od : Option Addr} {osl : Array (Option Value)}
theorem own_x0 (X : K.In h) (G : h.Ns mainGlobals mg) (Tx : ErrTx st qual []) (a : PySem.W.nsIn K mainGlobals x = some (some (.ref C)))
    (l : K.lookup fI = some ⟨oc, od, .func (PySem.W.fnX "__init__" qual (defArgs st) (defBody st) (defScope st) [("__class__", cc)] .none .none doc pm none (.ref cda) ct), osl⟩) (c : PySem.W.codeIn K (.ref cda) qual = true)
    (b : errB P K C fI cc cda [] = true) : OwnX P w K mg base x [] (spI0 C) C :=
  have E := errB_ok b
  ⟨E.sup.ox, E.xf, PySem.W.mg_of X G a, E.nof, _, _, E.ini, E.tI, err_fn0 E.sup Tx l c, .all fun us hl => Tx.bind _ _ _ _ _ us hl⟩
theorem own_x1 (X : K.In h) (G : h.Ns mainGlobals mg) (Tx : ErrTx st qual [f]) (a : PySem.W.nsIn K mainGlobals x = some (some (.ref C)))
    (l : K.lookup fI = some ⟨oc, od, .func (PySem.W.fnX "__init__" qual (defArgs st) (defBody st) (defScope st) [("__class__", cc)] .none .none doc pm none (.ref cda) ct), osl⟩) (c : PySem.W.codeIn K (.ref cda) qual = true)
    (b : errB P K C fI cc cda [f] = true) : OwnX P w K mg base x [f] (spI1 C f) C :=
  have E := errB_ok b
  ⟨E.sup.ox, E.xf, PySem.W.mg_of X G a, E.nof, _, _, E.ini, E.tI, err_fn1 E.sup Tx (E.nof _ (.head _)) l c, .all fun us hl => Tx.bind _ _ _ _ _ us hl⟩
theorem own_x2 (X : K.In h) (G : h.Ns mainGlobals mg) (Tx : ErrTx st qual [f, g]) (a : PySem.W.nsIn K mainGlobals x = some (some (.ref C)))
    (l : K.lookup fI = some ⟨oc, od, .func (PySem.W.fnX "__init__" qual (defArgs st) (defBody st) (defScope st) [("__class__", cc)] .none .none doc pm none (.ref cda) ct), osl⟩) (c : PySem.W.codeIn K (.ref cda) qual = true)
    (b : errB P K C fI cc cda [f, g] = true) : OwnX P w K mg base x [f, g] (spI2 C f g) C :=
  have E := errB_ok b
  ⟨E.sup.ox, E.xf, PySem.W.mg_of X G a, E.nof, _, _, E.ini, E.tI, err_fn2 E.sup Tx (E.nof _ (.head _)) (E.nof _ (.tail _ (.head _))) l c, .all fun us hl => Tx.bind _ _ _ _ _ us hl⟩
end
end Ls
namespace Ls
open PySem PySem.Spec PyProof.Rows L2

/-! ### defs that may raise -/
/-- a def of the module that keeps a promise, errors and all -/
structure OwnR (P : Program) (w : World) (K : PySem.W.Frag) (mg : Str → Option Value) (base : Heap) (k : Nat) (x : Str) (ps : List Str) (sp : Sp) : Prop where
  ex : ∃ (f : Addr) (fd : FuncData), FnOk P w K mg base (L2.CX P w) k f fd ps sp ∧ mg x = some (.ref f) ∧ PySem.W.keepIn K (.ref f) = true ∧ Binds K fd ps []
/-- a method -/
structure OwnMR (P : Program) (w : World) (K : PySem.W.Frag) (mg : Str → Option Value) (base : Heap) (k : Nat) (C : Addr) (m : Str) (ps : List Str) (sp : Sp) : Prop where
  cl : Cls K C
  ex : ∃ (f : Addr) (fd : FuncData), FnOk P w K mg base (L2.CX P w) k f fd ps sp ∧ Meth K C m f ∧ Binds K fd ps []
/-- a class that is called -/
structure OwnCR (P : Program) (w : World) (K : PySem.W.Frag) (mg : Str → Option Value) (base : Heap) (k : Nat) (C : Addr) (x : Str) (ps : List Str) (sp : Sp) : Prop where
  ex : ∃ (f : Addr) (fd : FuncData), FnOk P w K mg base (L2.CX P w) k f fd ps sp ∧ mg x = some (.ref C) ∧ Mk K C f ∧ Binds K fd ps []
def tMakeS (C : Addr) (sp : Sp) (W : WX) (t : TA) : TE := fun σ H Q => t σ H fun vs H1 => ∀ x dx, H1 x = none → H1 dx = none → dx ≠ x → sp (.ref x :: vs) (upd (upd H1 dx (.own x)) x (.ins C dx [])) (fun v H2 => v = .non ∧ Q (.ref x) H2) (WE W σ)
def tMethR (C : Addr) (m : Str) (sp : Sp) (W : WX) (ta : TE) (t : TA) : TE := fun σ H Q => ta σ H fun x H1 => ∃ a dx fs, x = .ref a ∧ H1 a = some (.ins C dx fs) ∧ fs.lookup m = none ∧ t σ H1 fun vs H2 => sp (x :: vs) H2 Q (WE W σ)
section
variable {X : Cx} {W : WX} {k j : Nat} {x m : Str} {ps : List Str} {sp : Sp} {p pos apos : Pos} {e o : Expr} {es : List Expr} {t : TA} {ta : TE} {C : Addr} {pl : Sem Bool}
theorem own_callR (O : OwnR X.prog X.w X.K X.mg X.base k x ps sp) (hr : Room j X.A) (hkj : k ≤ j) (tk : Takes X W) (ha : PA X (e :: es) t)
    (hg : Gl X x := by rfl) (hdb : (x == ("__debug__" : Str)) = false := by decide) (he : starEach (e :: es) X.env = (false, eval e X.env) :: starEach es X.env := by rfl) (hpl : (backTo pos (starEach es X.env)).any (·.1) = false := by rfl) :
    PE X (.Call (.Name x p) (e :: es) [] pos) (tCallS sp (WE W) t) := by
  obtain ⟨f, fd, F, g, kp, b⟩ := O.ex
  exact pe_callS F (hr.mono hkj) hg g kp b (fun σ => passAt tk σ) ha hdb he hpl
theorem own_callR0 (O : OwnR X.prog X.w X.K X.mg X.base k x ps sp) (hr : Room j X.A) (hkj : k ≤ j) (tk : Takes X W) (hg : Gl X x := by rfl) (hdb : (x == ("__debug__" : Str)) = false := by decide) :
    PE X (.Call (.Name x p) [] [] pos) (tCallS sp (WE W) tNil) := by
  obtain ⟨f, fd, F, g, kp, b⟩ := O.ex
  refine ⟨fun pins s σ H Q I h => ?_⟩
  refine wpAny_Call_Name_kw (ld_glob I hg g ?_ hdb)
  exact PySem.W.callWith_K0 I.kIn kp (run_fnS (us := []) F (hr.mono hkj) b (passAt tk σ) I .nil h)
theorem own_methR (O : OwnMR X.prog X.w X.K X.mg X.base k C m ps sp) (hr : Room j X.A) (hkj : k ≤ j) (tk : Takes X W) (ho : PE X o ta) (ha : PA X (e :: es) t)
    (hst : starEach (e :: es) X.env = (false, eval e X.env) :: starEach es X.env := by rfl) (hpl : (backTo pos (starEach es X.env)).any (·.1) = false := by rfl)
    (ht : eval (.Call (.Attribute o m apos) (e :: es) [] pos) X.env = (do
      let ov ← eval o X.env
      standAt apos.atName
      let (f, first) ← holding [ov] (getMethod ov m pl)
      callWith pos f first (backTo pos (starEach (e :: es) X.env)) (backToKw pos (keywordEach [] X.env))) := by rfl) :
    PE X (.Call (.Attribute o m apos) (e :: es) [] pos) (tMethR C m sp W ta t) := by
  obtain ⟨f, fd, F, me, b⟩ := O.ex
  refine ⟨fun pins s σ H Q I h => ?_⟩
  refine PySem.W.methodCall_KW (pl := pl) (thn (ho.run pins s σ H _ I h) fun u s1 hh => ?_) ht
  obtain ⟨y, H1, I1, ry, a, dx, fs, ey, ea, l, q⟩ := hh
  subst ey
  obtain rfl : u = Value.ref a := ry
  refine getmeth_ok I1 ea O.cl me l ?_
  refine PySem.W.callWith_K (first := [.ref a]) (h₀ := X.base) I.ok.mod.kin me.kp (thn (ha.run pos pins s1 σ H1 _ I1 q) fun us s2 hv => ?_) hst hpl
  obtain ⟨vs, H2, I2, r, q2⟩ := hv
  exact ⟨I2.kIn, run_fnS (us := .ref a :: us) (vs := .ref a :: vs) F (hr.mono hkj) b (passAt tk σ) I2 (.cons rfl r) q2⟩
theorem own_methR0 (O : OwnMR X.prog X.w X.K X.mg X.base k C m ps sp) (hr : Room j X.A) (hkj : k ≤ j) (tk : Takes X W) (ho : PE X o ta)
    (ht : eval (.Call (.Attribute o m apos) [] [] pos) X.env = (do
      let ov ← eval o X.env
      standAt apos.atName
      let (f, first) ← holding [ov] (getMethod ov m pl)
      callWith pos f first (backTo pos (starEach [] X.env)) (backToKw pos (keywordEach [] X.env))) := by rfl) :
    PE X (.Call (.Attribute o m apos) [] [] pos) (tMethR C m sp W ta tNil) := by
  obtain ⟨f, fd, F, me, b⟩ := O.ex
  refine ⟨fun pins s σ H Q I h => ?_⟩
  refine PySem.W.methodCall_KW (pl := pl) (thn (ho.run pins s σ H _ I h) fun u s1 hh => ?_) ht
  obtain ⟨y, H1, I1, ry, a, dx, fs, ey, ea, l, q⟩ := hh
  subst ey
  obtain rfl : u = Value.ref a := ry
  refine getmeth_ok I1 ea O.cl me l ?_
  exact PySem.W.callWith_K0 (first := [.ref a]) I1.kIn me.kp (run_fnS (us := [.ref a]) (vs := [.ref a]) F (hr.mono hkj) b (passAt tk σ) I1 (.cons rfl .nil) q)
theorem own_makeR (O : OwnCR X.prog X.w X.K X.mg X.base k C x ps sp) (hr : Room j X.A) (hkj : k + 1 ≤ j) (tk : Takes X W) (ha : PA X (e :: es) t)
    (hg : Gl X x := by rfl) (hdb : (x == ("__debug__" : Str)) = false := by decide) (he : starEach (e :: es) X.env = (false, eval e X.env) :: starEach es X.env := by rfl) (hpl : (backTo pos (starEach es X.env)).any (·.1) = false := by rfl) :
    PE X (.Call (.Name x p) (e :: es) [] pos) (tMakeS C sp W t) := by
  obtain ⟨f, fd, F, g, M, b⟩ := O.ex
  have hr2 : Room (k + 1) X.A := hr.mono hkj
  refine ⟨fun pins s σ H Q I h => ?_⟩
  refine wpAny_Call_Name_kw (ld_glob I hg g ?_ hdb)
  refine PySem.W.callWith_K (h₀ := X.base) I.ok.mod.kin M.kp (thn (ha.run pos pins s σ H _ I h) fun us s1 hh => ?_) he hpl
  obtain ⟨vs, H1, I1, r, q⟩ := hh
  refine ⟨I1.kIn, ?_⟩
  show wpAny _ _ (call (.ref C) us) _ _ _
  have hq := q (s1.heap.objs.size + 1) s1.heap.objs.size (I1.hok.fresh (Nat.le_succ _)) (I1.hok.fresh (Nat.le_refl _)) (Nat.ne_of_lt (Nat.lt_succ_self _))
  have I2 := Inv.made (C := C) I1
  have r2 : Vals (V.ref (s1.heap.objs.size + 1) :: vs) (Value.ref (s1.heap.objs.size + 1) :: us) := .cons rfl r
  have hl : (Value.ref (s1.heap.objs.size + 1) :: us ++ []).length = ps.length := by
    rw [List.append_nil, ← r2.length]
    exact F.len _ _ _ _ hq
  have hb := b _ (Value.ref (s1.heap.objs.size + 1) :: us) I2.kIn hl
  rw [List.append_nil] at hb
  refine wpAny_call (make_map (f := f) I1.kIn M.makes M.init (beq_iff_eq.mp M.fn) (codeAny_mono (F.run _ X.stack _ _ ⟨Value.ref (s1.heap.objs.size + 1) :: us, []⟩ (Value.ref (s1.heap.objs.size + 1) :: us) _ _ (WE W σ) (hr2.make C us [])
    (I2.env0.make C us []) hb r2 hq) fun r s' hq' => ?_))
  cases r with
  | error er => exact passAt tk σ pins _ _ er s' I2 hq'
  | ok fl =>
    cases fl with
    | ret u =>
      obtain ⟨v, H', I3, rv, ev, q3⟩ := I2.after hq'
      subst ev
      exact ⟨rv, ⟨V.ref (s1.heap.objs.size + 1), H', I3, rfl, q3⟩⟩
    | next => exact False.elim hq'
    | brk => exact False.elim hq'
    | cont => exact False.elim hq'
/-- raise x(..) -/
def tRaise (W : WX) (t : L2.St → Hp → XK → Prop) : TS := fun _ σ H => t σ H fun cls d H' => W cls d σ H'
theorem ps_err {t : L2.St → Hp → XK → Prop} (hc : X.calm = true) (tk : Takes X W) (he : PMk X e t) : PS X (.Raise (some e) none pos) (tRaise W t) := ps_raise hc tk he
end
/-- what a def's body takes -/
theorem takes_def {P : Program} {w : World} {K : PySem.W.Frag} {mg : Str → Option Value} {base : Heap} {N : List Str} {qual : Str} {scope : Scope} {f : Addr} {cd : Value} {A : Around} {outer : List Env} {s : Shared} {H : Hp} {E : XK} :
    Takes (cxOf (L2.CX P w) P w K mg base N qual scope f cd A outer s H E) (fun cls d _ H => E cls d H) := takes_of rfl rfl rfl rfl
theorem own_def {P : Program} {w : World} {K : PySem.W.Frag} {mg : Str → Option Value} {base : Heap} {N : List Str} {qual : Str} {scope : Scope} {f : Addr} {cd : Value} {A : Around} {outer : List Env} {s : Shared} {H : Hp} {E : XK} :
    PassesOwn (model P w) (A.deeper (envOfC qual scope s.heap.objs.size f cd)) (envOfC qual scope s.heap.objs.size f cd) (cxOf (L2.CX P w) P w K mg base N qual scope f cd A outer s H E).xe := passes_of (X := cxOf (L2.CX P w) P w K mg base N qual scope f cd A outer s H E) rfl
end Ls
namespace Ls
open PySem PySem.Spec PyProof.Rows L2

/-! ### a list or a tuple: iterated over, unpacked -/
/-- the items of a list or of a tuple -/
def SqU (K : PySem.W.Frag) (H : Hp) (a : Addr) (xs : List V) : Prop := SqL K H a xs ∨ SqT K H a xs
/-- what is known of H1 is known of H2 -/
def Stays (H1 H2 : Hp) : Prop := ∀ b u, H1 b = some u → H2 b = some u
section
variable {K : PySem.W.Frag} {H1 H2 : Hp} {a : Addr} {xs : List V} {o : HO}
theorem Stays.rd (s : Stays H1 H2) (h : Rd H1 a o) : Rd H2 a o := by
  rcases h with h | ⟨ob, h⟩
  · exact .inl (s _ _ h)
  · exact .inr ⟨ob, s _ _ h⟩
theorem Stays.sqL (s : Stays H1 H2) (h : SqL K H1 a xs) : SqL K H2 a xs := h.elim (fun z => .inl (s.rd z)) .inr
theorem Stays.sqT (s : Stays H1 H2) (h : SqT K H1 a xs) : SqT K H2 a xs := h.elim (fun z => .inl (s.rd z)) .inr
theorem Stays.sqU (s : Stays H1 H2) (h : SqU K H1 a xs) : SqU K H2 a xs := h.elim (fun z => .inl (s.sqL z)) fun z => .inr (s.sqT z)
end
/-- for .. in e, e a list or a tuple (so it stood in H0): the walk J over its items is known while G stands, and what keeps H0 keeps G -/
def iSeq (K : PySem.W.Frag) (te : TE) : TI := fun σ H R => te σ H fun x H1 => ∃ a xs H0, x = .ref a ∧ SqU K H0 a xs ∧ Stays H0 H1 ∧ ∀ (J : It) (G : Hp → Prop), Walk J xs.length G (YAt xs) → G H1 → (∀ H2, Stays H0 H2 → G H2) → R J H1
/-- (a, b, ..) = a list or a tuple of that length -/
def gSeq (K : PySem.W.Frag) (n : Nat) (t : TGs) : TG := fun v σ H Q => ∃ a xs, v = .ref a ∧ SqU K H a xs ∧ xs.length = n ∧ t xs σ H Q
section
variable {X : Cx} {tg e : Expr} {te : TE} {pos : Pos}
theorem pi_seq (he : PE X e te) : PI X tg e (iSeq X.K te) := by
  refine ⟨fun pins s σ H R I h => ?_⟩
  refine thn (he.run pins s σ H _ I h) fun v s1 hh => ?_
  obtain ⟨x, H1, I1, r1, a, xs, H0, rfl, h0, st, q⟩ := hh
  cases r1
  have fine : ∀ {H2 : Hp} {J : Inv X pins σ H2 s1}, ∀ b ∈ [s1.heap.objs.size], FpOk X pins H2 b := fun {H2 J} b hb => by
    have eb : b = s1.heap.objs.size := by simpa using hb
    subst eb
    exact J.fpOk (Nat.le_refl _) (J.hok.fresh (Nat.le_refl _))
  rcases h0 with h0 | h0
  · have hq := st.sqL h0
    obtain ⟨its, rv, p, hz⟩ := I1.list hq
    refine wpAny_pyIter_list p.isList ?_
    refine ⟨s1.heap.objs.size, [s1.heap.objs.size], _, _, H1, rfl, I1.kept (t' := s1.toks) fun b o z => Heap.get?_push_of_some _ z, turn_list a _, ⟨_, Heap.get?_push_size _ rfl, rfl, rfl⟩, fine (J := I1), ?_⟩
    exact q _ _ walk_list hq fun H2 st2 => st2.sqL h0
  · have hq := st.sqT h0
    obtain ⟨its, rv, p, hz⟩ := I1.tuple hq
    refine wpAny_pyIter_tuple (show s1.heap.IsTuple a its.toArray from p) ?_
    refine ⟨s1.heap.objs.size, [s1.heap.objs.size], _, _, H1, rfl, I1.kept (t' := s1.toks) fun b o z => Heap.get?_push_of_some _ z, turn_tuple a _, ⟨_, Heap.get?_push_size _ rfl, rfl, rfl⟩, fine (J := I1), ?_⟩
    exact q _ _ walk_tup hq fun H2 st2 => st2.sqT h0
theorem pg_seq {es : List Expr} {k : Nat} {t : TGs} {n : Nat} (hc : X.calm = true) (h : PGs X es t)
    (hn : (assignEach es X.env).length = n := by rfl) (hst : (assignEach es X.env).findIdx? (·.1) = none := by rfl) : PG X (.Tuple es k pos) (gSeq X.K n t) := by
  refine ⟨fun pins s σ H v u Q I r hw => ?_⟩
  obtain ⟨a, xs, e1, hq, hl, hw⟩ := hw
  rcases hq with hq | hq
  · exact (pg_unl hc h hn hst).run pins s σ H v u Q I r ⟨a, xs, e1, hq, hl, hw⟩
  · exact (pg_tup hc h hn hst).run pins s σ H v u Q I r ⟨a, xs, e1, hq, hl, hw⟩
end
/-- s[i], s a list or a tuple -/
def rIxU (K : PySem.W.Frag) : R2 := fun x y H Q => ∃ p xs i v, x = .ref p ∧ y = .int i ∧ SqU K H p xs ∧ atI xs i = some v ∧ Q v H
theorem ixU {X : Cx} (K : PySem.W.Frag) (h : X.K = K := by rfl) : IxR X (rIxU K) := by
  subst h
  intro value slice pins s σ H x y v u Q I rx ry hh hs
  obtain ⟨p, xs, i, z, ex, ey, hq, he, q⟩ := hh
  rcases hq with hq | hq
  · exact ix_list value slice pins s σ H x y v u Q I rx ry ⟨p, xs, i, z, ex, ey, hq, he, q⟩ hs
  · exact ix_tup value slice pins s σ H x y v u Q I rx ry ⟨p, xs, i, z, ex, ey, hq, he, q⟩ hs
/-- isinstance, the written part named -/
theorem isi_of {X : Cx} (K : PySem.W.Frag) (h : X.K = K := by rfl) : CallR X (.builtin "isinstance") (rIsi K) := by subst h; exact call_isi
end Ls
namespace Ls
open PySem PySem.Spec PyProof.Rows L2
/-! ### short steps -/
local macro_rules | `(tactic| walk_at "ls_ne") => `(tactic| first | assumption | exact Ne.symm (by assumption) | exact ne_of_none (by assumption) (by assumption) | exact Ne.symm (ne_of_none (by assumption) (by assumption)))
local macro_rules | `(tactic| walk_at "ls_hp") => `(tactic| first
  | with_reducible assumption
  | exact upd_same
  | exact Eq.trans (upd_ne (by walk_at "ls_ne")) (by walk_at "ls_hp"))
local macro_rules | `(tactic| walk_at "ls_st") => `(tactic| first
  | with_reducible assumption
  | exact Stm.upd (by walk_at "ls_st") (by first | walk_at "ls_ne" | exact (Stm.noneS (by assumption) (by assumption)).1) (by first | walk_at "ls_ne" | exact (Stm.noneS (by assumption) (by assumption)).2))
local macro_rules | `(tactic| walk_at "ls1") => `(tactic| first
  | refine ⟨_, rfl, ?_⟩
  | refine ⟨_, _, rfl, rfl, ?_⟩
  | refine ⟨_, _, _, _, rfl, rfl, .inl (.inl (by walk_at "ls_hp")), rfl, ?_⟩
  | refine ⟨_, _, _, _, rfl, rfl, (by walk_at "ls_hp"), rfl, ?_⟩
  | refine ⟨rfl, _, rfl, ?_⟩
  | refine ⟨.inl ⟨rfl, _, .inl (.inl (by walk_at "ls_hp"))⟩, ?_⟩)
local macro_rules | `(tactic| walk_at "ls") => `(tactic| repeat (walk_at "ls1"))

/-! ### any object in a name's place -/
/-- no string -/
def NotS (K : PySem.W.Frag) (H : Hp) (v : V) : Prop := (∃ t, TyX K H v t ∧ PySem.W.kitOne K t (.type "str") = some false) ∧ ∀ z, v ≠ .str z
/-- a string that is not too long, or no string -/
def Thg (K : PySem.W.Frag) (H : Hp) (v : V) : Prop := (∃ z, v = .str z ∧ z.length ≤ 1000) ∨ NotS K H v
def letters : List Nat := ("abcdefghijklmnopqrstuvwxyz" : Str).cps.toList
def isNameB (z : Str) : Bool := !decide (z = "strike") && (decide (1 ≤ z.length) && decide (z.length ≤ 8)) && z.cps.toList.all fun c => decide (c ∈ letters)
def isNameV : V → Bool
  | .str z => isNameB z
  | _ => false
def isWordV (ts : List Str) : V → Bool
  | .str z => decide (z ∈ ts)
  | _ => false
theorem notS_name {K : PySem.W.Frag} {H : Hp} {v : V} (h : NotS K H v) : isNameV v = false := by
  cases v with
  | str z => exact absurd rfl (h.2 z)
  | _ => rfl
theorem notS_word {K : PySem.W.Frag} {H : Hp} {v : V} {ts : List Str} (h : NotS K H v) : isWordV ts v = false := by
  cases v with
  | str z => exact absurd rfl (h.2 z)
  | _ => rfl
/-- the module's constants -/
structure Gn (K : PySem.W.Frag) (mg : Str → Option Value) (aR aC aK aB : Addr) (tS tL tN : Tok) : Prop where
  STRIKE : mg "STRIKE" = some (.str "strike" tS)
  LETTERS : mg "LETTERS" = some (.str "abcdefghijklmnopqrstuvwxyz" tL)
  LONGEST_NAME : mg "LONGEST_NAME" = some (.int 8 tN)
  RULES : mg "RULES" = some (.ref aR)
  COLUMN_CHECKS : mg "COLUMN_CHECKS" = some (.ref aC)
  KIND_CHECKS : mg "KIND_CHECKS" = some (.ref aK)
  BOOK_CHECKS : mg "BOOK_CHECKS" = some (.ref aB)
  kRULES : KTup K aR [.str "fall", .str "clear"]
  kCOL : KTup K aC (colW.map V.str)
  kKIND : KTup K aK (kindW.map V.str)
  kBOOK : KTup K aB (bookW.map V.str)
def inL : V → Option V
  | .str z => some (.bl (z.cps.toList.all fun c => decide (c ∈ letters)))
  | _ => none
theorem inL_all (z : Str) : (signs z).filterMap inL = (z.cps.toList.map fun c => decide (c ∈ letters)).map V.bl := by
  unfold signs
  generalize z.cps.toList = l
  induction l with
  | nil => rfl
  | cons c r ih =>
    rw [List.map_cons, List.filterMap_cons, List.map_cons, List.map_cons]
    show V.bl ([c].all fun c => decide (c ∈ letters)) :: _ = _
    rw [ih]
    simp
section
variable {P : Program} {w : World} {K : PySem.W.Frag} {mg : Str → Option Value} {base : Heap}
/-! ### is_name -/
abbrev s_is_name : Stmt := topS 14
theorem sc_is_name : FnScope ["thing", "letter"] ["thing"] (defScope s_is_name) := ⟨rfl, rfl, rfl, by decide +kernel, rfl, by decide +kernel, by decide +kernel⟩
abbrev N_is_name : List Str := ["thing", "letter"]
def spIsName (K : PySem.W.Frag) : Sp := fun vs H Q _ => ∃ v, vs = [v] ∧ Thg K H v ∧ ∀ H', Same H H' → Q (.bl (isNameV v)) H'
theorem ok_is_name {f : Addr} {fd : FuncData} {aR aC aK aB : Addr} {tS tL tN : Tok} (F : Fun K "is_name" "is_name" s_is_name f fd) (T : Bt mg) (G : Gn K mg aR aC aK aB tS tL tN) : FnOk P w K mg base CX0 1 f fd ["thing"] (spIsName K) := by
  refine F.ok sc_is_name (fun vs H Q E h => ?_) (fun cdv A outer s H vs Q E hr h => ?_)
  · obtain ⟨z, rfl, _⟩ := h
    rfl
  · obtain ⟨v, rfl, hv, q⟩ := h
    have hu := hu_of hr
    refine ⟨_, (pss_cons (ps_if (PW.pt (pw_or (pt_not (pt_val (pe_callB call_isi (by rfl) T.m_isinstance (by decide +kernel) (pa_cons (pv 0) (pa_cons (pe_bltn (v := V.ty "str") (by rfl) T.m_str boot_str rfl) pa_nil))))) (pw_or1 (pt_cmpR op_eq (pv 0) (glob_str G.STRIKE) (nomark _))))) (pss_one (ps_ret pe_bl)) pss_nil)
      (pss_one (ps_ret (pe_and (pe_chain op_le op_le pe_int (pe_callB call_len_str (by rfl) T.m_len (by decide +kernel) (pa_cons (pv 0) pa_nil)) (glob_int G.LONGEST_NAME)) (pe_one (pe_callB (cr_all rfl) (by rfl) T.m_all (by decide +kernel) (pa_cons (pe_lc (own := [("letter", 1)]) (g := gName 1) (by rfl) sc_is_name.nd (pi_str (pv 0)) (blkOk_by (own := [("letter", 1)]) (N := N_is_name) (sc := defScope s_is_name) (by decide +kernel)) (fun _ _ _ _ _ => (pg_name (i := 1) sc_is_name.nd rfl (Or.inl rfl) (Or.inr rfl))) (fun _ _ _ _ _ => pts_nil) (fun _ _ _ _ _ => (pe_cmpR op_in_sign (pv 1) (glob_str G.LETTERS) (by rfl)))) pa_nil))))))), ?_⟩
    rcases hv with ⟨z, rfl, hz⟩ | hv
    · refine or2 false (decide (V.str z = V.str "strike")) (fun Q' q' => ?_) (fun _ Q' q' => ?_) ?_
      · refine ⟨_, rfl, ?_⟩
        exact ⟨_, _, _, _, true, rfl, .ty "str", .base (.str z), kit_ty (by decide +kernel), _, rfl, q'⟩
      · walk_at "ls"
        exact q'
      have q : ∀ H', Same H H' → Q (.bl (isNameB z)) H' := q
      refine ite2 (fun e => ?_) (fun e => ?_)
      · have e1 : z = "strike" := V.str.inj (of_decide_eq_true (by simpa using e))
        have : isNameB z = false := by rw [e1]; decide +kernel
        have h := q H (Same.refl H)
        rw [this] at h
        exact h
      · have e1 : ¬ z = "strike" := fun h => e (by rw [h]; simp)
        refine ⟨_, rfl, ?_⟩
        refine ⟨z, rfl, Nat.le_trans hz (show 1000 ≤ sizeLine by decide), ?_⟩
        refine ⟨_, _, rfl, rfl, _, rfl, ?_⟩
        refine ite2 (fun e2 => ?_) (fun e2 => ?_)
        · refine ⟨_, _, rfl, rfl, _, rfl, ?_⟩
          refine ite2 (fun e3 => ?_) (fun e3 => ?_)
          · walk_at "ls"
            intro D hD
            refine lc_pure walk_str (signs z) inL (signs_len _) yld_str (Nat.lt_of_le_of_lt hz (show 1000 < sizeLine by decide)) (fun _ => trivial) (fun i x hi hx => ?_) ?_
            · obtain ⟨c, rfl⟩ := signs_at hx
              refine ⟨rfl, ?_⟩
              walk_at "ls"
              exact lc_yes hx hi (Nat.lt_of_le_of_lt hz (show 1000 < sizeLine by decide)) (by show some (V.bl ([c].all fun c => decide (c ∈ letters))) = _; simp [letters])
            · rw [inL_all]
              refine ⟨D, _, rfl, .inl (.inl upd_same), ?_⟩
              have h := q _ (same_new (o := .lst ((z.cps.toList.map fun c => decide (c ∈ letters)).map V.bl)) hD)
              have e4 : isNameB z = (z.cps.toList.map fun c => decide (c ∈ letters)).all id := by
                have h2 : 1 ≤ z.length := by have := of_decide_eq_true e2; omega
                have h3 : z.length ≤ 8 := by have := of_decide_eq_true e3; omega
                unfold isNameB
                rw [List.all_map]
                simp [e1, h2, h3]
              rw [e4] at h
              exact h
          · have : isNameB z = false := by
              have h3 : ¬ z.length ≤ 8 := fun h => e3 (decide_eq_true (by omega))
              unfold isNameB
              simp [h3]
            have h := q H (Same.refl H)
            rw [this] at h
            exact h
        · refine ⟨_, rfl, ?_⟩
          have : isNameB z = false := by
            have h3 : ¬ 1 ≤ z.length := fun h => e2 (decide_eq_true (by omega))
            unfold isNameB
            simp [h3]
          have h := q H (Same.refl H)
          rw [this] at h
          exact h
    · obtain ⟨t, ht, kt⟩ := hv.1
      refine or2 true false (fun Q' q' => ?_) (fun z => nomatch z) ?_
      · refine ⟨_, rfl, ?_⟩
        exact ⟨_, _, _, _, false, rfl, .ty "str", ht, kt, _, rfl, q'⟩
      have h := q H (Same.refl H)
      rw [notS_name hv] at h
      exact iteT h
/-! ### is_word_of -/
abbrev s_is_word_of : Stmt := topS 15
theorem sc_is_word_of : FnScope ["thing", "words"] ["thing", "words"] (defScope s_is_word_of) := ⟨rfl, rfl, rfl, by decide +kernel, rfl, by decide +kernel, by decide +kernel⟩
abbrev N_is_word_of : List Str := ["thing", "words"]
def spWord (K : PySem.W.Frag) : Sp := fun vs H Q _ => ∃ (v : V) (a : Addr) (ts : List Str), vs = [v, .ref a] ∧ Thg K H v ∧ (SqL K H a (ts.map V.str) ∨ SqT K H a (ts.map V.str)) ∧ Q (.bl (isWordV ts v)) H
theorem ok_word {f : Addr} {fd : FuncData} (F : Fun K "is_word_of" "is_word_of" s_is_word_of f fd) (T : Bt mg) : FnOk P w K mg base CX0 1 f fd ["thing", "words"] (spWord K) := by
  refine F.ok sc_is_word_of (fun vs H Q E h => ?_) (fun cdv A outer s H vs Q E hr h => ?_)
  · obtain ⟨z, a, ts, rfl, _⟩ := h
    rfl
  · obtain ⟨v, a, ts, rfl, hv, hs, q⟩ := h
    have hu := hu_of hr
    refine ⟨_, (pss_one (ps_ret (pe_and (pe_callB call_isi (by rfl) T.m_isinstance (by decide +kernel) (pa_cons (pv 0) (pa_cons (pe_bltn (v := V.ty "str") (by rfl) T.m_str boot_str rfl) pa_nil))) (pe_one (pe_cmpR (in_seq K) (pv 0) (pv 1) (by rfl)))))), ?_⟩
    refine ⟨_, rfl, ?_⟩
    rcases hv with ⟨z, rfl, hz⟩ | hv
    · refine ⟨_, _, _, _, true, rfl, .ty "str", .base (.str z), kit_ty (by decide +kernel), _, rfl, iteT ?_⟩
      walk_at "ls"
      refine ⟨a, _, rfl, hs, rfl, all_flat ts, ?_⟩
      show Q (.bl (inV (.str z) (ts.map V.str))) H
      rw [in_strs]
      exact q
    · obtain ⟨t, ht, kt⟩ := hv.1
      rw [notS_word hv] at q
      exact ⟨_, _, _, _, false, rfl, .ty "str", ht, kt, _, rfl, iteF q⟩
/-! ### _want_free_name -/
abbrev s__want_free_name : Stmt := topS 28
theorem sc__want_free_name : FnScope ["name", "taken"] ["name", "taken"] (defScope s__want_free_name) := ⟨rfl, rfl, rfl, by decide +kernel, rfl, by decide +kernel, by decide +kernel⟩
abbrev N__want_free_name : List Str := ["name", "taken"]
def spFree (K : PySem.W.Frag) (cN cU : Addr) : Sp := fun vs H Q E => ∃ (v : V) (a : Addr) (ts : List Str), vs = [v, .ref a] ∧ Thg K H v ∧ H a = some (.lst (ts.map V.str)) ∧
  (isNameV v = false → ∀ H' d, Same H H' → H' d = none → E (.ref cN) (some d) (upd H' d (.xd [("name", v)]))) ∧
  (isNameV v = true → isWordV ts v = true → ∀ H' d, Same H H' → H' d = none → E (.ref cU) (some d) (upd H' d (.xd [("name", v)]))) ∧
  (isNameV v = true → isWordV ts v = false → ∀ H', Same H H' → Q .non H')
theorem ok_free {f : Addr} {fd : FuncData} {cN cU : Addr} (F : Fun K "_want_free_name" "_want_free_name" s__want_free_name f fd) (O_is_name : Own P w K mg base CX0 1 "is_name" ["thing"] (spIsName K))
    (O_BadName : OwnX P w K mg base "BadName" ["name"] (spI1 cN "name") cN) (O_NameInUse : OwnX P w K mg base "NameInUse" ["name"] (spI1 cU "name") cU) : FnOk P w K mg base (L2.CX P w) 3 f fd ["name", "taken"] (spFree K cN cU) := by
  refine F.okX sc__want_free_name (fun vs H Q E h => ?_) (fun cdv A outer s H vs Q E hr h => ?_)
  · obtain ⟨z, a, ts, rfl, _⟩ := h
    rfl
  · obtain ⟨v, a, ts, rfl, hv, ha, q1, q2, q3⟩ := h
    have hu := hu_of hr
    refine ⟨_, (pss_cons (ps_if (pt_not (pt_val (own_call O_is_name hr (by first | decide | omega) (pa_cons (pv 0) pa_nil)))) (pss_one (ps_err rfl takes_def (pmk_err1 O_BadName (hr.mono (by decide)) (pa_cons (pv 0) pa_nil)))) pss_nil)
      (pss_one (ps_if (pt_cmpR (in_seq K) (pv 0) (pv 1) (by rfl)) (pss_one (ps_err rfl takes_def (pmk_err1 O_NameInUse (hr.mono (by decide)) (pa_cons (pv 0) pa_nil)))) pss_nil))), ?_⟩
    refine ⟨_, rfl, ?_⟩
    refine ⟨v, rfl, hv, fun H1 s1 => ?_⟩
    refine ⟨_, rfl, ?_⟩
    cases hn : isNameV v with
    | false =>
      refine iteT ?_
      walk_at "ls"
      exact fun d hd => q1 hn _ d s1 hd
    | true =>
      refine iteF ?_
      obtain ⟨z, rfl⟩ : ∃ z, v = .str z := by
        cases v with
        | str z => exact ⟨z, rfl⟩
        | _ => cases hn
      walk_at "ls"
      refine ⟨a, _, rfl, .inl (.inl (.inl (s1 _ _ ha))), rfl, all_flat ts, _, rfl, ?_⟩
      show if inV (.str z) (ts.map V.str) = true then _ else _
      rw [in_strs]
      cases hw : decide (z ∈ ts) with
      | true =>
        refine iteT ?_
        walk_at "ls"
        exact fun d hd => q2 hn hw _ d s1 hd
      | false => exact iteF (q3 hn hw H1 s1)
end
end Ls
namespace Ls
open PySem PySem.Spec PyProof.Rows L2
/-! ### short steps -/
local macro_rules | `(tactic| walk_at "ls_ne") => `(tactic| first | assumption | exact Ne.symm (by assumption) | exact ne_of_none (by assumption) (by assumption) | exact Ne.symm (ne_of_none (by assumption) (by assumption)))
local macro_rules | `(tactic| walk_at "ls_hp") => `(tactic| first
  | with_reducible assumption
  | exact upd_same
  | exact Eq.trans (upd_ne (by walk_at "ls_ne")) (by walk_at "ls_hp"))
local macro_rules | `(tactic| walk_at "ls_st") => `(tactic| first
  | with_reducible assumption
  | exact Stm.upd (by walk_at "ls_st") (by first | walk_at "ls_ne" | exact (Stm.noneS (by assumption) (by assumption)).1) (by first | walk_at "ls_ne" | exact (Stm.noneS (by assumption) (by assumption)).2))
local macro_rules | `(tactic| walk_at "ls1") => `(tactic| first
  | refine ⟨_, rfl, ?_⟩
  | refine ⟨_, _, rfl, rfl, ?_⟩
  | refine ⟨_, _, _, _, rfl, rfl, .inl (.inl (by walk_at "ls_hp")), rfl, ?_⟩
  | refine ⟨_, _, _, _, rfl, rfl, (by walk_at "ls_hp"), rfl, ?_⟩
  | refine ⟨rfl, _, rfl, ?_⟩
  | refine ⟨.inl ⟨rfl, _, .inl (.inl (by walk_at "ls_hp"))⟩, ?_⟩)
local macro_rules | `(tactic| walk_at "ls") => `(tactic| repeat (walk_at "ls1"))

/-! ### rows of any objects -/
def RowOf (K : PySem.W.Frag) (H : Hp) (v : V) (ys : List V) : Prop := ∃ t, v = .ref t ∧ SqU K H t ys
/-- xs are lists or tuples with the items yss -/
def RowsAt (K : PySem.W.Frag) (H : Hp) (xs : List V) (yss : List (List V)) : Prop := Paired (RowOf K H) xs yss
theorem RowsAt.get {K : PySem.W.Frag} {H : Hp} : ∀ {xs : List V} {yss : List (List V)} {i : Nat} {x : V}, RowsAt K H xs yss → xs[i]? = some x → ∃ ys, yss[i]? = some ys ∧ RowOf K H x ys
  | _ :: _, _ :: _, 0, x, .cons h r, e => ⟨_, rfl, by cases e; exact h⟩
  | _ :: xs, _ :: yss, i + 1, x, .cons h r, e => RowsAt.get (xs := xs) (yss := yss) (i := i) r e
theorem RowOf.same {K : PySem.W.Frag} {H H' : Hp} {v : V} {ys : List V} (h : RowOf K H v ys) (s : Same H H') : RowOf K H' v ys := by
  obtain ⟨t, e, q⟩ := h
  exact ⟨t, e, Stays.sqU s q⟩
theorem RowsAt.same {K : PySem.W.Frag} {H H' : Hp} : ∀ {xs : List V} {yss : List (List V)}, RowsAt K H xs yss → Same H H' → RowsAt K H' xs yss
  | _, _, .nil, _ => .nil
  | _, _, .cons h r, s => .cons (h.same s) (RowsAt.same r s)
theorem RowsAt.len {K : PySem.W.Frag} {H : Hp} {xs : List V} {yss : List (List V)} (h : RowsAt K H xs yss) : xs.length = yss.length := Paired.length h
theorem ty_same {K : PySem.W.Frag} {H H' : Hp} {v : V} {t : Value} (h : TyX K H v t) (s : Same H H') : TyX K H' v t := by
  cases h with
  | base h =>
    refine .base ?_
    cases h with
    | non => exact .non
    | bl x => exact .bl x
    | int i => exact .int i
    | str x => exact .str x
    | flt x => exact .flt x
    | lst e => exact .lst (s _ _ e)
    | frz e => exact .frz (s _ _ e)
    | tup e => exact .tup (s _ _ e)
    | dK e => exact .dK (s _ _ e)
    | dT e => exact .dT (s _ _ e)
    | ins e cl ha hn htk hm => exact .ins (s _ _ e) cl ha hn htk hm
  | byt b => exact .byt b
  | set e => exact .set (s _ _ e)
  | kList e c => exact .kList e c
  | kTuple e c => exact .kTuple e c
  | kDict e c => exact .kDict e c
  | fTuple e => exact .fTuple (s _ _ e)
  | fDict e => exact .fDict (s _ _ e)
theorem NotS.same {K : PySem.W.Frag} {H H' : Hp} {v : V} (h : NotS K H v) (s : Same H H') : NotS K H' v := by
  obtain ⟨⟨t, a, b⟩, c⟩ := h
  exact ⟨⟨t, ty_same a s, b⟩, c⟩
theorem Thg.same {K : PySem.W.Frag} {H H' : Hp} {v : V} (h : Thg K H v) (s : Same H H') : Thg K H' v := h.elim .inl fun z => .inr (z.same s)
/-- the first item of a tuple -/
def fstOf (H : Hp) : V → Option V
  | .ref t => match H t with
    | some (.tup (y :: _)) => some y
    | _ => none
  | _ => none
theorem fst_tup {H : Hp} {v y : V} {ys : List V} (h : TupOf H v (y :: ys)) : fstOf H v = some y := by
  obtain ⟨t, rfl, h⟩ := h
  show (match H t with | some (.tup (y :: _)) => some y | _ => none) = some y
  rw [h]
theorem fst_all {α : Type} {H : Hp} (g : α → V) (r : α → List V) : ∀ {xs : List V} {l : List α}, TupsAt H xs (l.map fun a => g a :: r a) → xs.filterMap (fstOf H) = l.map g
  | [], [], _ => rfl
  | x :: xs, a :: l, h => by
    cases h with
    | cons h1 h2 =>
      rw [List.filterMap_cons, fst_tup h1, fst_all g r h2]
      rfl
  | [], a :: l, h => by cases h
  | x :: xs, [], h => by cases h
theorem Same.set {H H1 : Hp} {p : Addr} {o : HO} (s : Same H H1) (hp : H p = none) : Same H (upd H1 p o) := fun b u e => by
  rw [upd_ne (ne_of_none e hp)]
  exact s _ _ e
/-! ### what is wrong of names -/
def strOf : V → Str
  | .str z => z
  | _ => ⟨#[]⟩
/-- false: no name; true: a name in use -/
def nameErr (taken : List Str) (v : V) : Option Bool := if isNameV v = true then (if isWordV taken v = true then some true else none) else some false
theorem name_str {v : V} (h : isNameV v = true) : v = .str (strOf v) := by
  cases v with
  | str z => rfl
  | _ => cases h
def kindsErr : List Str → List (V × V) → Option (Bool × V)
  | _, [] => none
  | taken, k :: r => match nameErr taken k.1 with
    | some b => some (b, k.1)
    | none => kindsErr (taken ++ [strOf k.1]) r
theorem nameErr_none {taken : List Str} {v : V} (h : nameErr taken v = none) : isNameV v = true ∧ isWordV taken v = false := by
  unfold nameErr at h
  split at h
  · rename_i h1
    split at h
    · cases h
    · rename_i h2
      exact ⟨h1, by simpa using h2⟩
  · cases h
/-- all good ahead: the names of the first i -/
theorem kindsErr_step {taken : List Str} {ks : List (V × V)} {i : Nat} {k : V × V} (e : ks[i]? = some k) : kindsErr taken (ks.drop i) = match nameErr taken k.1 with
    | some b => some (b, k.1)
    | none => kindsErr (taken ++ [strOf k.1]) (ks.drop (i + 1)) := by
  obtain ⟨hi, rfl⟩ := List.getElem?_eq_some_iff.mp e
  rw [List.drop_eq_getElem_cons hi]
  rfl
/-- the error that is due, as an error that leaves -/
def nameE (cN cU : Addr) (H : Hp) (E : XK) (b : Bool) (v : V) : Prop := ∀ H' d, Same H H' → H' d = none → E (.ref (if b = true then cU else cN)) (some d) (upd H' d (.xd [("name", v)]))
theorem nameE.go {cN cU : Addr} {H H1 : Hp} {E : XK} {b : Bool} {v : V} (h : nameE cN cU H E b v) (s : Same H H1) : nameE cN cU H1 E b v := fun H' d s' n => h H' d (s.trans s') n
/-- the promise of _want_free_name by nameErr -/
theorem free_of {K : PySem.W.Frag} {cN cU a : Addr} {H : Hp} {Q : VK} {E : XK} {v : V} {ts : List Str} (hv : Thg K H v) (ha : H a = some (.lst (ts.map V.str)))
    (h : match nameErr ts v with
      | some b => nameE cN cU H E b v
      | none => ∀ H', Same H H' → Q .non H') : spFree K cN cU [v, .ref a] H Q E := by
  unfold nameErr at h
  refine ⟨v, a, ts, rfl, hv, ha, fun h1 => ?_, fun h1 h2 => ?_, fun h1 h2 => ?_⟩
  · rw [h1, if_neg (by decide)] at h
    exact h
  · rw [h1, h2, if_pos rfl, if_pos rfl] at h
    exact h
  · rw [h1, h2, if_pos rfl, if_neg (by decide)] at h
    exact h
section
variable {P : Program} {w : World} {K : PySem.W.Frag} {mg : Str → Option Value} {base : Heap}
/-! ### _read_kinds -/
abbrev s__read_kinds : Stmt := topS 26
theorem sc__read_kinds : FnScope ["kinds", "found", "name", "is_open", "kind"] ["kinds"] (defScope s__read_kinds) := ⟨rfl, rfl, rfl, by decide +kernel, rfl, by decide +kernel, by decide +kernel⟩
abbrev N__read_kinds : List Str := ["kinds", "found", "name", "is_open", "kind"]
def spReadK (K : PySem.W.Frag) (cN cU : Addr) : Sp := fun vs H Q E => ∃ (a : Addr) (xs : List V) (ks : List (V × V)), vs = [.ref a] ∧ SqU K H a xs ∧ RowsAt K H xs (ks.map fun k => [k.1, k.2]) ∧ (∀ k ∈ ks, Thg K H k.1) ∧ ks.length ≤ 1000 ∧
  match kindsErr [] ks with
  | some (b, v) => nameE cN cU H E b v
  | none => ∀ (H' : Hp) (p : Addr) (ys : List V), H' p = some (.tup ys) → TupsAt H' ys (ks.map fun k => [k.1, k.2]) → Same H H' → Q (.ref p) H'
theorem ok_readK {f : Addr} {fd : FuncData} {cN cU : Addr} (F : Fun K "_read_kinds" "_read_kinds" s__read_kinds f fd) (T : Bt mg) (O__want_free_name : OwnR P w K mg base 3 "_want_free_name" ["name", "taken"] (spFree K cN cU)) : FnOk P w K mg base (L2.CX P w) 4 f fd ["kinds"] (spReadK K cN cU) := by
  refine F.okX sc__read_kinds (fun vs H Q E h => ?_) (fun cdv A outer s H vs Q E hr h => ?_)
  · obtain ⟨a, xs, B, rfl, _⟩ := h
    rfl
  · obtain ⟨a, xs, ks, rfl, ha, hx, ht, hk, q⟩ := h
    have hu := hu_of hr
    refine ⟨_, (pss_cons (ps_set (i := 1) sc__read_kinds.nd rfl (Or.inl rfl) (pe_lst pa_nil))
      (pss_cons (ps_for own_def rfl (pi_seq (pv 0)) (pg_seq rfl (pgs_cons (pg_name (i := 2) sc__read_kinds.nd rfl (Or.inl rfl)) (pgs_cons (pg_name (i := 3) sc__read_kinds.nd rfl (Or.inl rfl)) pgs_nil))) (pss_cons (ps_expr (own_callR O__want_free_name hr (by first | decide | omega) takes_def (pa_cons (pv 2) (pa_cons (pe_lc (own := [("kind", 4)]) (g := gName 4) (by rfl) sc__read_kinds.nd (pi_list (pv 1)) (blkOk_by (own := [("kind", 4)]) (N := N__read_kinds) (sc := defScope s__read_kinds) (by decide +kernel)) (fun _ _ _ _ _ => (pg_name (i := 4) sc__read_kinds.nd rfl (Or.inl rfl) (Or.inr rfl))) (fun _ _ _ _ _ => pts_nil) (fun _ _ _ _ _ => (pe_ix (ixT K) (pv 4) pe_int (fun _ _ => rfl)))) pa_nil))))
      (pss_one (ps_expr (pe_bm PySem.F.plainAttrs_list PySem.F.slot_list_append PySem.F.type_list_append mt_append (pv 1) (pa_cons (pe_tup (pa_cons (pv 2) (pa_cons (pv 3) pa_nil))) pa_nil))))))
      (pss_one (ps_ret (pe_callTy (tuple_of K) (by rfl) T.m_tuple (by decide +kernel) (pa_cons (pv 1) pa_nil)))))), ?_⟩
    refine ⟨Nat.zero_le _, fun p hp => ?_⟩
    have s0 : Same H (upd H p (.lst [])) := same_new hp
    walk_at "ls"
    refine ⟨a, xs, H, rfl, ha, s0, fun J G wk g0 gs => ?_⟩
    have lx : xs.length = ks.length := by rw [hx.len, List.length_map]
    refine for_it wk (fun i σ H1 => ∃ (fx : List V) (v2 v3 : Option V) (zs : List Str), σ = [some (.ref a), some (.ref p), v2, v3, none] ∧ H1 p = some (.lst fx) ∧ TupsAt H1 fx ((ks.take i).map fun k => [k.1, k.2]) ∧ Same H H1 ∧
        (ks.take i).map (·.1) = zs.map V.str ∧ kindsErr [] ks = kindsErr zs (ks.drop i))
      ⟨[], none, none, [], rfl, upd_same, .nil, s0, rfl, rfl⟩ (fun i σ H1 _ ⟨_, _, _, _, _, _, _, s1, _⟩ => gs _ s1) ?_ ?_
    · rintro i x σ Hz H1 hi ⟨fx, v2, v3, zs, rfl, h1, h1t, s1, ez, ek⟩ ⟨rfl, hxi⟩
      obtain ⟨ys, hys, t, rfl, hto⟩ := RowsAt.get (hx.same s1) hxi
      obtain ⟨k, hki, rfl⟩ := map_get hys
      refine ⟨t, _, rfl, hto, rfl, _, _, rfl, _, _, rfl, rfl, ?_⟩
      walk_at "ls"
      have lf : fx.length ≤ 1000 := by
        rw [h1t.len, List.length_map, List.length_take]
        omega
      have lz : fx.length < sizeLine := Nat.lt_of_le_of_lt lf (show 1000 < sizeLine by decide)
      refine ⟨⟨_, .inl (.inl h1)⟩, fun D hD => ?_⟩
      have npD : p ≠ D := ne_of_none h1 hD
      refine lc_pure (walk_list (xs := fx)) fx (fstOf H1) rfl (fun i H x H' hi hy => hy) lz (fun acc => .inl (.inl (by rw [upd_ne npD]; exact h1))) (fun j y hj hy => ?_) ?_
      · obtain ⟨zs, hzs, hto⟩ := TupsAt.get h1t hy
        obtain ⟨k2, hk2, rfl⟩ := map_get hzs
        obtain ⟨t2, rfl, ht2⟩ := id hto
        have n2 : t2 ≠ D := ne_of_none ht2 hD
        refine ⟨rfl, ?_⟩
        walk_at "ls"
        exact lc_yes hy hj lz (fst_tup hto)
      rw [fst_all (fun a : V × V => a.1) (fun a => [a.2]) (l := ks.take i) h1t, ez]
      have e1 := kindsErr_step (taken := zs) hki
      rw [ek, e1] at q
      simp only [tNil, List.set]
      refine free_of ((ht _ (List.mem_of_getElem? hki)).same (s1.trans (same_new hD))) upd_same ?_
      cases hn : nameErr zs k.1 with
      | some b =>
        rw [hn] at q
        exact nameE.go q (s1.trans (same_new hD))
      | none =>
        intro H2 sH2
        have s12 : Same H1 H2 := (same_new hD).trans sH2
        have h2 := s12 _ _ h1
        obtain ⟨n1, n2⟩ := nameErr_none hn
        walk_at "ls"
        refine ⟨(by show 2 ≤ sizeLine; decide), fun t2 ht2 => ?_⟩
        have npt : p ≠ t2 := ne_of_none h2 ht2
        have h2' : (upd H2 t2 (.tup [k.1, k.2])) p = some (.lst fx) := by rw [upd_ne npt]; exact h2
        refine ⟨_, _, _, rfl, rfl, h2', lz, fx ++ [.ref t2], _, _, zs ++ [strOf k.1], rfl, upd_same, ?_, ?_, ?_, ?_⟩
        · rw [List.take_add_one, hki, Option.toList_some, List.map_append]
          exact (h1t.keep (((TK.same s12).trans (.new ht2)).trans (.lst h2'))).snoc ⟨t2, rfl, by rw [upd_ne npt.symm]; exact upd_same⟩
        · exact Same.set ((s1.trans s12).trans (same_new ht2)) hp
        · rw [List.take_add_one, hki, Option.toList_some, List.map_append, ez, List.map_append, List.map_cons, List.map_cons, ← name_str n1]
          rfl
        · rw [ek, e1, hn]
    · rintro σ H1 ⟨fx, v2, v3, zs, rfl, h1, h1t, s1, ez, ek⟩
      rw [lx, List.take_length] at h1t
      rw [lx, List.drop_length] at ek
      rw [ek] at q
      walk_at "ls"
      refine ⟨p, fx, rfl, .inl ⟨.inl (.inl h1), fun l hl => ?_⟩⟩
      exact q _ l fx upd_same (h1t.keep (.new hl)) (s1.trans (same_new hl))
end
end Ls
namespace Ls
open PySem PySem.Spec PyProof.Rows L2
/-! ### short steps -/
local macro_rules | `(tactic| walk_at "ls_ne") => `(tactic| first | assumption | exact Ne.symm (by assumption) | exact ne_of_none (by assumption) (by assumption) | exact Ne.symm (ne_of_none (by assumption) (by assumption)))
local macro_rules | `(tactic| walk_at "ls_hp") => `(tactic| first
  | with_reducible assumption
  | exact upd_same
  | exact Eq.trans (upd_ne (by walk_at "ls_ne")) (by walk_at "ls_hp"))
local macro_rules | `(tactic| walk_at "ls_st") => `(tactic| first
  | with_reducible assumption
  | exact Stm.upd (by walk_at "ls_st") (by first | walk_at "ls_ne" | exact (Stm.noneS (by assumption) (by assumption)).1) (by first | walk_at "ls_ne" | exact (Stm.noneS (by assumption) (by assumption)).2))
local macro_rules | `(tactic| walk_at "ls1") => `(tactic| first
  | refine ⟨_, rfl, ?_⟩
  | refine ⟨_, _, rfl, rfl, ?_⟩
  | refine ⟨_, _, _, _, rfl, rfl, .inl (.inl (by walk_at "ls_hp")), rfl, ?_⟩
  | refine ⟨_, _, _, _, rfl, rfl, (by walk_at "ls_hp"), rfl, ?_⟩
  | refine ⟨rfl, _, rfl, ?_⟩
  | refine ⟨.inl ⟨rfl, _, .inl (.inl (by walk_at "ls_hp"))⟩, ?_⟩)
local macro_rules | `(tactic| walk_at "ls") => `(tactic| repeat (walk_at "ls1"))

/-! ### what is wrong of columns -/
abbrev Col := V × V × V × V
def colU (c : Col) : List V := [c.1, c.2.1, c.2.2.1, c.2.2.2]
def ruleW : List Str := ["fall", "clear"]
inductive ColE
  | name (b : Bool) (v : V)
  | kind (v : V)
  | rule (v : V)
def colErr (kn taken : List Str) (c : Col) : Option ColE := match nameErr (kn ++ taken) c.1 with
  | some b => some (.name b c.1)
  | none => if isWordV kn c.2.1 = true then (if isWordV kn c.2.2.1 = true then (if isWordV ruleW c.2.2.2 = true then none else some (.rule c.2.2.2)) else some (.kind c.2.2.1)) else some (.kind c.2.1)
def colsErr (kn : List Str) : List Str → List Col → Option ColE
  | _, [] => none
  | taken, c :: r => match colErr kn taken c with
    | some e => some e
    | none => colsErr kn (taken ++ [strOf c.1]) r
theorem colsErr_step {kn taken : List Str} {cs : List Col} {i : Nat} {c : Col} (e : cs[i]? = some c) : colsErr kn taken (cs.drop i) = match colErr kn taken c with
    | some e => some e
    | none => colsErr kn (taken ++ [strOf c.1]) (cs.drop (i + 1)) := by
  obtain ⟨hi, rfl⟩ := List.getElem?_eq_some_iff.mp e
  rw [List.drop_eq_getElem_cons hi]
  rfl
/-- one field's error that leaves -/
def oneE (C : Addr) (f : Str) (H : Hp) (E : XK) (v : V) : Prop := ∀ H' d, Same H H' → H' d = none → E (.ref C) (some d) (upd H' d (.xd [(f, v)]))
theorem oneE.go {C : Addr} {f : Str} {H H1 : Hp} {E : XK} {v : V} (h : oneE C f H E v) (s : Same H H1) : oneE C f H1 E v := fun H' d s' n => h H' d (s.trans s') n
def colE (cN cU cK cR : Addr) (H : Hp) (E : XK) : ColE → Prop
  | .name b v => nameE cN cU H E b v
  | .kind v => oneE cK "kind" H E v
  | .rule v => oneE cR "rule" H E v
theorem word_str {v : V} {ts : List Str} (h : isWordV ts v = true) : v = .str (strOf v) := by
  cases v with
  | str z => rfl
  | _ => cases h
section
variable {P : Program} {w : World} {K : PySem.W.Frag} {mg : Str → Option Value} {base : Heap}
/-! ### _read_columns -/
abbrev s__read_columns : Stmt := topS 27
theorem sc__read_columns : FnScope ["columns", "kinds", "kind", "names", "found", "name", "home", "goal", "rule", "column"] ["columns", "kinds"] (defScope s__read_columns) := ⟨rfl, rfl, rfl, by decide +kernel, rfl, by decide +kernel, by decide +kernel⟩
abbrev N__read_columns : List Str := ["columns", "kinds", "kind", "names", "found", "name", "home", "goal", "rule", "column"]
def spReadC (K : PySem.W.Frag) (cN cU cK cR : Addr) : Sp := fun vs H Q E => ∃ (a b : Addr) (xs ys : List V) (cs : List Col) (ks : List (V × V)) (kn : List Str), vs = [.ref a, .ref b] ∧ SqU K H a xs ∧ RowsAt K H xs (cs.map colU) ∧ H b = some (.tup ys) ∧ TupsAt H ys (ks.map fun k => [k.1, k.2]) ∧
  ks.map (·.1) = kn.map V.str ∧ (∀ c ∈ cs, Thg K H c.1 ∧ Thg K H c.2.1 ∧ Thg K H c.2.2.1 ∧ Thg K H c.2.2.2) ∧ cs.length ≤ 1000 ∧ ks.length ≤ 1000 ∧
  match colsErr kn [] cs with
  | some e => colE cN cU cK cR H E e
  | none => ∀ (H' : Hp) (p : Addr) (zs : List V), H' p = some (.tup zs) → TupsAt H' zs (cs.map colU) → Same H H' → Q (.ref p) H'
theorem ok_readC {f : Addr} {fd : FuncData} {aR aC aK aB : Addr} {tS tL tN : Tok} {cN cU cK cR : Addr} (F : Fun K "_read_columns" "_read_columns" s__read_columns f fd) (T : Bt mg) (G : Gn K mg aR aC aK aB tS tL tN) (O__want_free_name : OwnR P w K mg base 3 "_want_free_name" ["name", "taken"] (spFree K cN cU))
    (O_is_word_of : Own P w K mg base CX0 1 "is_word_of" ["thing", "words"] (spWord K)) (O_UnknownKind : OwnX P w K mg base "UnknownKind" ["kind"] (spI1 cK "kind") cK) (O_BadRule : OwnX P w K mg base "BadRule" ["rule"] (spI1 cR "rule") cR) :
    FnOk P w K mg base (L2.CX P w) 4 f fd ["columns", "kinds"] (spReadC K cN cU cK cR) := by
  refine F.okX sc__read_columns (fun vs H Q E h => ?_) (fun cdv A outer s H vs Q E hr h => ?_)
  · obtain ⟨a, b, xs, ys, cs, ks, kn, rfl, _⟩ := h
    rfl
  · obtain ⟨a, b, xs, ys, cs, ks, kn, rfl, ha, hx, hb, hy, ekn, ht, lc, lk, q⟩ := h
    have hu := hu_of hr
    refine ⟨_, (pss_cons (ps_setLc (i := 3) (own := [("kind", 2)]) (g := gName 2) (by rfl) sc__read_columns.nd rfl rfl (sw_true rfl rfl rfl (by decide +kernel)) (pi_tup (pv 1)) (blkOk_by (own := [("kind", 2)]) (N := N__read_columns) (sc := defScope s__read_columns) (by decide +kernel)) (fun _ _ _ _ _ => (pg_name (i := 2) sc__read_columns.nd rfl (Or.inl rfl) (Or.inr rfl))) (fun _ _ _ _ _ => pts_nil) (fun _ _ _ _ _ => (pe_ix (ixT K) (pv 2) pe_int (fun _ _ => rfl))))
      (pss_cons (ps_set (i := 4) sc__read_columns.nd rfl (Or.inl rfl) (pe_lst pa_nil))
      (pss_cons (ps_for own_def rfl (pi_seq (pv 0)) (pg_seq rfl (pgs_cons (pg_name (i := 5) sc__read_columns.nd rfl (Or.inl rfl)) (pgs_cons (pg_name (i := 6) sc__read_columns.nd rfl (Or.inl rfl)) (pgs_cons (pg_name (i := 7) sc__read_columns.nd rfl (Or.inl rfl)) (pgs_cons (pg_name (i := 8) sc__read_columns.nd rfl (Or.inl rfl)) pgs_nil))))) (pss_cons (ps_expr (own_callR O__want_free_name hr (by first | decide | omega) takes_def (pa_cons (pv 5) (pa_cons (pe_op op_cat (pv 3) (pe_lc (own := [("column", 9)]) (g := gName 9) (by rfl) sc__read_columns.nd (pi_list (pv 4)) (blkOk_by (own := [("column", 9)]) (N := N__read_columns) (sc := defScope s__read_columns) (by decide +kernel)) (fun _ _ _ _ _ => (pg_name (i := 9) sc__read_columns.nd rfl (Or.inl rfl) (Or.inr rfl))) (fun _ _ _ _ _ => pts_nil) (fun _ _ _ _ _ => (pe_ix (ixT K) (pv 9) pe_int (fun _ _ => rfl))))) pa_nil))))
      (pss_cons (ps_for own_def rfl (pi_tup (pe_tup (pa_cons (pv 6) (pa_cons (pv 7) pa_nil)))) (pg_name (i := 2) sc__read_columns.nd rfl (Or.inl rfl)) (pss_one (ps_if (pt_not (pt_val (own_call O_is_word_of hr (by first | decide | omega) (pa_cons (pv 2) (pa_cons (pv 3) pa_nil))))) (pss_one (ps_err rfl takes_def (pmk_err1 O_UnknownKind (hr.mono (by decide)) (pa_cons (pv 2) pa_nil)))) pss_nil)))
      (pss_cons (ps_if (pt_not (pt_val (own_call O_is_word_of hr (by first | decide | omega) (pa_cons (pv 8) (pa_cons (glob_ref G.RULES) pa_nil))))) (pss_one (ps_err rfl takes_def (pmk_err1 O_BadRule (hr.mono (by decide)) (pa_cons (pv 8) pa_nil)))) pss_nil)
      (pss_one (ps_expr (pe_bm PySem.F.plainAttrs_list PySem.F.slot_list_append PySem.F.type_list_append mt_append (pv 4) (pa_cons (pe_tup (pa_cons (pv 5) (pa_cons (pv 6) (pa_cons (pv 7) (pa_cons (pv 8) pa_nil))))) pa_nil))))))))
      (pss_one (ps_ret (pe_callTy (tuple_of K) (by rfl) T.m_tuple (by decide +kernel) (pa_cons (pv 4) pa_nil))))))), ?_⟩
    walk_at "ls"
    have lkn : kn.length = ks.length := by
      have z := congrArg List.length ekn
      rw [List.length_map, List.length_map] at z
      exact z.symm
    have ly : ys.length < sizeLine := Nat.lt_of_le_of_lt (by rw [hy.len, List.length_map]; exact lk) (show 1000 < sizeLine by decide)
    refine ⟨⟨_, .inl (.inl hb)⟩, fun D1 hD1 => ?_⟩
    have nbD : b ≠ D1 := ne_of_none hb hD1
    refine lc_pure (walk_tup (xs := ys)) ys (fstOf H) rfl (fun i H x H' hi hy => hy) ly (fun acc => .inl (.inl (by rw [upd_ne nbD]; exact hb))) (fun j y hj hyj => ?_) ?_
    · obtain ⟨zs, hzs, hto⟩ := TupsAt.get hy hyj
      obtain ⟨k2, hk2, rfl⟩ := map_get hzs
      obtain ⟨t2, rfl, ht2⟩ := id hto
      have n2 : t2 ≠ D1 := ne_of_none ht2 hD1
      refine ⟨rfl, ?_⟩
      walk_at "ls"
      exact lc_yes hyj hj ly (fst_tup hto)
    rw [fst_all (fun a : V × V => a.1) (fun a => [a.2]) (l := ks) hy, ekn]
    refine at_heap (φ := fun H1 => Same H H1 ∧ H1 D1 = some (.lst (kn.map V.str))) ⟨same_new hD1, upd_same⟩ ?_
    rintro H1 ⟨s1, h1D⟩
    refine ⟨Nat.zero_le _, fun p hp => ?_⟩
    have s1p : Same H1 (upd H1 p (.lst [])) := same_new hp
    walk_at "ls"
    have hpn : H p = none := s1.free hp
    refine ⟨a, xs, H, rfl, ha, s1.trans s1p, fun J G' wk g0 gs => ?_⟩
    have lx : xs.length = cs.length := by rw [hx.len, List.length_map]
    refine for_it wk (fun i σ H2 => ∃ (fx : List V) (v2 v5 v6 v7 v8 : Option V) (zs : List Str), σ = [some (.ref a), some (.ref b), v2, some (.ref D1), some (.ref p), v5, v6, v7, v8, none] ∧ H2 p = some (.lst fx) ∧ TupsAt H2 fx ((cs.take i).map colU) ∧ Same H1 H2 ∧
        (cs.take i).map (·.1) = zs.map V.str ∧ colsErr kn [] cs = colsErr kn zs (cs.drop i))
      ⟨[], none, none, none, none, none, [], rfl, upd_same, .nil, s1p, rfl, rfl⟩ (fun i σ H2 _ ⟨_, _, _, _, _, _, _, _, _, _, s2, _⟩ => gs _ (s1.trans s2)) ?_ ?_
    · rintro i x σ Hz H2 hi ⟨fx, v2, v5, v6, v7, v8, zs, rfl, h2, h2t, s2, ez, ek⟩ ⟨rfl, hxi⟩
      have sH2 : Same H H2 := s1.trans s2
      obtain ⟨rs, hrs, t, rfl, hto⟩ := RowsAt.get (hx.same sH2) hxi
      obtain ⟨c, hc, rfl⟩ := map_get hrs
      have hcm : c ∈ cs := List.mem_of_getElem? hc
      obtain ⟨tg1, tg2, tg3, tg4⟩ := ht c hcm
      refine ⟨t, _, rfl, hto, rfl, _, _, rfl, _, _, rfl, _, _, rfl, _, _, rfl, rfl, ?_⟩
      have h2D := s2 _ _ h1D
      walk_at "ls"
      have lf : fx.length ≤ 1000 := by
        rw [h2t.len, List.length_map, List.length_take]
        omega
      have lz : fx.length < sizeLine := Nat.lt_of_le_of_lt lf (show 1000 < sizeLine by decide)
      -- names + [column[0] for column in found]
      refine ⟨⟨_, .inl (.inl h2)⟩, fun D hD => ?_⟩
      have npD : p ≠ D := ne_of_none h2 hD
      refine lc_pure (walk_list (xs := fx)) fx (fstOf H2) rfl (fun i H x H' hi hy => hy) lz (fun acc => .inl (.inl (by rw [upd_ne npD]; exact h2))) (fun j y hj hyj => ?_) ?_
      · obtain ⟨zs, hzs, hto⟩ := TupsAt.get h2t hyj
        obtain ⟨k2, hk2, rfl⟩ := map_get hzs
        obtain ⟨t2, rfl, ht2⟩ := id hto
        have n2 : t2 ≠ D := ne_of_none ht2 hD
        refine ⟨rfl, ?_⟩
        walk_at "ls"
        exact lc_yes hyj hj lz (fst_tup hto)
      rw [fst_all (fun a : Col => a.1) (fun a => [a.2.1, a.2.2.1, a.2.2.2]) (l := cs.take i) h2t, ez]
      have n1D : D1 ≠ D := ne_of_none h2D hD
      refine ⟨_, _, _, _, rfl, rfl, (by rw [upd_ne n1D]; exact h2D), upd_same, ?_, fun E1 hE1 => ?_⟩
      · have lzs : zs.length ≤ 1000 := by
          have z := congrArg List.length ez
          rw [List.length_map, List.length_map, List.length_take] at z
          omega
        rw [List.length_map, List.length_map]
        exact Nat.le_trans (show _ ≤ 2000 by omega) (show 2000 ≤ sizeLine by decide)
      have e1 := colsErr_step (kn := kn) (taken := zs) hc
      rw [ek, e1] at q
      unfold colErr at q
      have sE : Same H2 (upd (upd H2 D (.lst (zs.map V.str))) E1 (.lst (kn.map V.str ++ zs.map V.str))) := (same_new hD).trans (same_new hE1)
      simp only [tNil, List.set]
      refine free_of (ts := kn ++ zs) (tg1.same (sH2.trans sE)) (by rw [upd_same, List.map_append]) ?_
      cases hn : nameErr (kn ++ zs) c.1 with
      | some b =>
        rw [hn] at q
        exact nameE.go q (sH2.trans sE)
      | none =>
        rw [hn] at q
        simp only at q
        intro H3 s3
        obtain ⟨n1, n2⟩ := nameErr_none hn
        have s23 : Same H2 H3 := sE.trans s3
        have h3D := s23 _ _ h2D
        have h3 := s23 _ _ h2
        have sH3 : Same H H3 := sH2.trans s23
        -- for kind in (home, goal)
        walk_at "ls"
        refine ⟨(by show 2 ≤ sizeLine; decide), fun g hg => ?_⟩
        refine ⟨g, rfl, ⟨_, .inl (.inl upd_same)⟩, ?_⟩
        have n3g : D1 ≠ g := ne_of_none h3D hg
        have npg : p ≠ g := ne_of_none h3 hg
        have s3g : Same H3 (upd H3 g (.tup [c.2.1, c.2.2.1])) := same_new hg
        refine for_it (walk_tup (xs := [c.2.1, c.2.2.1])) (fun j σ H4 => ∃ v2 : Option V, σ = [some (.ref a), some (.ref b), v2, some (.ref D1), some (.ref p), some c.1, some c.2.1, some c.2.2.1, some c.2.2.2, none] ∧ H4 = upd H3 g (.tup [c.2.1, c.2.2.1]) ∧ (1 ≤ j → isWordV kn c.2.1 = true) ∧ (2 ≤ j → isWordV kn c.2.2.1 = true))
          ⟨v2, rfl, rfl, fun z => absurd z (by decide), fun z => absurd z (by decide)⟩ (fun j σ H4 _ ⟨_, _, e, _⟩ => .inl (.inl (by rw [e]; exact upd_same))) ?_ ?_
        · rintro j y σ Hy H4 hj ⟨v2, rfl, e4, w1, w2⟩ ⟨rfl, hyj⟩
          have sH4 : Same H H4 := by rw [e4]; exact sH3.trans s3g
          have hyt : Thg K H y := by
            match j, hj, hyj with
            | 0, _, h => rw [← Option.some.inj h]; exact tg2
            | 1, _, h => rw [← Option.some.inj h]; exact tg3
          walk_at "ls"
          refine ⟨y, D1, kn, rfl, hyt.same sH4, .inl (.inl (.inl (by rw [e4, upd_ne n3g]; exact h3D))), ?_⟩
          refine ⟨_, rfl, ?_⟩
          cases hw : isWordV kn y with
          | true =>
            refine iteF ⟨_, rfl, e4, fun _ => ?_, fun z => ?_⟩
            · match j, hj, hyj with
              | 0, _, h => rw [← Option.some.inj h] at hw; exact hw
              | 1, _, h => exact w1 (Nat.le_refl _)
            · match j, hj, hyj with
              | 0, _, h => exact absurd z (by decide)
              | 1, _, h => rw [← Option.some.inj h] at hw; exact hw
          | false =>
            refine iteT ?_
            walk_at "ls"
            have hE : oneE cK "kind" H E y := by
              match j, hj, hyj with
              | 0, _, h =>
                have e := Option.some.inj h
                change c.2.1 = y at e
                rw [e, hw, if_neg (by decide)] at q
                exact q
              | 1, _, h =>
                have e := Option.some.inj h
                change c.2.2.1 = y at e
                rw [w1 (Nat.le_refl _), if_pos rfl, e, hw, if_neg (by decide)] at q
                exact q
            exact fun d hd => hE _ d sH4 hd
        · rintro σ H4 ⟨v2, rfl, e4, w1, w2⟩
          rw [w1 (by show 1 ≤ 2; decide), w2 (Nat.le_refl _), if_pos rfl, if_pos rfl] at q
          have sH4 : Same H H4 := by rw [e4]; exact sH3.trans s3g
          walk_at "ls"
          refine ⟨_, aR, ruleW, rfl, tg4.same sH4, .inr (G.kRULES.sq _), ?_⟩
          refine ⟨_, rfl, ?_⟩
          cases hw : isWordV ruleW c.2.2.2 with
          | false =>
            rw [hw, if_neg (by decide)] at q
            refine iteT ?_
            walk_at "ls"
            exact fun d hd => q _ d sH4 hd
          | true =>
            rw [hw, if_pos rfl] at q
            simp only at q
            refine iteF ?_
            walk_at "ls"
            refine ⟨.inl ⟨rfl, _, .inl (.inl (show H4 p = some (.lst fx) by rw [e4, upd_ne npg]; exact h3))⟩, ?_⟩
            walk_at "ls"
            refine ⟨(by show 4 ≤ sizeLine; decide), fun t2 ht2 => ?_⟩
            have h4 : H4 p = some (.lst fx) := by rw [e4, upd_ne npg]; exact h3
            have npt : p ≠ t2 := ne_of_none h4 ht2
            have s24 : Same H2 H4 := s23.trans (by rw [e4]; exact same_new hg)
            have h4' : (upd H4 t2 (.tup [c.1, c.2.1, c.2.2.1, c.2.2.2])) p = some (.lst fx) := by rw [upd_ne npt]; exact h4
            refine ⟨_, _, _, rfl, rfl, h4', lz, fx ++ [.ref t2], _, _, _, _, _, zs ++ [strOf c.1], rfl, upd_same, ?_, ?_, ?_, ?_⟩
            · rw [List.take_add_one, hc, Option.toList_some, List.map_append]
              exact (h2t.keep (((TK.same s24).trans (.new ht2)).trans (.lst h4'))).snoc ⟨t2, rfl, by rw [upd_ne npt.symm]; exact upd_same⟩
            · exact Same.set ((s2.trans s24).trans (same_new ht2)) hp
            · rw [List.take_add_one, hc, Option.toList_some, List.map_append, ez, List.map_append, List.map_cons, List.map_cons, ← name_str n1]
              rfl
            · rw [ek, e1]
              unfold colErr
              rw [hn]
              simp only [w1 (show 1 ≤ 2 by decide), w2 (Nat.le_refl 2), hw, if_true]
    · rintro σ H2 ⟨fx, v2, v5, v6, v7, v8, zs, rfl, h2, h2t, s2, ez, ek⟩
      rw [lx, List.take_length] at h2t
      rw [lx, List.drop_length] at ek
      rw [ek] at q
      walk_at "ls"
      refine ⟨p, fx, rfl, .inl ⟨.inl (.inl h2), fun l hl => ?_⟩⟩
      exact q _ l fx upd_same (h2t.keep (.new hl)) ((s1.trans s2).trans (same_new hl))
end
end Ls
namespace Ls
open PySem PySem.Spec PyProof.Rows L2
/-! ### short steps -/
local macro_rules | `(tactic| walk_at "ls_ne") => `(tactic| first | assumption | exact Ne.symm (by assumption) | exact ne_of_none (by assumption) (by assumption) | exact Ne.symm (ne_of_none (by assumption) (by assumption)))
local macro_rules | `(tactic| walk_at "ls_hp") => `(tactic| first
  | with_reducible assumption
  | exact upd_same
  | exact Eq.trans (upd_ne (by walk_at "ls_ne")) (by walk_at "ls_hp"))
local macro_rules | `(tactic| walk_at "ls_st") => `(tactic| first
  | with_reducible assumption
  | exact Stm.upd (by walk_at "ls_st") (by first | walk_at "ls_ne" | exact (Stm.noneS (by assumption) (by assumption)).1) (by first | walk_at "ls_ne" | exact (Stm.noneS (by assumption) (by assumption)).2))
local macro_rules | `(tactic| walk_at "ls1") => `(tactic| first
  | refine ⟨_, rfl, ?_⟩
  | refine ⟨_, _, rfl, rfl, ?_⟩
  | refine ⟨_, _, _, _, rfl, rfl, .inl (.inl (by walk_at "ls_hp")), rfl, ?_⟩
  | refine ⟨_, _, _, _, rfl, rfl, (by walk_at "ls_hp"), rfl, ?_⟩
  | refine ⟨rfl, _, rfl, ?_⟩
  | refine ⟨.inl ⟨rfl, _, .inl (.inl (by walk_at "ls_hp"))⟩, ?_⟩)
local macro_rules | `(tactic| walk_at "ls") => `(tactic| repeat (walk_at "ls1"))

/-- the menu by the names -/
def menuU (kn cn : List Str) : List Str := (cn.flatMap (withN colW) ++ kn.flatMap (withN kindW)) ++ bookW
theorem menuU_len (kn cn : List Str) : (menuU kn cn).length = 5 * cn.length + 3 * kn.length + 2 := by
  unfold menuU
  rw [List.length_append, List.length_append, flat_len _ 5 (fun c => by rw [withN, List.length_map]; rfl), flat_len _ 3 (fun c => by rw [withN, List.length_map]; rfl)]
  rfl
theorem names_at {α : Type} {l : List (V × α)} {zs : List Str} (e : l.map (·.1) = zs.map V.str) {i : Nat} {c : V × α} (h : l[i]? = some c) : ∃ z, zs[i]? = some z ∧ c.1 = .str z := by
  have h2 : (l.map (·.1))[i]? = some c.1 := by rw [List.getElem?_map, h]; rfl
  rw [e] at h2
  obtain ⟨z, hz, ez⟩ := map_get h2
  exact ⟨z, hz, ez⟩
theorem flat_snocU {f : Str → List Str} {l : List Str} {i : Nat} {z : Str} (h : l[i]? = some z) : (l.take (i + 1)).flatMap f = (l.take i).flatMap f ++ f z := by
  rw [List.take_add_one, h, List.flatMap_append]
  simp
def onlyIn (ts : List Str) (v : V) : Option V := if inV v (ts.map V.str) = true then some v else none
theorem onlyIn_all (ts : List Str) : ∀ ys : List Str, (ys.map V.str).filterMap (onlyIn ts) = (ys.filter fun z => decide (z ∈ ts)).map V.str
  | [] => rfl
  | y :: r => by
    rw [List.map_cons, List.filterMap_cons, List.filter_cons, onlyIn_all ts r]
    unfold onlyIn
    rw [in_strs]
    by_cases h : y ∈ ts
    · simp [h]
    · simp [h]
section
variable {P : Program} {w : World} {K : PySem.W.Frag} {mg : Str → Option Value} {base : Heap}
/-! ### _menu_of -/
abbrev s__menu_of : Stmt := topS 29
theorem sc__menu_of : FnScope ["kinds", "columns", "found", "column", "kind", "word"] ["kinds", "columns"] (defScope s__menu_of) := ⟨rfl, rfl, rfl, by decide +kernel, rfl, by decide +kernel, by decide +kernel⟩
abbrev N__menu_of : List Str := ["kinds", "columns", "found", "column", "kind", "word"]
def spMenu : Sp := fun vs H Q _ => ∃ (a b : Addr) (xs ys : List V) (ks : List (V × V)) (cs : List Col) (kn cn : List Str), vs = [.ref a, .ref b] ∧ H a = some (.tup xs) ∧ TupsAt H xs (ks.map fun k => [k.1, k.2]) ∧ H b = some (.tup ys) ∧ TupsAt H ys (cs.map colU) ∧
  ks.map (·.1) = kn.map V.str ∧ cs.map (·.1) = cn.map V.str ∧ kn.length ≤ 1000 ∧ cn.length ≤ 1000 ∧ (∀ z ∈ kn, z.length ≤ 8) ∧ (∀ z ∈ cn, z.length ≤ 8) ∧
  ∀ (H' : Hp) (p : Addr), H' p = some (.tup ((menuU kn cn).map V.str)) → Same H H' → Q (.ref p) H'
theorem ok_menu {f : Addr} {fd : FuncData} {aR aC aK aB : Addr} {tS tL tN : Tok} (F : Fun K "_menu_of" "_menu_of" s__menu_of f fd) (T : Bt mg) (G : Gn K mg aR aC aK aB tS tL tN) : FnOk P w K mg base CX0 1 f fd ["kinds", "columns"] spMenu := by
  refine F.ok sc__menu_of (fun vs H Q E h => ?_) (fun cdv A outer s H vs Q E hr h => ?_)
  · obtain ⟨a, b, xs, ys, ks, cs, kn, cn, rfl, _⟩ := h
    rfl
  · obtain ⟨ka, ca, kx, cx, ks, cs, kn, cn, rfl, hka, hkt, hca, hct, ekn, ecn, lkn, lcn, nk, nc, q⟩ := h
    have lks : ks.length = kn.length := by
      have z := congrArg List.length ekn
      rw [List.length_map, List.length_map] at z
      exact z
    have lcs : cs.length = cn.length := by
      have z := congrArg List.length ecn
      rw [List.length_map, List.length_map] at z
      exact z
    have hu := hu_of hr
    refine ⟨_, (pss_cons (ps_set (i := 2) sc__menu_of.nd rfl (Or.inl rfl) (pe_lst pa_nil))
      (pss_cons (ps_for PassesOwn.never rfl (pi_tup (pv 1)) (pg_name (i := 3) sc__menu_of.nd rfl (Or.inr rfl)) (pss_one (ps_expr (pe_bm PySem.F.plainAttrs_list PySem.F.slot_list_extend PySem.F.type_list_extend mt_extend (pv 2) (pa_cons (pe_lc (own := [("word", 5)]) (g := gName 5) (by rfl) sc__menu_of.nd (pi_tup (glob_ref G.COLUMN_CHECKS)) (blkOk_by (own := [("word", 5)]) (N := N__menu_of) (sc := defScope s__menu_of) (by decide +kernel)) (fun _ _ _ _ _ => (pg_name (i := 5) sc__menu_of.nd rfl (Or.inl rfl) (Or.inr rfl))) (fun _ _ _ _ _ => pts_nil) (fun _ _ _ _ _ => (pe_op op_add_str (pe_op op_add_str (pv 5) pe_str) (pe_ix (ixT K) (pv 3) pe_int (fun _ _ => rfl))))) pa_nil)))))
      (pss_cons (ps_for PassesOwn.never rfl (pi_tup (pv 0)) (pg_name (i := 4) sc__menu_of.nd rfl (Or.inr rfl)) (pss_one (ps_expr (pe_bm PySem.F.plainAttrs_list PySem.F.slot_list_extend PySem.F.type_list_extend mt_extend (pv 2) (pa_cons (pe_lc (own := [("word", 5)]) (g := gName 5) (by rfl) sc__menu_of.nd (pi_tup (glob_ref G.KIND_CHECKS)) (blkOk_by (own := [("word", 5)]) (N := N__menu_of) (sc := defScope s__menu_of) (by decide +kernel)) (fun _ _ _ _ _ => (pg_name (i := 5) sc__menu_of.nd rfl (Or.inl rfl) (Or.inr rfl))) (fun _ _ _ _ _ => pts_nil) (fun _ _ _ _ _ => (pe_op op_add_str (pe_op op_add_str (pv 5) pe_str) (pe_ix (ixT K) (pv 4) pe_int (fun _ _ => rfl))))) pa_nil)))))
      (pss_cons (ps_expr (pe_bm PySem.F.plainAttrs_list PySem.F.slot_list_extend PySem.F.type_list_extend (mt_extK K) (pv 2) (pa_cons (glob_ref G.BOOK_CHECKS) pa_nil)))
      (pss_one (ps_ret (pe_callTy (tuple_of K) (by rfl) T.m_tuple (by decide +kernel) (pa_cons (pv 2) pa_nil)))))))), ?_⟩
    refine ⟨Nat.zero_le _, fun p hp => ?_⟩
    have s0 : Same H (upd H p (.lst [])) := same_new hp
    walk_at "ls"
    refine ⟨⟨_, .inl (.inl (s0 _ _ hca))⟩, ?_⟩
    refine for_it (walk_tup (xs := cx)) (fun i σ H1 => ∃ v : Option V, σ = [some (.ref ka), some (.ref ca), some (.ref p), v, none, none] ∧ H1 p = some (.lst (((cn.take i).flatMap (withN colW)).map V.str)) ∧ Same H H1)
      ⟨none, rfl, upd_same, s0⟩ (fun i σ H1 _ ⟨_, _, _, s1⟩ => .inl (.inl (s1 _ _ hca))) ?_ ?_
    · rintro i x σ Hz H1 hi ⟨v, rfl, h1, s1⟩ ⟨rfl, hx⟩
      obtain ⟨ys, hys, t, rfl, ht⟩ := TupsAt.get (hct.keep (.same s1)) hx
      obtain ⟨c, hc, rfl⟩ := map_get hys
      obtain ⟨z, hz, ecz⟩ := names_at ecn hc
      have hnm : z.length ≤ 8 := nc _ (List.mem_of_getElem? hz)
      unfold colU at ht
      rw [ecz] at ht
      walk_at "ls"
      refine ⟨⟨_, G.kCOL.sq _⟩, fun D hD => ?_⟩
      have npD : p ≠ D := ne_of_none h1 hD
      have ntD : t ≠ D := ne_of_none ht hD
      refine lc_pure (walk_tup (xs := colW.map V.str)) (colW.map V.str) (addN z) rfl (fun i H x H' hi hy => hy) (by decide +kernel) (fun acc => G.kCOL.sq _) (fun k y hk hy => ?_) ?_
      · obtain ⟨a, ha, rfl⟩ := map_get hy
        have hal : a.length ≤ 5 := colW_len a (List.mem_of_getElem? ha)
        refine ⟨rfl, ?_⟩
        walk_at "ls"
        refine ⟨room_str (m := 1) hal (by decide +kernel) (by decide), ?_⟩
        walk_at "ls"
        refine ⟨room_str (n := 6) (m := 8) (word_len hal) hnm (by decide), ?_⟩
        exact lc_yes hy hk (by decide +kernel) rfl
      rw [addN_all]
      refine ⟨_, _, _, _, rfl, rfl, (by rw [upd_ne npD]; exact h1), upd_same, ?_, ?_⟩
      · rw [List.length_map, List.length_map, flat_len _ 5 (fun c => by rw [withN, List.length_map]; rfl), withN, List.length_map, List.length_take]
        show 5 * _ + 5 ≤ sizeLine
        exact Nat.le_trans (by omega) (show 10000 ≤ sizeLine by decide)
      · refine ⟨_, rfl, ?_, ?_⟩
        · rw [upd_same, flat_snocU hz, List.map_append]
        · exact Same.set (s1.trans (same_new hD)) hp
    · rintro σ H1 ⟨v, rfl, h1, s1⟩
      have e1 : cn.take cx.length = cn := by
        have := hct.len
        rw [List.length_map] at this
        rw [this, lcs, List.take_length]
      rw [e1] at h1
      walk_at "ls"
      refine ⟨⟨_, .inl (.inl (s1 _ _ hka))⟩, ?_⟩
      refine for_it (walk_tup (xs := kx)) (fun i σ H1 => ∃ v v3 : Option V, σ = [some (.ref ka), some (.ref ca), some (.ref p), v, v3, none] ∧ H1 p = some (.lst ((cn.flatMap (withN colW) ++ (kn.take i).flatMap (withN kindW)).map V.str)) ∧ Same H H1)
        ⟨v, none, rfl, (by rw [List.take_zero, List.flatMap_nil, List.append_nil]; exact h1), s1⟩ (fun i σ H1 _ ⟨_, _, _, _, s1⟩ => .inl (.inl (s1 _ _ hka))) ?_ ?_
      · clear h1 s1 v
        rintro i x σ Hz H1 hi ⟨v, v3, rfl, h1, s1⟩ ⟨rfl, hx⟩
        obtain ⟨ys, hys, t, rfl, ht⟩ := TupsAt.get (hkt.keep (.same s1)) hx
        obtain ⟨c, hc, rfl⟩ := map_get hys
        obtain ⟨z, hz, ecz⟩ := names_at ekn hc
        have hnm : z.length ≤ 8 := nk _ (List.mem_of_getElem? hz)
        rw [ecz] at ht
        walk_at "ls"
        refine ⟨⟨_, G.kKIND.sq _⟩, fun D hD => ?_⟩
        have npD : p ≠ D := ne_of_none h1 hD
        have ntD : t ≠ D := ne_of_none ht hD
        refine lc_pure (walk_tup (xs := kindW.map V.str)) (kindW.map V.str) (addN z) rfl (fun i H x H' hi hy => hy) (by decide +kernel) (fun acc => G.kKIND.sq _) (fun k y hk hy => ?_) ?_
        · obtain ⟨a, ha, rfl⟩ := map_get hy
          have hal : a.length ≤ 5 := kindW_len a (List.mem_of_getElem? ha)
          refine ⟨rfl, ?_⟩
          walk_at "ls"
          refine ⟨room_str (m := 1) hal (by decide +kernel) (by decide), ?_⟩
          walk_at "ls"
          refine ⟨room_str (n := 6) (m := 8) (word_len hal) hnm (by decide), ?_⟩
          exact lc_yes hy hk (by decide +kernel) rfl
        rw [addN_all]
        refine ⟨_, _, _, _, rfl, rfl, (by rw [upd_ne npD]; exact h1), upd_same, ?_, ?_⟩
        · rw [List.length_map, List.length_append, List.length_map, flat_len _ 5 (fun c => by rw [withN, List.length_map]; rfl), flat_len _ 3 (fun c => by rw [withN, List.length_map]; rfl), withN, List.length_map, List.length_take]
          show 5 * _ + 3 * _ + 3 ≤ sizeLine
          exact Nat.le_trans (by omega) (show 10000 ≤ sizeLine by decide)
        · refine ⟨_, _, rfl, ?_, ?_⟩
          · rw [upd_same, flat_snocU hz, List.map_append, List.map_append, List.map_append, List.append_assoc]
          · exact Same.set (s1.trans (same_new hD)) hp
      · clear h1 s1 v
        rintro σ H1 ⟨v, v3, rfl, h1, s1⟩
        have e2 : kn.take kx.length = kn := by
          have := hkt.len
          rw [List.length_map] at this
          rw [this, lks, List.take_length]
        rw [e2] at h1
        walk_at "ls"
        have em : (cn.flatMap (withN colW) ++ kn.flatMap (withN kindW)).map V.str ++ bookW.map V.str = (menuU kn cn).map V.str := by
          unfold menuU
          rw [List.map_append (l₂ := bookW)]
        have lm : ((menuU kn cn).map V.str).length ≤ 10000 := by
          rw [List.length_map, menuU_len]
          omega
        refine ⟨_, _, _, _, rfl, rfl, h1, G.kBOOK, ?_, ?_⟩
        · rw [← List.length_append, em]
          exact Nat.le_trans lm (show 10000 ≤ sizeLine by decide)
        rw [em]
        have s2 : Same H (upd H1 p (.lst ((menuU kn cn).map V.str))) := Same.set s1 hp
        walk_at "ls"
        refine ⟨p, _, rfl, .inl ⟨.inl (.inl upd_same), fun l hl => ?_⟩⟩
        exact q _ l upd_same (s2.trans (same_new hl))
/-! ### _read_checks -/
abbrev s__read_checks : Stmt := topS 30
theorem sc__read_checks : FnScope ["checks", "menu", "given", "check"] ["checks", "menu"] (defScope s__read_checks) := ⟨rfl, rfl, rfl, by decide +kernel, rfl, by decide +kernel, by decide +kernel⟩
abbrev N__read_checks : List Str := ["checks", "menu", "given", "check"]
/-- the first check that is none -/
def checksErr (mn : List Str) (ck : List V) : Option V := ck.find? fun v => !isWordV mn v
theorem checks_strs {mn : List Str} : ∀ {ck : List V}, (∀ v ∈ ck, isWordV mn v = true) → ck = (ck.map strOf).map V.str
  | [], _ => rfl
  | v :: r, h => by
    rw [List.map_cons, List.map_cons, ← word_str (h v (.head _)), ← checks_strs fun u hu => h u (.tail _ hu)]
def spReadX (K : PySem.W.Frag) (cX : Addr) : Sp := fun vs H Q E => ∃ (a b : Addr) (ck : List V) (mn : List Str), vs = [.ref a, .ref b] ∧ SqU K H a ck ∧ (∀ v ∈ ck, Thg K H v) ∧ H b = some (.tup (mn.map V.str)) ∧ ck.length ≤ 1000 ∧ mn.length ≤ 10000 ∧
  match checksErr mn ck with
  | some v => oneE cX "check" H E v
  | none => ∀ (H' : Hp) (p : Addr), H' p = some (.tup ((mn.filter fun z => decide (z ∈ ck.map strOf)).map V.str)) → Same H H' → Q (.ref p) H'
theorem ok_readX {f : Addr} {fd : FuncData} {cX : Addr} (F : Fun K "_read_checks" "_read_checks" s__read_checks f fd) (T : Bt mg) (O_is_word_of : Own P w K mg base CX0 1 "is_word_of" ["thing", "words"] (spWord K))
    (O_UnknownCheck : OwnX P w K mg base "UnknownCheck" ["check"] (spI1 cX "check") cX) : FnOk P w K mg base (L2.CX P w) 4 f fd ["checks", "menu"] (spReadX K cX) := by
  refine F.okX sc__read_checks (fun vs H Q E h => ?_) (fun cdv A outer s H vs Q E hr h => ?_)
  · obtain ⟨a, b, ck, mn, rfl, _⟩ := h
    rfl
  · obtain ⟨a, b, ck, mn, rfl, ha, ht, hb, lc, lm, q⟩ := h
    have hu := hu_of hr
    refine ⟨_, (pss_cons (ps_set (i := 2) sc__read_checks.nd rfl (Or.inr rfl) (pe_callTy (list_of K) (by rfl) T.m_list (by decide +kernel) (pa_cons (pv 0) pa_nil)))
      (pss_cons (ps_for own_def rfl (pi_list (pv 2)) (pg_name (i := 3) sc__read_checks.nd rfl (Or.inl rfl)) (pss_one (ps_if (pt_not (pt_val (own_call O_is_word_of hr (by first | decide | omega) (pa_cons (pv 3) (pa_cons (pv 1) pa_nil))))) (pss_one (ps_err rfl takes_def (pmk_err1 O_UnknownCheck (hr.mono (by decide)) (pa_cons (pv 3) pa_nil)))) pss_nil)))
      (pss_one (ps_ret (pe_callTy (tuple_of K) (by rfl) T.m_tuple (by decide +kernel) (pa_cons (pe_lc (own := [("check", 3)]) (g := gName 3) (by rfl) sc__read_checks.nd (pi_tup (pv 1)) (blkOk_by (own := [("check", 3)]) (N := N__read_checks) (sc := defScope s__read_checks) (by decide +kernel)) (fun _ _ _ _ _ => (pg_name (i := 3) sc__read_checks.nd rfl (Or.inl rfl) (Or.inr rfl))) (fun _ _ _ _ _ => (pts_one (pt_cmpR (in_seq K) (pv 3) (pv 2) (by rfl)))) (fun _ _ _ _ _ => (pv 3))) pa_nil)))))), ?_⟩
    walk_at "ls"
    refine ⟨a, ck, rfl, ha, fun g hg => ?_⟩
    have s0 : Same H (upd H g (.lst ck)) := same_new hg
    walk_at "ls"
    refine ⟨⟨_, .inl (.inl upd_same)⟩, ?_⟩
    refine for_it (walk_list (xs := ck)) (fun i σ H1 => ∃ v : Option V, σ = [some (.ref a), some (.ref b), some (.ref g), v] ∧ H1 = upd H g (.lst ck) ∧ ∀ u ∈ ck.take i, isWordV mn u = true)
      ⟨none, rfl, rfl, fun u hu => by rw [List.take_zero] at hu; cases hu⟩ (fun i σ H1 _ ⟨_, _, e, _⟩ => .inl (.inl (by rw [e]; exact upd_same))) ?_ ?_
    · rintro i x σ Hz H1 hi ⟨v, rfl, e1, hw⟩ ⟨rfl, hx⟩
      have sH : Same H H1 := by rw [e1]; exact s0
      walk_at "ls"
      refine ⟨x, b, mn, rfl, (ht x (List.mem_of_getElem? hx)).same sH, .inr (.inl (.inl (sH _ _ hb))), ?_⟩
      refine ⟨_, rfl, ?_⟩
      cases hx1 : isWordV mn x with
      | true =>
        refine iteF ⟨_, rfl, e1, fun u hu => ?_⟩
        rw [List.take_add_one, hx] at hu
        rcases List.mem_append.mp hu with hu | hu
        · exact hw u hu
        · have e := List.mem_singleton.mp hu
          rw [e]
          exact hx1
      | false =>
        refine iteT ?_
        walk_at "ls"
        have e : checksErr mn ck = some x := by
          unfold checksErr
          rw [← List.take_append_drop i ck, List.find?_append, List.find?_eq_none.mpr (fun u hu => by rw [hw u hu]; decide)]
          obtain ⟨hi2, e2⟩ := List.getElem?_eq_some_iff.mp hx
          rw [List.drop_eq_getElem_cons hi2, e2, List.find?_cons, hx1]
          rfl
        rw [e] at q
        exact fun d hd => q _ d sH hd
    · rintro σ H1 ⟨v, rfl, e1, hw⟩
      subst e1
      rw [List.take_length] at hw
      have e : checksErr mn ck = none := List.find?_eq_none.mpr fun u hu => by rw [hw u hu]; decide
      rw [e] at q
      have es := checks_strs hw
      generalize ck.map strOf = cz at es q
      subst es
      walk_at "ls"
      have hb1 := s0 _ _ hb
      refine ⟨⟨_, .inl (.inl hb1)⟩, fun D hD => ?_⟩
      have nbD : b ≠ D := ne_of_none hb1 hD
      have ngD : g ≠ D := ne_of_none upd_same hD
      have lz : (mn.map V.str).length < sizeLine := Nat.lt_of_le_of_lt (by rw [List.length_map]; exact lm) (show 10000 < sizeLine by decide)
      refine lc_pure (walk_tup (xs := mn.map V.str)) (mn.map V.str) (onlyIn cz) rfl (fun i H x H' hi hy => hy) lz (fun acc => .inl (.inl (by rw [upd_ne nbD]; exact hb1))) (fun k y hk hy => ?_) ?_
      · obtain ⟨z, hz, rfl⟩ := map_get hy
        refine ⟨rfl, ?_⟩
        walk_at "ls"
        refine ⟨g, _, rfl, .inl (.inl (.inl (by rw [upd_ne ngD]; exact upd_same))), rfl, all_flat cz, _, rfl, ?_⟩
        show if inV (V.str z) (cz.map V.str) = true then _ else _
        rw [in_strs]
        refine ite2 (fun e => ?_) (fun e => ?_)
        · walk_at "ls"
          exact lc_yes hy hk lz (by unfold onlyIn; rw [in_strs]; simpa using e)
        · exact lc_no hy (by unfold onlyIn; rw [in_strs]; simpa using e)
      rw [onlyIn_all]
      refine ⟨D, _, rfl, .inl ⟨.inl (.inl upd_same), fun l hl => ?_⟩⟩
      exact q _ l upd_same ((s0.trans (same_new hD)).trans (same_new hl))
end
end Ls
namespace Ls
open PySem PySem.Spec PyProof.Rows L2
/-! ### short steps -/
local macro_rules | `(tactic| walk_at "ls_ne") => `(tactic| first | assumption | exact Ne.symm (by assumption) | exact ne_of_none (by assumption) (by assumption) | exact Ne.symm (ne_of_none (by assumption) (by assumption)))
local macro_rules | `(tactic| walk_at "ls_hp") => `(tactic| first
  | with_reducible assumption
  | exact upd_same
  | exact Eq.trans (upd_ne (by walk_at "ls_ne")) (by walk_at "ls_hp"))
local macro_rules | `(tactic| walk_at "ls_st") => `(tactic| first
  | with_reducible assumption
  | exact Stm.upd (by walk_at "ls_st") (by first | walk_at "ls_ne" | exact (Stm.noneS (by assumption) (by assumption)).1) (by first | walk_at "ls_ne" | exact (Stm.noneS (by assumption) (by assumption)).2))
local macro_rules | `(tactic| walk_at "ls1") => `(tactic| first
  | refine ⟨_, rfl, ?_⟩
  | refine ⟨_, _, rfl, rfl, ?_⟩
  | refine ⟨_, _, _, _, rfl, rfl, .inl (.inl (by walk_at "ls_hp")), rfl, ?_⟩
  | refine ⟨_, _, _, _, rfl, rfl, (by walk_at "ls_hp"), rfl, ?_⟩
  | refine ⟨rfl, _, rfl, ?_⟩
  | refine ⟨.inl ⟨rfl, _, .inl (.inl (by walk_at "ls_hp"))⟩, ?_⟩)
local macro_rules | `(tactic| walk_at "ls") => `(tactic| repeat (walk_at "ls1"))

/-- as FunE.ok, for a def that may raise -/
theorem FunE.okX {P : Program} {w : World} {K : PySem.W.Frag} {mg : Str → Option Value} {base : Heap} {x qual : Str} {st : Stmt} {f : Addr} {fd : FuncData} {N ps : List Str} {k : Nat} {sp : Sp} (F : FunE K x qual st f fd) (S : FnScope N ps (defScope st))
    (len : ∀ vs H Q E, sp vs H Q E → vs.length = ps.length)
    (body : ∀ (cdv : Value) (A : Around) (outer : List Env) (s : Shared) (H : Hp) (vs : List V) (Q : VK) (E : XK), Room k (A.deeper (envOfC qual (defScope st) s.heap.objs.size f cdv)) → sp vs H Q E →
      ∃ t, PSs (cxOf (L2.CX P w) P w K mg base N qual (defScope st) f cdv A outer s H E) (defBody st) t ∧ t { nx := fun _ H' => Q .non H', rt := Q } (start N vs) H) : FnOk P w K mg base (L2.CX P w) (k + 1) f fd ps sp := by
  obtain ⟨oc, od, dV, kV, doc, pm, an, cdv, ct, osl, rfl, lk, hcd⟩ := F.ex
  exact fn_of lk hcd S len fun A outer s H vs Q E hr hsp => body cdv A outer s H vs Q E hr hsp
/-! ### a book -/
def bookF (k c m x : Addr) : List (Str × V) := putF "_checks" (.ref x) (putF "_menu" (.ref m) (putF "_columns" (.ref c) (putF "_kinds" (.ref k) [])))
theorem b12 : ¬ (("_kinds" : Str) = "_columns") := by decide +kernel
theorem b13 : ¬ (("_kinds" : Str) = "_menu") := by decide +kernel
theorem b14 : ¬ (("_kinds" : Str) = "_checks") := by decide +kernel
theorem b23 : ¬ (("_columns" : Str) = "_menu") := by decide +kernel
theorem b24 : ¬ (("_columns" : Str) = "_checks") := by decide +kernel
theorem b34 : ¬ (("_menu" : Str) = "_checks") := by decide +kernel
theorem bookF_k {k c m x : Addr} : (bookF k c m x).lookup ("_kinds" : Str) = some (.ref k) := by
  unfold bookF
  rw [lookup_putF, if_neg b14, lookup_putF, if_neg b13, lookup_putF, if_neg b12, lookup_putF, if_pos rfl]
theorem bookF_c {k c m x : Addr} : (bookF k c m x).lookup ("_columns" : Str) = some (.ref c) := by
  unfold bookF
  rw [lookup_putF, if_neg b24, lookup_putF, if_neg b23, lookup_putF, if_pos rfl]
theorem bookF_m {k c m x : Addr} : (bookF k c m x).lookup ("_menu" : Str) = some (.ref m) := by
  unfold bookF
  rw [lookup_putF, if_neg b34, lookup_putF, if_pos rfl]
theorem bookF_x {k c m x : Addr} : (bookF k c m x).lookup ("_checks" : Str) = some (.ref x) := by
  unfold bookF
  rw [lookup_putF, if_pos rfl]
theorem bookF_no {k c m x : Addr} {f : Str} (h1 : ¬ f = "_checks") (h2 : ¬ f = "_menu") (h3 : ¬ f = "_columns") (h4 : ¬ f = "_kinds") : (bookF k c m x).lookup f = none := by
  unfold bookF
  rw [lookup_putF, if_neg h1, lookup_putF, if_neg h2, lookup_putF, if_neg h3, lookup_putF, if_neg h4]
  rfl
def knOf (ks : List (V × V)) : List Str := ks.map fun k => strOf k.1
def cnOf (cs : List Col) : List Str := cs.map fun c => strOf c.1
/-- at o: a book with the kinds ks, the columns cs, the checks ck -/
structure BookU (C : Addr) (H : Hp) (o : Addr) (ks : List (V × V)) (cs : List Col) (ck : List Str) : Prop where
  ex : ∃ (dx k c m x : Addr) (kx cx : List V), H o = some (.ins C dx (bookF k c m x)) ∧ H k = some (.tup kx) ∧ TupsAt H kx (ks.map fun k => [k.1, k.2]) ∧ H c = some (.tup cx) ∧ TupsAt H cx (cs.map colU) ∧
    H m = some (.tup ((menuU (knOf ks) (cnOf cs)).map V.str)) ∧ H x = some (.tup (ck.map V.str))
theorem BookU.same {C : Addr} {H H' : Hp} {o : Addr} {ks : List (V × V)} {cs : List Col} {ck : List Str} (h : BookU C H o ks cs ck) (s : Same H H') : BookU C H' o ks cs ck := by
  obtain ⟨dx, k, c, m, x, kx, cx, h1, h2, h3, h4, h5, h6, h7⟩ := h
  exact ⟨dx, k, c, m, x, kx, cx, s _ _ h1, s _ _ h2, h3.keep (.same s), s _ _ h4, h5.keep (.same s), s _ _ h6, s _ _ h7⟩
/-- what is asked of the class -/
structure BkT (K : PySem.W.Frag) (C : Addr) : Prop where
  cl : Cls K C
  nk : NoAttr K C "_kinds"
  nc : NoAttr K C "_columns"
  nm : NoAttr K C "_menu"
  nx : NoAttr K C "_checks"
/-! ### what is wrong of a book's parts -/
inductive BkE
  | col (e : ColE)
  | check (v : V)
structure ErrA where
  name : Addr
  used : Addr
  kind : Addr
  rule : Addr
  check : Addr
/-- its class, its field, its value -/
def BkE.what (A : ErrA) : BkE → Addr × Str × V
  | .col (.name b v) => (if b = true then A.used else A.name, "name", v)
  | .col (.kind v) => (A.kind, "kind", v)
  | .col (.rule v) => (A.rule, "rule", v)
  | .check v => (A.check, "check", v)
def bookErr (ks : List (V × V)) (cs : List Col) (ck : List V) : Option BkE := match kindsErr [] ks with
  | some e => some (.col (.name e.1 e.2))
  | none => match colsErr (knOf ks) [] cs with
    | some e => some (.col e)
    | none => match checksErr (menuU (knOf ks) (cnOf cs)) ck with
      | some v => some (.check v)
      | none => none
theorem kinds_good : ∀ {ks : List (V × V)} {taken : List Str}, kindsErr taken ks = none → ks.map (·.1) = (knOf ks).map V.str ∧ ∀ z ∈ knOf ks, isNameB z = true
  | [], _, _ => ⟨rfl, fun z hz => by cases hz⟩
  | k :: r, taken, h => by
    unfold kindsErr at h
    cases hn : nameErr taken k.1 with
    | some b => rw [hn] at h; cases h
    | none =>
      rw [hn] at h
      obtain ⟨e, g⟩ := kinds_good h
      obtain ⟨n1, _⟩ := nameErr_none hn
      have ek := name_str n1
      refine ⟨?_, fun z hz => ?_⟩
      · show k.1 :: r.map (·.1) = V.str (strOf k.1) :: (knOf r).map V.str
        rw [← ek, e]
      · rcases List.mem_cons.mp hz with rfl | hz
        · rw [ek] at n1
          exact n1
        · exact g z hz
theorem cols_good {kn : List Str} : ∀ {cs : List Col} {taken : List Str}, colsErr kn taken cs = none → cs.map (·.1) = (cnOf cs).map V.str ∧ ∀ z ∈ cnOf cs, isNameB z = true
  | [], _, _ => ⟨rfl, fun z hz => by cases hz⟩
  | c :: r, taken, h => by
    unfold colsErr at h
    cases hc : colErr kn taken c with
    | some b => rw [hc] at h; cases h
    | none =>
      rw [hc] at h
      obtain ⟨e, g⟩ := cols_good h
      unfold colErr at hc
      cases hn : nameErr (kn ++ taken) c.1 with
      | some b => rw [hn] at hc; cases hc
      | none =>
        obtain ⟨n1, _⟩ := nameErr_none hn
        have ek := name_str n1
        refine ⟨?_, fun z hz => ?_⟩
        · show c.1 :: r.map (·.1) = V.str (strOf c.1) :: (cnOf r).map V.str
          rw [← ek, e]
        · rcases List.mem_cons.mp hz with rfl | hz
          · rw [ek] at n1
            exact n1
          · exact g z hz
theorem name_len {z : Str} (h : isNameB z = true) : z.length ≤ 8 := by
  unfold isNameB at h
  simp only [Bool.and_eq_true, decide_eq_true_eq] at h
  exact h.1.2.2
/-! ### all but o stays -/
def But (o : Addr) (H H' : Hp) : Prop := ∀ b u, b ≠ o → H b = some u → H' b = some u
theorem But.same {o : Addr} {H H' : Hp} (s : Same H H') : But o H H' := fun b u _ e => s b u e
theorem But.trans {o : Addr} {H H1 H2 : Hp} (a : But o H H1) (b : But o H1 H2) : But o H H2 := fun c u h e => b c u h (a c u h e)
theorem But.set {o : Addr} {H : Hp} {u : HO} : But o H (upd H o u) := fun b u h e => by rw [upd_ne h]; exact e
theorem But.tk {o C dx : Addr} {H H' : Hp} {fs : List (Str × V)} (b : But o H H') (h : H o = some (.ins C dx fs)) : TK H H' := fun t ys e => b t _ (ne_of e h fun z => nomatch z) e
/-- .. and o stays an instance -/
structure ButI (o C dx : Addr) (H H' : Hp) : Prop where
  but : But o H H'
  was : ∃ fs, H o = some (.ins C dx fs)
  is : ∃ fs, H' o = some (.ins C dx fs)
section
variable {K : PySem.W.Frag} {o C dx a : Addr} {H H' : Hp} {xs : List V} {v : V} {t : Value}
theorem ButI.rd (b : ButI o C dx H H') {u : HO} (hu : ∀ C dx fs, u ≠ .ins C dx fs) (h : Rd H a u) : Rd H' a u := by
  obtain ⟨fs, hw⟩ := b.was
  rcases h with h | ⟨ob, h⟩
  · exact .inl (b.but _ _ (ne_of h hw (hu _ _ _)) h)
  · exact .inr ⟨ob, b.but _ _ (ne_of h hw fun z => nomatch z) h⟩
theorem ButI.sqU (b : ButI o C dx H H') (h : SqU K H a xs) : SqU K H' a xs :=
  h.elim (fun z => .inl (z.elim (fun y => .inl (b.rd (fun _ _ _ z => nomatch z) y)) .inr)) fun z => .inr (z.elim (fun y => .inl (b.rd (fun _ _ _ z => nomatch z) y)) .inr)
theorem ButI.rows (b : ButI o C dx H H') : ∀ {xs : List V} {yss : List (List V)}, RowsAt K H xs yss → RowsAt K H' xs yss
  | _, _, .nil => .nil
  | _, _, .cons ⟨t, e, q⟩ r => .cons ⟨t, e, b.sqU q⟩ (ButI.rows b r)
theorem ButI.ty (b : ButI o C dx H H') (h : TyX K H v t) : TyX K H' v t := by
  obtain ⟨fs, hw⟩ := id b.was
  have k : ∀ {a : Addr} {u : HO}, (∀ C dx fs, u ≠ .ins C dx fs) → H a = some u → H' a = some u := fun {a u} n e => b.but _ _ (ne_of e hw (n _ _ _)) e
  cases h with
  | base h =>
    refine .base ?_
    cases h with
    | non => exact .non
    | bl x => exact .bl x
    | int i => exact .int i
    | str x => exact .str x
    | flt x => exact .flt x
    | lst e => exact .lst (k (fun _ _ _ z => nomatch z) e)
    | frz e => exact .frz (k (fun _ _ _ z => nomatch z) e)
    | tup e => exact .tup (k (fun _ _ _ z => nomatch z) e)
    | dK e => exact .dK (k (fun _ _ _ z => nomatch z) e)
    | dT e => exact .dT (k (fun _ _ _ z => nomatch z) e)
    | @ins a2 C2 dx2 fs2 e cl ha hn htk hm =>
      by_cases hb : a2 = o
      · subst hb
        rw [hw] at e
        cases e
        obtain ⟨fs3, hi⟩ := b.is
        exact .ins hi cl ha hn htk hm
      · exact .ins (b.but _ _ hb e) cl ha hn htk hm
  | byt x => exact .byt x
  | set e => exact .set (k (fun _ _ _ z => nomatch z) e)
  | kList e c => exact .kList e c
  | kTuple e c => exact .kTuple e c
  | kDict e c => exact .kDict e c
  | fTuple e => exact .fTuple (k (fun _ _ _ z => nomatch z) e)
  | fDict e => exact .fDict (k (fun _ _ _ z => nomatch z) e)
theorem ButI.thg (b : ButI o C dx H H') (h : Thg K H v) : Thg K H' v := h.elim .inl fun ⟨⟨t, x, y⟩, z⟩ => .inr ⟨⟨t, b.ty x, y⟩, z⟩
end
section
variable {P : Program} {w : World} {K : PySem.W.Frag} {mg : Str → Option Value} {base : Heap}
/-! ### Book.__init__ -/
abbrev s_Book_init : Stmt := inClass (topS 24) 0
theorem sc_Book_init : FnScope ["self", "kinds", "columns", "checks"] ["self", "kinds", "columns", "checks"] (defScope s_Book_init) := ⟨rfl, rfl, rfl, by decide +kernel, rfl, by decide +kernel, by decide +kernel⟩
abbrev N_Book_init : List Str := ["self", "kinds", "columns", "checks"]
def spInit (K : PySem.W.Frag) (C : Addr) (A : ErrA) : Sp := fun vs H Q E => ∃ (o dx ka ca xa : Addr) (kx cx ck : List V) (ks : List (V × V)) (cs : List Col), vs = [.ref o, .ref ka, .ref ca, .ref xa] ∧ H o = some (.ins C dx []) ∧
  SqU K H ka kx ∧ RowsAt K H kx (ks.map fun k => [k.1, k.2]) ∧ SqU K H ca cx ∧ RowsAt K H cx (cs.map colU) ∧ SqU K H xa ck ∧ (∀ k ∈ ks, Thg K H k.1) ∧ (∀ c ∈ cs, Thg K H c.1 ∧ Thg K H c.2.1 ∧ Thg K H c.2.2.1 ∧ Thg K H c.2.2.2) ∧ (∀ v ∈ ck, Thg K H v) ∧
  ks.length ≤ 1000 ∧ cs.length ≤ 1000 ∧ ck.length ≤ 1000 ∧
  match bookErr ks cs ck with
  | some e => ∀ H' d, But o H H' → H' d = none → E (.ref (e.what A).1) (some d) (upd H' d (.xd [((e.what A).2.1, (e.what A).2.2)]))
  | none => ∀ H' : Hp, BookU C H' o ks cs ((menuU (knOf ks) (cnOf cs)).filter fun z => decide (z ∈ ck.map strOf)) → But o H H' → Q .non H'
theorem ok_init {C : Addr} {A : ErrA} {f : Addr} {fd : FuncData} (F : FunE K "__init__" "Book.__init__" s_Book_init f fd) (T : BkT K C) (O__read_kinds : OwnR P w K mg base 4 "_read_kinds" ["kinds"] (spReadK K A.name A.used)) (O__read_columns : OwnR P w K mg base 4 "_read_columns" ["columns", "kinds"] (spReadC K A.name A.used A.kind A.rule))
    (O__menu_of : Own P w K mg base CX0 1 "_menu_of" ["kinds", "columns"] spMenu) (O__read_checks : OwnR P w K mg base 4 "_read_checks" ["checks", "menu"] (spReadX K A.check)) : FnOk P w K mg base (L2.CX P w) 5 f fd ["self", "kinds", "columns", "checks"] (spInit K C A) := by
  refine F.okX sc_Book_init (fun vs H Q E h => ?_) (fun cdv A' outer s H vs Q E hr h => ?_)
  · obtain ⟨o, dx, ka, ca, xa, kx, cx, ck, ks, cs, rfl, _⟩ := h
    rfl
  · obtain ⟨o, dx, ka, ca, xa, kx, cx, ck, ks, cs, rfl, ho, hka, hkt, hca, hct, hxa, tk, tc, tx, lk, lc, lx, q⟩ := h
    have hu := hu_of hr
    refine ⟨_, (pss_cons (ps_fld (pv 0) (own_callR O__read_kinds hr (by first | decide | omega) takes_def (pa_cons (pv 1) pa_nil)) rfl)
      (pss_cons (ps_fld (pv 0) (own_callR O__read_columns hr (by first | decide | omega) takes_def (pa_cons (pv 2) (pa_cons (pe_fld (pv 0) rfl) pa_nil))) rfl)
      (pss_cons (ps_fld (pv 0) (own_call O__menu_of hr (by first | decide | omega) (pa_cons (pe_fld (pv 0) rfl) (pa_cons (pe_fld (pv 0) rfl) pa_nil))) rfl)
      (pss_one (ps_fld (pv 0) (own_callR O__read_checks hr (by first | decide | omega) takes_def (pa_cons (pv 3) (pa_cons (pe_fld (pv 0) rfl) pa_nil))) rfl))))), ?_⟩
    unfold bookErr at q
    walk_at "ls"
    refine ⟨ka, kx, ks, rfl, hka, hkt, tk, lk, ?_⟩
    cases hk : kindsErr [] ks with
    | some e =>
      rw [hk] at q
      exact fun H' d s' n => q H' d (.same s') n
    | none =>
    rw [hk] at q
    simp only at q
    obtain ⟨ekn, gkn⟩ := kinds_good hk
    intro H1 k ys h1k h1t s1
    have h1o := s1 _ _ ho
    refine ⟨_, rfl, o, C, dx, [], rfl, h1o, T.cl, T.nk, (by show 0 < 1000; decide), ?_⟩
    refine at_heap (φ := fun H2 => H2 o = some (.ins C dx (putF "_kinds" (.ref k) [])) ∧ But o H H2 ∧ H2 k = some (.tup ys) ∧ TupsAt H2 ys (ks.map fun k => [k.1, k.2]))
      ⟨upd_same, (But.same s1).trans .set, But.set (o := o) _ _ (ne_of h1k h1o fun z => nomatch z) h1k, h1t.keep ((But.set (o := o)).tk h1o)⟩ ?_
    rintro H2 ⟨h2o, bt2, h2k, h2t⟩
    have bi2 : ButI o C dx H H2 := ⟨bt2, ⟨_, ho⟩, ⟨_, h2o⟩⟩
    walk_at "ls"
    have l1 : (putF "_kinds" (.ref k) []).lookup ("_kinds" : Str) = some (V.ref k) := by rw [lookup_putF, if_pos rfl]
    refine ⟨o, C, dx, _, _, rfl, h2o, T.cl, T.nk, l1, ?_⟩
    refine ⟨ca, k, cx, ys, cs, ks, knOf ks, rfl, bi2.sqU hca, bi2.rows hct, h2k, h2t, ekn, fun c hc => ?_, lc, lk, ?_⟩
    · obtain ⟨a, b, c', d⟩ := tc c hc
      exact ⟨bi2.thg a, bi2.thg b, bi2.thg c', bi2.thg d⟩
    cases hc : colsErr (knOf ks) [] cs with
    | some e =>
      rw [hc] at q
      cases e with
      | name b v => exact fun H' d s' n => q H' d (bt2.trans (.same s')) n
      | kind v => exact fun H' d s' n => q H' d (bt2.trans (.same s')) n
      | rule v => exact fun H' d s' n => q H' d (bt2.trans (.same s')) n
    | none =>
    rw [hc] at q
    simp only at q
    obtain ⟨ecn, gcn⟩ := cols_good hc
    intro H3 c zs h3c h3t s3
    have h3o := s3 _ _ h2o
    refine ⟨_, rfl, o, C, dx, _, rfl, h3o, T.cl, T.nc, (by show 1 < 1000; decide), ?_⟩
    have set3 : But o H3 (upd H3 o (.ins C dx (putF "_columns" (.ref c) (putF "_kinds" (.ref k) [])))) := .set
    refine at_heap (φ := fun H4 => H4 o = some (.ins C dx (putF "_columns" (.ref c) (putF "_kinds" (.ref k) []))) ∧ But o H H4 ∧ H4 k = some (.tup ys) ∧ TupsAt H4 ys (ks.map fun k => [k.1, k.2]) ∧ H4 c = some (.tup zs) ∧ TupsAt H4 zs (cs.map colU))
      ⟨upd_same, (bt2.trans (.same s3)).trans set3, set3 _ _ (ne_of (s3 _ _ h2k) h3o fun z => nomatch z) (s3 _ _ h2k), (h2t.keep (.same s3)).keep (set3.tk h3o), set3 _ _ (ne_of h3c h3o fun z => nomatch z) h3c, h3t.keep (set3.tk h3o)⟩ ?_
    clear h1k h1t s1 h1o h2k h2t h3c h3t s3 h3o set3 h2o bt2 bi2 l1
    rintro H4 ⟨h4o, bt4, h4k, h4kt, h4c, h4ct⟩
    have l1 : (putF "_columns" (.ref c) (putF "_kinds" (.ref k) [])).lookup ("_kinds" : Str) = some (V.ref k) := by rw [lookup_putF, if_neg b12, lookup_putF, if_pos rfl]
    have l2 : (putF "_columns" (.ref c) (putF "_kinds" (.ref k) [])).lookup ("_columns" : Str) = some (V.ref c) := by rw [lookup_putF, if_pos rfl]
    walk_at "ls"
    refine ⟨o, C, dx, _, _, rfl, h4o, T.cl, T.nk, l1, ?_⟩
    walk_at "ls"
    refine ⟨o, C, dx, _, _, rfl, h4o, T.cl, T.nc, l2, ?_⟩
    refine ⟨k, c, ys, zs, ks, cs, knOf ks, cnOf cs, rfl, h4k, h4kt, h4c, h4ct, ekn, ecn, (by unfold knOf; rw [List.length_map]; exact lk), (by unfold cnOf; rw [List.length_map]; exact lc), fun z hz => name_len (gkn z hz), fun z hz => name_len (gcn z hz), fun H5 m h5m s5 => ?_⟩
    have h5o := s5 _ _ h4o
    refine ⟨_, rfl, o, C, dx, _, rfl, h5o, T.cl, T.nm, (by show 2 < 1000; decide), ?_⟩
    have set5 : But o H5 (upd H5 o (.ins C dx (putF "_menu" (.ref m) (putF "_columns" (.ref c) (putF "_kinds" (.ref k) []))))) := .set
    refine at_heap (φ := fun H6 => H6 o = some (.ins C dx (putF "_menu" (.ref m) (putF "_columns" (.ref c) (putF "_kinds" (.ref k) [])))) ∧ But o H H6 ∧ H6 k = some (.tup ys) ∧ TupsAt H6 ys (ks.map fun k => [k.1, k.2]) ∧ H6 c = some (.tup zs) ∧ TupsAt H6 zs (cs.map colU) ∧ H6 m = some (.tup ((menuU (knOf ks) (cnOf cs)).map V.str)))
      ⟨upd_same, (bt4.trans (.same s5)).trans set5, set5 _ _ (ne_of (s5 _ _ h4k) h5o fun z => nomatch z) (s5 _ _ h4k), (h4kt.keep (.same s5)).keep (set5.tk h5o), set5 _ _ (ne_of (s5 _ _ h4c) h5o fun z => nomatch z) (s5 _ _ h4c), (h4ct.keep (.same s5)).keep (set5.tk h5o), set5 _ _ (ne_of h5m h5o fun z => nomatch z) h5m⟩ ?_
    clear h4o bt4 h4k h4kt h4c h4ct l1 l2 h5m s5 h5o set5
    rintro H6 ⟨h6o, bt6, h6k, h6kt, h6c, h6ct, h6m⟩
    have bi6 : ButI o C dx H H6 := ⟨bt6, ⟨_, ho⟩, ⟨_, h6o⟩⟩
    have l3 : (putF "_menu" (.ref m) (putF "_columns" (.ref c) (putF "_kinds" (.ref k) []))).lookup ("_menu" : Str) = some (V.ref m) := by rw [lookup_putF, if_pos rfl]
    walk_at "ls"
    refine ⟨o, C, dx, _, _, rfl, h6o, T.cl, T.nm, l3, ?_⟩
    have lm : (menuU (knOf ks) (cnOf cs)).length ≤ 10000 := by
      rw [menuU_len]
      unfold knOf cnOf
      rw [List.length_map, List.length_map]
      omega
    refine ⟨xa, m, ck, menuU (knOf ks) (cnOf cs), rfl, bi6.sqU hxa, fun v hv => bi6.thg (tx v hv), h6m, lx, lm, ?_⟩
    cases hx : checksErr (menuU (knOf ks) (cnOf cs)) ck with
    | some v =>
      rw [hx] at q
      exact fun H' d s' n => q H' d (bt6.trans (.same s')) n
    | none =>
    rw [hx] at q
    simp only at q
    intro H7 x h7x s7
    have h7o := s7 _ _ h6o
    refine ⟨_, rfl, o, C, dx, _, rfl, h7o, T.cl, T.nx, (by show 3 < 1000; decide), ?_⟩
    have set7 : But o H7 (upd H7 o (.ins C dx (bookF k c m x))) := .set
    exact q _ ⟨dx, k, c, m, x, ys, zs, upd_same, set7 _ _ (ne_of (s7 _ _ h6k) h7o fun z => nomatch z) (s7 _ _ h6k), (h6kt.keep (.same s7)).keep (set7.tk h7o), set7 _ _ (ne_of (s7 _ _ h6c) h7o fun z => nomatch z) (s7 _ _ h6c), (h6ct.keep (.same s7)).keep (set7.tk h7o),
      set7 _ _ (ne_of (s7 _ _ h6m) h7o fun z => nomatch z) (s7 _ _ h6m), set7 _ _ (ne_of h7x h7o fun z => nomatch z) h7x⟩ ((bt6.trans (.same s7)).trans set7)
end
end Ls
namespace Ls
open PySem PySem.Spec PyProof.Rows L2
/-! ### short steps -/
local macro_rules | `(tactic| walk_at "ls_ne") => `(tactic| first | assumption | exact Ne.symm (by assumption) | exact ne_of_none (by assumption) (by assumption) | exact Ne.symm (ne_of_none (by assumption) (by assumption)))
local macro_rules | `(tactic| walk_at "ls_hp") => `(tactic| first
  | with_reducible assumption
  | exact upd_same
  | exact Eq.trans (upd_ne (by walk_at "ls_ne")) (by walk_at "ls_hp"))
local macro_rules | `(tactic| walk_at "ls_st") => `(tactic| first
  | with_reducible assumption
  | exact Stm.upd (by walk_at "ls_st") (by first | walk_at "ls_ne" | exact (Stm.noneS (by assumption) (by assumption)).1) (by first | walk_at "ls_ne" | exact (Stm.noneS (by assumption) (by assumption)).2))
local macro_rules | `(tactic| walk_at "ls1") => `(tactic| first
  | refine ⟨_, rfl, ?_⟩
  | refine ⟨_, _, rfl, rfl, ?_⟩
  | refine ⟨_, _, _, _, rfl, rfl, .inl (.inl (by walk_at "ls_hp")), rfl, ?_⟩
  | refine ⟨_, _, _, _, rfl, rfl, (by walk_at "ls_hp"), rfl, ?_⟩
  | refine ⟨rfl, _, rfl, ?_⟩
  | refine ⟨.inl ⟨rfl, _, .inl (.inl (by walk_at "ls_hp"))⟩, ?_⟩)
local macro_rules | `(tactic| walk_at "ls") => `(tactic| repeat (walk_at "ls1"))

section
variable {P : Program} {w : World} {K : PySem.W.Frag} {mg : Str → Option Value} {base : Heap}
/-! ### the lists of a book -/
abbrev s_Book_kinds : Stmt := inClass (topS 24) 1
theorem sc_Book_kinds : FnScope ["self"] ["self"] (defScope s_Book_kinds) := ⟨rfl, rfl, rfl, by decide +kernel, rfl, by decide +kernel, by decide +kernel⟩
abbrev N_Book_kinds : List Str := ["self"]
def spKinds (C : Addr) : Sp := fun vs H Q _ => ∃ (o : Addr) (ks : List (V × V)) (cs : List Col) (ck : List Str), vs = [.ref o] ∧ BookU C H o ks cs ck ∧ ∀ l kx, H l = none → TupsAt H kx (ks.map fun k => [k.1, k.2]) → Q (.ref l) (upd H l (.lst kx))
theorem ok_kinds {C : Addr} {f : Addr} {fd : FuncData} (F : Fun K "kinds" "Book.kinds" s_Book_kinds f fd) (T : Bt mg) (TB : BkT K C) : FnOk P w K mg base CX0 1 f fd ["self"] (spKinds C) := by
  refine F.ok sc_Book_kinds (fun vs H Q E h => ?_) (fun cdv A outer s H vs Q E hr h => ?_)
  · obtain ⟨o, ks, cs, ck, rfl, _⟩ := h
    rfl
  · obtain ⟨o, ks, cs, ck, rfl, ⟨dx, k, c, m, x, kx, cx, h1, h2, h3, h4, h5, h6, h7⟩, q⟩ := h
    have hu := hu_of hr
    refine ⟨_, (pss_one (ps_ret (pe_callTy (list_of K) (by rfl) T.m_list (by decide +kernel) (pa_cons (pe_fld (pv 0) rfl) pa_nil)))), ?_⟩
    walk_at "ls"
    refine ⟨o, C, dx, _, _, rfl, h1, TB.cl, TB.nk, bookF_k, ?_⟩
    exact ⟨k, kx, rfl, .inr (.inl (.inl h2)), fun l hl => q l kx hl h3⟩
abbrev s_Book_columns : Stmt := inClass (topS 24) 2
theorem sc_Book_columns : FnScope ["self"] ["self"] (defScope s_Book_columns) := ⟨rfl, rfl, rfl, by decide +kernel, rfl, by decide +kernel, by decide +kernel⟩
abbrev N_Book_columns : List Str := ["self"]
def spColumns (C : Addr) : Sp := fun vs H Q _ => ∃ (o : Addr) (ks : List (V × V)) (cs : List Col) (ck : List Str), vs = [.ref o] ∧ BookU C H o ks cs ck ∧ ∀ l cx, H l = none → TupsAt H cx (cs.map colU) → Q (.ref l) (upd H l (.lst cx))
theorem ok_columns {C : Addr} {f : Addr} {fd : FuncData} (F : Fun K "columns" "Book.columns" s_Book_columns f fd) (T : Bt mg) (TB : BkT K C) : FnOk P w K mg base CX0 1 f fd ["self"] (spColumns C) := by
  refine F.ok sc_Book_columns (fun vs H Q E h => ?_) (fun cdv A outer s H vs Q E hr h => ?_)
  · obtain ⟨o, ks, cs, ck, rfl, _⟩ := h
    rfl
  · obtain ⟨o, ks, cs, ck, rfl, ⟨dx, k, c, m, x, kx, cx, h1, h2, h3, h4, h5, h6, h7⟩, q⟩ := h
    have hu := hu_of hr
    refine ⟨_, (pss_one (ps_ret (pe_callTy (list_of K) (by rfl) T.m_list (by decide +kernel) (pa_cons (pe_fld (pv 0) rfl) pa_nil)))), ?_⟩
    walk_at "ls"
    refine ⟨o, C, dx, _, _, rfl, h1, TB.cl, TB.nc, bookF_c, ?_⟩
    exact ⟨c, cx, rfl, .inr (.inl (.inl h4)), fun l hl => q l cx hl h5⟩
end
end Ls
namespace Ls
open PySem PySem.Spec PyProof.Rows L2
/-! ### short steps -/
local macro_rules | `(tactic| walk_at "ls_ne") => `(tactic| first | assumption | exact Ne.symm (by assumption) | exact ne_of_none (by assumption) (by assumption) | exact Ne.symm (ne_of_none (by assumption) (by assumption)))
local macro_rules | `(tactic| walk_at "ls_hp") => `(tactic| first
  | with_reducible assumption
  | exact upd_same
  | exact Eq.trans (upd_ne (by walk_at "ls_ne")) (by walk_at "ls_hp"))
local macro_rules | `(tactic| walk_at "ls_st") => `(tactic| first
  | with_reducible assumption
  | exact Stm.upd (by walk_at "ls_st") (by first | walk_at "ls_ne" | exact (Stm.noneS (by assumption) (by assumption)).1) (by first | walk_at "ls_ne" | exact (Stm.noneS (by assumption) (by assumption)).2))
local macro_rules | `(tactic| walk_at "ls1") => `(tactic| first
  | refine ⟨_, rfl, ?_⟩
  | refine ⟨_, _, rfl, rfl, ?_⟩
  | refine ⟨_, _, _, _, rfl, rfl, .inl (.inl (by walk_at "ls_hp")), rfl, ?_⟩
  | refine ⟨_, _, _, _, rfl, rfl, (by walk_at "ls_hp"), rfl, ?_⟩
  | refine ⟨rfl, _, rfl, ?_⟩
  | refine ⟨.inl ⟨rfl, _, .inl (.inl (by walk_at "ls_hp"))⟩, ?_⟩)
local macro_rules | `(tactic| walk_at "ls") => `(tactic| repeat (walk_at "ls1"))

section
variable {P : Program} {w : World} {K : PySem.W.Frag} {mg : Str → Option Value} {base : Heap}
/-! ### _law_same -/
abbrev s__law_same : Stmt := topS 54
theorem sc__law_same : FnScope ["_law_found", "_law_due_here"] ["_law_found", "_law_due_here"] (defScope s__law_same) := ⟨rfl, rfl, rfl, by decide +kernel, rfl, by decide +kernel, by decide +kernel⟩
abbrev N__law_same : List Str := ["_law_found", "_law_due_here"]
def spSame (K : PySem.W.Frag) : Sp := fun vs H Q _ => ∃ (a b : Addr) (d : PyData), vs = [.ref a, .ref b] ∧ DpX K H (.ref a) d ∧ DpX K H (.ref b) d ∧ (d.showable = true ∧ d.depth ≤ 60 ∧ d.shown.length ≤ sizeLine) ∧ Q (.bl true) H
theorem ok_same {f : Addr} {fd : FuncData} (F : Fun K "_law_same" "_law_same" s__law_same f fd) (T : Bt mg) : FnG P w K mg base CX0 1 f fd ["_law_found", "_law_due_here"] (spSame K) := by
  refine fun_okG F sc__law_same (fun vs H Q E h => ?_) (fun cdv A outer s H vs Q E hgd hr h => ?_)
  · obtain ⟨a, b, d, rfl, _⟩ := h
    rfl
  · obtain ⟨a, b, d, rfl, ha, hb, ⟨h1, h3, h4⟩, q⟩ := h
    have hu := hu_of hr
    refine ⟨_, (pss_one (ps_ret (pe_cmpR op_eq (pe_callB (call_repr_dataX hgd hr) (by rfl) T.m_repr (by decide +kernel) (pa_cons (pv 0) pa_nil)) (pe_callB (call_repr_dataX hgd hr) (by rfl) T.m_repr (by decide +kernel) (pa_cons (pv 1) pa_nil)) (nomark _)))), ?_⟩
    walk_at "ls"
    refine ⟨a, d, rfl, ha, h1, h3, h4, ?_⟩
    walk_at "ls"
    refine ⟨b, d, rfl, hb, h1, h3, h4, ?_⟩
    refine ⟨rfl, ?_⟩
    rw [decide_eq_true rfl]
    exact q
end
end Ls
namespace Ls
open PySem PySem.Spec PyProof.Rows L2
/-! ### len, in, == and operators by methods of the module's own -/
section
variable {X : Cx} {k j : Nat} {C : Addr} {ps : List Str} {sp : Sp} {m : Str}
/-- a method runs at X.A or one call deeper -/
theorem run_ownM (O : OwnM X.prog X.w X.K X.mg X.base CX0 k C m ps sp) {A : Around} (hr : Room k A) {pins : List (Addr × Obj)} {σ : L2.St} {H : Hp} {s : Shared} {Q : VK} {us : List Value} {vs : List V} (I : Inv X pins σ H s)
    (e0 : Env0 X.prog X.w X.K X.mg X.base A X.stack s H) (r : Vals vs us) (q : sp vs H Q E0) {R : Value → Shared → Prop} {E : Value → Shared → Prop} (hR : ∀ v s', EP X pins σ Q v s' → R v s') (f : Addr) (hf : Meth X.K C m f) :
    wpAny (model X.prog X.w) A (call (.ref f) us) R E s := by
  obtain ⟨f2, fd, F, me, b⟩ := O.ex
  have ef : f2 = f := by
    have h1 := me.at_
    have h2 := hf.at_
    rw [h1] at h2
    cases h2
    rfl
  subst ef
  have hb := b s us I.kIn (by rw [List.append_nil, ← r.length]; exact F.len _ _ _ _ q)
  rw [List.append_nil] at hb
  refine wpAny_call (codeAny_mono (F.run A X.stack s H ⟨us, []⟩ us vs Q E0 hr e0 hb r q) fun r s' hq => ?_)
  cases r with
  | error e => exact False.elim hq
  | ok fl =>
    cases fl with
    | ret w => exact hR _ _ (I.after hq)
    | next => exact False.elim hq
    | brk => exact False.elim hq
    | cont => exact False.elim hq
def rLenO (C : Addr) (sp : Sp) : List V → Hp → VK → Prop := fun xs H Q => ∃ a dx fs, xs = [.ref a] ∧ H a = some (.ins C dx fs) ∧ sp [.ref a] H (fun v H' => ∃ n : Int, v = .int n ∧ 0 ≤ n ∧ n < 2 ^ 63 ∧ Q v H') E0
theorem call_lenO (O : OwnM X.prog X.w X.K X.mg X.base CX0 k C "__len__" ps sp) (hr : Room j X.A) (hkj : k + 1 ≤ j) : CallR X (.builtin "len") (rLenO C sp) := by
  intro pins s σ H xs us Q I r h
  obtain ⟨a, dx, fs, rfl, ha, q⟩ := h
  obtain ⟨u, rfl, ru⟩ := r.one
  cases ru
  obtain ⟨f, fd, F, me, b⟩ := O.ex
  obtain ⟨mA, J, _⟩ := ins_get I.hok ha
  obtain ⟨od, J, _⟩ := J.look
  obtain ⟨m, hF⟩ := I.fr
  refine PySem.W.len_K hF I.ok.mod.kin J me.at_ me.fn ?_
  refine run_ownM O (hr.mono hkj).in1 I I.env0.in1 (us := [Value.ref a]) (vs := [V.ref a]) (.cons rfl .nil) q (fun v s' z => ?_) f me
  obtain ⟨z', H', I', rz, n, ez, h0, h1, qz⟩ := z
  subst ez
  obtain ⟨t, rfl⟩ := rz
  exact ⟨⟨h0, h1⟩, ⟨.int n, H', I'.tok _, ⟨_, rfl⟩, qz⟩⟩
def rInO (C : Addr) (sp : Sp) : R2 := fun x y H Q => ∃ a dx fs, y = .ref a ∧ H a = some (.ins C dx fs) ∧ sp [.ref a, x] H (fun v H' => ∃ b : Bool, v = .bl b ∧ Q v H') E0
theorem op_inO (O : OwnM X.prog X.w X.K X.mg X.base CX0 k C "__contains__" ps sp) (hr : Room j X.A) (hkj : k ≤ j) : OpR X (compareOp .In) (rInO C sp) := by
  intro pins s σ H x y v u Q I rx ry h
  obtain ⟨a, dx, fs, rfl, ha, q⟩ := h
  cases ry
  obtain ⟨f, fd, F, me, b⟩ := O.ex
  obtain ⟨mA, J, _⟩ := ins_get I.hok ha
  obtain ⟨od, J, _⟩ := J.look
  obtain ⟨m, hF⟩ := I.fr
  refine PySem.W.in_K hF I.ok.mod.kin J me.at_ me.fn ?_
  refine run_ownM O (hr.mono hkj) I I.env0 (us := [Value.ref a, v]) (vs := [V.ref a, x]) (.cons rfl (.cons rx .nil)) q (fun v s' z => ?_) f me
  obtain ⟨z', H', I', rz, n, ez, qz⟩ := z
  subst ez
  cases rz
  exact wpAny_pure ⟨.bl n, H', I', rfl, qz⟩
def rNotInO (C : Addr) (sp : Sp) : R2 := fun x y H Q => ∃ a dx fs, y = .ref a ∧ H a = some (.ins C dx fs) ∧ sp [.ref a, x] H (fun v H' => ∃ b : Bool, v = .bl b ∧ Q (.bl (!b)) H') E0
theorem op_notInO (O : OwnM X.prog X.w X.K X.mg X.base CX0 k C "__contains__" ps sp) (hr : Room j X.A) (hkj : k ≤ j) : OpR X (compareOp .NotIn) (rNotInO C sp) := by
  intro pins s σ H x y v u Q I rx ry h
  obtain ⟨a, dx, fs, rfl, ha, q⟩ := h
  cases ry
  obtain ⟨f, fd, F, me, b⟩ := O.ex
  obtain ⟨mA, J, _⟩ := ins_get I.hok ha
  obtain ⟨od, J, _⟩ := J.look
  obtain ⟨m, hF⟩ := I.fr
  refine PySem.W.notIn_K hF I.ok.mod.kin J me.at_ me.fn ?_
  refine run_ownM O (hr.mono hkj) I I.env0 (us := [Value.ref a, v]) (vs := [V.ref a, x]) (.cons rfl (.cons rx .nil)) q (fun v s' z => ?_) f me
  obtain ⟨z', H', I', rz, n, ez, qz⟩ := z
  subst ez
  cases rz
  exact wpAny_pure ⟨.bl (!n), H', I', rfl, qz⟩
/-- x op y by x's own method: y an instance of the same class -/
def rCmpO (C : Addr) (sp : Sp) : R2 := fun x y H Q => ∃ a dx fs b dy gs, x = .ref a ∧ y = .ref b ∧ H a = some (.ins C dx fs) ∧ H b = some (.ins C dy gs) ∧ sp [.ref a, .ref b] H (fun v H' => ∃ b : Bool, v = .bl b ∧ Q v H') E0
theorem op_cmpO {op : CmpOp} (O : OwnM X.prog X.w X.K X.mg X.base CX0 k C (cmpInfo op).2.1 ps sp) (hop : ∀ a b, compareOp op a b = richCompare op a b) (hr : Room j X.A) (hkj : k ≤ j) : OpR X (compareOp op) (rCmpO C sp) := by
  intro pins s σ H x y v u Q I rx ry h
  obtain ⟨a, dx, fs, b, dy, gs, rfl, rfl, ha, hb, q⟩ := h
  cases rx
  cases ry
  obtain ⟨f, fd, F, me, bb⟩ := O.ex
  obtain ⟨mA, J, _⟩ := ins_get I.hok ha
  obtain ⟨mB, J', _⟩ := ins_get I.hok hb
  obtain ⟨od, J, _⟩ := J.look
  obtain ⟨od', J', _⟩ := J'.look
  obtain ⟨m, hF⟩ := I.fr
  rw [hop]
  refine PySem.W.cmp_K (op := op) (tb := .ref C) (hr.mono hkj).units0 hF I.ok.mod.kin J J'.type (by simp [PySem.W.notFirst]) me.at_ me.fn ?_
  refine run_ownM O (hr.mono hkj) I I.env0 (us := [Value.ref a, Value.ref b]) (vs := [V.ref a, V.ref b]) (.cons rfl (.cons rfl .nil)) q (fun v s' z => ?_) f me
  obtain ⟨z', H', I', rz, n, ez, qz⟩ := z
  subst ez
  cases rz
  exact ⟨.bl n, H', I', rfl, qz⟩
end
end Ls
namespace Ls
open PySem PySem.Spec PyProof.Rows L2
/-! ### short steps -/
local macro_rules | `(tactic| walk_at "ls_ne") => `(tactic| first | assumption | exact Ne.symm (by assumption) | exact ne_of_none (by assumption) (by assumption) | exact Ne.symm (ne_of_none (by assumption) (by assumption)))
local macro_rules | `(tactic| walk_at "ls_hp") => `(tactic| first
  | with_reducible assumption
  | exact upd_same
  | exact Eq.trans (upd_ne (by walk_at "ls_ne")) (by walk_at "ls_hp"))
local macro_rules | `(tactic| walk_at "ls_st") => `(tactic| first
  | with_reducible assumption
  | exact Stm.upd (by walk_at "ls_st") (by first | walk_at "ls_ne" | exact (Stm.noneS (by assumption) (by assumption)).1) (by first | walk_at "ls_ne" | exact (Stm.noneS (by assumption) (by assumption)).2))
local macro_rules | `(tactic| walk_at "ls1") => `(tactic| first
  | refine ⟨_, rfl, ?_⟩
  | refine ⟨_, _, rfl, rfl, ?_⟩
  | refine ⟨_, _, _, _, rfl, rfl, .inl (.inl (by walk_at "ls_hp")), rfl, ?_⟩
  | refine ⟨_, _, _, _, rfl, rfl, (by walk_at "ls_hp"), rfl, ?_⟩
  | refine ⟨rfl, _, rfl, ?_⟩
  | refine ⟨.inl ⟨rfl, _, .inl (.inl (by walk_at "ls_hp"))⟩, ?_⟩)
local macro_rules | `(tactic| walk_at "ls") => `(tactic| repeat (walk_at "ls1"))

/-! ### the parts of a shape as values -/
def ksU (B : Shp) : List (V × V) := B.ks.map fun k => (.str k.1, .bl k.2)
def csU (B : Shp) : List Col := B.cs.map fun c => (.str c.1, .str c.2.1, .str c.2.2.1, .str (ruleS c.2.2.2))
def knS (B : Shp) : List Str := B.ks.map (·.1)
theorem knOf_ksU (B : Shp) : knOf (ksU B) = knS B := by unfold knOf ksU knS; rw [List.map_map]; rfl
theorem cnOf_csU (B : Shp) : cnOf (csU B) = B.cs.map (·.1) := by unfold cnOf csU; rw [List.map_map]; rfl
theorem menuU_is (B : Shp) : menuU (knOf (ksU B)) (cnOf (csU B)) = menu B := by
  rw [knOf_ksU, cnOf_csU]
  unfold menuU menu knS
  rw [List.flatMap_map, List.flatMap_map]
theorem ksU_rows (B : Shp) : (ksU B).map (fun k => [k.1, k.2]) = B.ks.map kindV := by unfold ksU; rw [List.map_map]; rfl
theorem csU_rows (B : Shp) : (csU B).map colU = B.cs.map colV := by unfold csU; rw [List.map_map]; rfl
theorem nm_isName {z : Str} (h : Nm z) : isNameB z = true := by
  obtain ⟨⟨h1, h2, h3⟩, h4⟩ := h
  unfold isNameB
  rw [decide_eq_false h4, decide_eq_true h1, decide_eq_true h2]
  refine List.all_eq_true.mpr fun c hc => decide_eq_true ?_
  have h5 := h3 c hc
  show c ∈ ("abcdefghijklmnopqrstuvwxyz" : Str).cps.toList
  rw [abc_cps, List.mem_range']
  exact ⟨c - 97, by omega, by omega⟩
theorem kinds_fine : ∀ {l : List (Str × Bool)} {taken : List Str}, (taken ++ l.map (·.1)).Nodup → (∀ z ∈ l.map (·.1), Nm z) → kindsErr taken (l.map fun k => (V.str k.1, V.bl k.2)) = none
  | [], _, _, _ => rfl
  | k :: r, taken, nd, hn => by
    have e : taken ++ (k :: r).map (·.1) = (taken ++ [k.1]) ++ r.map (·.1) := by simp
    rw [e] at nd
    have hk : k.1 ∉ taken := by
      have := (List.nodup_append.mp (List.nodup_append.mp nd).1).2.2
      exact fun h => this k.1 h k.1 (by simp) rfl
    rw [List.map_cons]
    unfold kindsErr
    have en : nameErr taken (V.str k.1) = none := by
      unfold nameErr
      have h1 : isNameV (V.str k.1) = true := nm_isName (hn k.1 (.head _))
      have h2 : isWordV taken (V.str k.1) = false := decide_eq_false hk
      rw [h1, h2, if_pos rfl, if_neg (by decide)]
    show (match nameErr taken (V.str k.1) with | some b => _ | none => _) = none
    rw [en]
    exact kinds_fine nd fun z hz => hn z (.tail _ hz)
theorem cols_fine {kn : List Str} : ∀ {l : List (Str × Str × Str × Bool)} {taken : List Str}, ((kn ++ taken) ++ l.map (·.1)).Nodup → (∀ z ∈ l.map (·.1), Nm z) → (∀ c ∈ l, c.2.1 ∈ kn ∧ c.2.2.1 ∈ kn) →
    colsErr kn taken (l.map fun c => (V.str c.1, V.str c.2.1, V.str c.2.2.1, V.str (ruleS c.2.2.2))) = none
  | [], _, _, _, _ => rfl
  | k :: r, taken, nd, hn, hm => by
    have e : (kn ++ taken) ++ (k :: r).map (·.1) = (kn ++ (taken ++ [k.1])) ++ r.map (·.1) := by simp
    rw [e] at nd
    have hk : k.1 ∉ kn ++ taken := by
      have h1 := (List.nodup_append.mp nd).1
      rw [← List.append_assoc] at h1
      have := (List.nodup_append.mp h1).2.2
      exact fun h => this k.1 h k.1 (by simp) rfl
    rw [List.map_cons]
    unfold colsErr
    have en : nameErr (kn ++ taken) (V.str k.1) = none := by
      unfold nameErr
      have h1 : isNameV (V.str k.1) = true := nm_isName (hn k.1 (.head _))
      have h2 : isWordV (kn ++ taken) (V.str k.1) = false := decide_eq_false hk
      rw [h1, h2, if_pos rfl, if_neg (by decide)]
    have ec : colErr kn taken (V.str k.1, V.str k.2.1, V.str k.2.2.1, V.str (ruleS k.2.2.2)) = none := by
      unfold colErr
      obtain ⟨h1, h2⟩ := hm k (.head _)
      have w1 : isWordV kn (V.str k.2.1) = true := decide_eq_true h1
      have w2 : isWordV kn (V.str k.2.2.1) = true := decide_eq_true h2
      have w3 : isWordV ruleW (V.str (ruleS k.2.2.2)) = true := by cases k.2.2.2 <;> decide +kernel
      rw [en]
      simp only [w1, w2, w3, if_true]
    rw [ec]
    exact cols_fine nd (fun z hz => hn z (.tail _ hz)) fun c hc => hm c (.tail _ hc)
/-- what is asked of a shape without the sizes -/
structure Shp.Fine (B : Shp) : Prop where
  nd : (B.ks.map (·.1) ++ B.cs.map (·.1)).Nodup
  nm : ∀ z ∈ B.ks.map (·.1) ++ B.cs.map (·.1), Nm z
  home : ∀ c ∈ B.cs, c.2.1 ∈ B.ks.map (·.1)
  goal : ∀ c ∈ B.cs, c.2.2.1 ∈ B.ks.map (·.1)
theorem Shp.Ok.fine {B : Shp} (h : B.Ok) : B.Fine := ⟨h.nd, h.nm, h.home, h.goal⟩
theorem book_fine {B : Shp} (hB : B.Fine) {ck : List Str} (hc : ∀ z ∈ ck, z ∈ menu B) : bookErr (ksU B) (csU B) (ck.map V.str) = none := by
  have nd := hB.nd
  have h1 : kindsErr [] (ksU B) = none := kinds_fine (by rw [List.nil_append]; exact (List.nodup_append.mp nd).1) fun z hz => hB.nm z (List.mem_append_left _ hz)
  have h2 : colsErr (knOf (ksU B)) [] (csU B) = none := by
    rw [knOf_ksU]
    exact cols_fine (by rw [List.append_nil]; exact nd) (fun z hz => hB.nm z (List.mem_append_right _ hz)) fun c hc => ⟨hB.home c hc, hB.goal c hc⟩
  unfold bookErr
  rw [h1]
  simp only
  rw [h2, menuU_is]
  simp only
  have h3 : checksErr (menu B) (ck.map V.str) = none := by
    unfold checksErr
    refine List.find?_eq_none.mpr fun v hv => ?_
    obtain ⟨z, hz, rfl⟩ := List.mem_map.mp hv
    have : isWordV (menu B) (V.str z) = true := decide_eq_true (hc z hz)
    rw [this]
    decide
  rw [h3]
/-- a book of a shape -/
def BookS (C : Addr) (H : Hp) (o : Addr) (B : Shp) (ck : List Str) : Prop := BookU C H o (ksU B) (csU B) ck
theorem BookS.same {C : Addr} {H H' : Hp} {o : Addr} {B : Shp} {ck : List Str} (h : BookS C H o B ck) (s : Same H H') : BookS C H' o B ck := BookU.same h s
theorem BookS.ins {C : Addr} {H : Hp} {o : Addr} {B : Shp} {ck : List Str} (h : BookS C H o B ck) : ∃ dx k c m x, H o = some (.ins C dx (bookF k c m x)) := by
  obtain ⟨dx, k, c, m, x, kx, cx, h1, _⟩ := h
  exact ⟨dx, k, c, m, x, h1⟩
end Ls
namespace Ls
open PySem PySem.Spec PyProof.Rows L2
/-! ### short steps -/
local macro_rules | `(tactic| walk_at "ls_ne") => `(tactic| first | assumption | exact Ne.symm (by assumption) | exact ne_of_none (by assumption) (by assumption) | exact Ne.symm (ne_of_none (by assumption) (by assumption)))
local macro_rules | `(tactic| walk_at "ls_hp") => `(tactic| first
  | with_reducible assumption
  | exact upd_same
  | exact Eq.trans (upd_ne (by walk_at "ls_ne")) (by walk_at "ls_hp"))
local macro_rules | `(tactic| walk_at "ls_st") => `(tactic| first
  | with_reducible assumption
  | exact Stm.upd (by walk_at "ls_st") (by first | walk_at "ls_ne" | exact (Stm.noneS (by assumption) (by assumption)).1) (by first | walk_at "ls_ne" | exact (Stm.noneS (by assumption) (by assumption)).2))
local macro_rules | `(tactic| walk_at "ls1") => `(tactic| first
  | refine ⟨_, rfl, ?_⟩
  | refine ⟨_, _, rfl, rfl, ?_⟩
  | refine ⟨_, _, _, _, rfl, rfl, .inl (.inl (by walk_at "ls_hp")), rfl, ?_⟩
  | refine ⟨_, _, _, _, rfl, rfl, (by walk_at "ls_hp"), rfl, ?_⟩
  | refine ⟨rfl, _, rfl, ?_⟩
  | refine ⟨.inl ⟨rfl, _, .inl (.inl (by walk_at "ls_hp"))⟩, ?_⟩)
local macro_rules | `(tactic| walk_at "ls") => `(tactic| repeat (walk_at "ls1"))

section
variable {P : Program} {w : World} {K : PySem.W.Frag} {mg : Str → Option Value} {base : Heap}
/-! ### menu, checks, len, in -/
abbrev s_Book_menu : Stmt := inClass (topS 24) 3
theorem sc_Book_menu : FnScope ["self"] ["self"] (defScope s_Book_menu) := ⟨rfl, rfl, rfl, by decide +kernel, rfl, by decide +kernel, by decide +kernel⟩
abbrev N_Book_menu : List Str := ["self"]
def spMenuB (C : Addr) : Sp := fun vs H Q _ => ∃ (o : Addr) (B : Shp) (ck : List Str), vs = [.ref o] ∧ BookS C H o B ck ∧ ∀ l, H l = none → Q (.ref l) (upd H l (.lst ((menu B).map V.str)))
theorem ok_menuB {C : Addr} {f : Addr} {fd : FuncData} (F : Fun K "menu" "Book.menu" s_Book_menu f fd) (T : Bt mg) (TB : BkT K C) : FnOk P w K mg base CX0 1 f fd ["self"] (spMenuB C) := by
  refine F.ok sc_Book_menu (fun vs H Q E h => ?_) (fun cdv A outer s H vs Q E hr h => ?_)
  · obtain ⟨o, B, ck, rfl, _⟩ := h
    rfl
  · obtain ⟨o, B, ck, rfl, ⟨dx, k, c, m, x, kx, cx, h1, h2, h3, h4, h5, h6, h7⟩, q⟩ := h
    have hu := hu_of hr
    refine ⟨_, (pss_one (ps_ret (pe_callTy (list_of K) (by rfl) T.m_list (by decide +kernel) (pa_cons (pe_fld (pv 0) rfl) pa_nil)))), ?_⟩
    walk_at "ls"
    refine ⟨o, C, dx, _, _, rfl, h1, TB.cl, TB.nm, bookF_m, ?_⟩
    rw [menuU_is] at h6
    exact ⟨m, _, rfl, .inr (.inl (.inl h6)), fun l hl => q l hl⟩
abbrev s_Book_checks : Stmt := inClass (topS 24) 4
theorem sc_Book_checks : FnScope ["self"] ["self"] (defScope s_Book_checks) := ⟨rfl, rfl, rfl, by decide +kernel, rfl, by decide +kernel, by decide +kernel⟩
abbrev N_Book_checks : List Str := ["self"]
def spChecksB (C : Addr) : Sp := fun vs H Q _ => ∃ (o : Addr) (B : Shp) (ck : List Str), vs = [.ref o] ∧ BookS C H o B ck ∧ ∀ l, H l = none → Q (.ref l) (upd H l (.lst (ck.map V.str)))
theorem ok_checksB {C : Addr} {f : Addr} {fd : FuncData} (F : Fun K "checks" "Book.checks" s_Book_checks f fd) (T : Bt mg) (TB : BkT K C) : FnOk P w K mg base CX0 1 f fd ["self"] (spChecksB C) := by
  refine F.ok sc_Book_checks (fun vs H Q E h => ?_) (fun cdv A outer s H vs Q E hr h => ?_)
  · obtain ⟨o, B, ck, rfl, _⟩ := h
    rfl
  · obtain ⟨o, B, ck, rfl, ⟨dx, k, c, m, x, kx, cx, h1, h2, h3, h4, h5, h6, h7⟩, q⟩ := h
    have hu := hu_of hr
    refine ⟨_, (pss_one (ps_ret (pe_callTy (list_of K) (by rfl) T.m_list (by decide +kernel) (pa_cons (pe_fld (pv 0) rfl) pa_nil)))), ?_⟩
    walk_at "ls"
    refine ⟨o, C, dx, _, _, rfl, h1, TB.cl, TB.nx, bookF_x, ?_⟩
    exact ⟨x, _, rfl, .inr (.inl (.inl h7)), fun l hl => q l hl⟩
abbrev s_Book_len : Stmt := inClass (topS 24) 8
theorem sc_Book_len : FnScope ["self"] ["self"] (defScope s_Book_len) := ⟨rfl, rfl, rfl, by decide +kernel, rfl, by decide +kernel, by decide +kernel⟩
abbrev N_Book_len : List Str := ["self"]
def spLenB (C : Addr) : Sp := fun vs H Q _ => ∃ (o : Addr) (B : Shp) (ck : List Str), vs = [.ref o] ∧ BookS C H o B ck ∧ Q (.int ck.length) H
theorem ok_lenB {C : Addr} {f : Addr} {fd : FuncData} (F : Fun K "__len__" "Book.__len__" s_Book_len f fd) (T : Bt mg) (TB : BkT K C) : FnOk P w K mg base CX0 1 f fd ["self"] (spLenB C) := by
  refine F.ok sc_Book_len (fun vs H Q E h => ?_) (fun cdv A outer s H vs Q E hr h => ?_)
  · obtain ⟨o, B, ck, rfl, _⟩ := h
    rfl
  · obtain ⟨o, B, ck, rfl, ⟨dx, k, c, m, x, kx, cx, h1, h2, h3, h4, h5, h6, h7⟩, q⟩ := h
    have hu := hu_of hr
    refine ⟨_, (pss_one (ps_ret (pe_callB (len_seq K) (by rfl) T.m_len (by decide +kernel) (pa_cons (pe_fld (pv 0) rfl) pa_nil)))), ?_⟩
    walk_at "ls"
    refine ⟨o, C, dx, _, _, rfl, h1, TB.cl, TB.nx, bookF_x, ?_⟩
    refine ⟨x, _, rfl, .inr (.inl (.inl h7)), ?_⟩
    rw [List.length_map]
    exact q
abbrev s_Book_contains : Stmt := inClass (topS 24) 9
theorem sc_Book_contains : FnScope ["self", "check"] ["self", "check"] (defScope s_Book_contains) := ⟨rfl, rfl, rfl, by decide +kernel, rfl, by decide +kernel, by decide +kernel⟩
abbrev N_Book_contains : List Str := ["self", "check"]
def spHasB (K : PySem.W.Frag) (C : Addr) : Sp := fun vs H Q _ => ∃ (o : Addr) (v : V) (B : Shp) (ck : List Str), vs = [.ref o, v] ∧ BookS C H o B ck ∧ Thg K H v ∧ Q (.bl (isWordV ck v)) H
theorem ok_hasB {C : Addr} {f : Addr} {fd : FuncData} (F : Fun K "__contains__" "Book.__contains__" s_Book_contains f fd) (T : Bt mg) (TB : BkT K C) (O_is_word_of : Own P w K mg base CX0 1 "is_word_of" ["thing", "words"] (spWord K)) : FnOk P w K mg base CX0 2 f fd ["self", "check"] (spHasB K C) := by
  refine F.ok sc_Book_contains (fun vs H Q E h => ?_) (fun cdv A outer s H vs Q E hr h => ?_)
  · obtain ⟨o, v, B, ck, rfl, _⟩ := h
    rfl
  · obtain ⟨o, v, B, ck, rfl, ⟨dx, k, c, m, x, kx, cx, h1, h2, h3, h4, h5, h6, h7⟩, hv, q⟩ := h
    have hu := hu_of hr
    refine ⟨_, (pss_one (ps_ret (own_call O_is_word_of hr (by first | decide | omega) (pa_cons (pv 1) (pa_cons (pe_fld (pv 0) rfl) pa_nil))))), ?_⟩
    walk_at "ls"
    refine ⟨o, C, dx, _, _, rfl, h1, TB.cl, TB.nx, bookF_x, ?_⟩
    exact ⟨v, x, ck, rfl, hv, .inr (.inl (.inl h7)), q⟩
end
end Ls
namespace Ls
open PySem PySem.Spec PyProof.Rows L2
/-! ### comprehensions over rows of things -/
section
variable {J : It} {n : Nat} {G : Hp → Prop} {Y : Nat → Hp → V → Hp → Prop} {α : Type}
def madeR (l : List α) (f : α → Option V) (i : Nat) : List V := (l.take i).filterMap f
theorem madeR_yes {l : List α} {f : α → Option V} {i : Nat} {a : α} {y : V} (ha : l[i]? = some a) (hf : f a = some y) : madeR l f (i + 1) = madeR l f i ++ [y] := by
  unfold madeR
  rw [List.take_add_one, ha, List.filterMap_append]
  simp [hf]
theorem madeR_no {l : List α} {f : α → Option V} {i : Nat} {a : α} (ha : l[i]? = some a) (hf : f a = none) : madeR l f (i + 1) = madeR l f i := by
  unfold madeR
  rw [List.take_add_one, ha, List.filterMap_append]
  simp [hf]
theorem madeR_len (l : List α) (f : α → Option V) (i : Nat) : (madeR l f i).length ≤ i := by
  unfold madeR
  exact Nat.le_trans (List.length_filterMap_le _ _) (by rw [List.length_take]; exact Nat.min_le_left _ _)
/-- a comprehension whose turns leave the heap as it is; each item stands for a thing of l, f tells what it gives -/
theorem lc_rows (w : Walk J n G Y) (xs : List V) (l : List α) (f : α → Option V) (hn : l.length = n) (hY : ∀ i H x H', i < n → Y i H x H' → H' = H ∧ xs[i]? = some x) {g : TG} {tt : TT} {te : TE} {vs : List Nat} {σ : L2.St} {H1 : Hp} {D : Addr} {Qd : Hp → Prop}
    (hz : n < sizeLine) (hG : ∀ acc, G (upd H1 D (.lst acc)))
    (hs : ∀ i x a, i < n → xs[i]? = some x → l[i]? = some a → g x (wipe σ vs) (upd H1 D (.lst (madeR l f i))) fun σ2 H2 => wipe σ2 vs = wipe σ vs ∧ tt σ2 H2 fun b H3 =>
      if b = true then te σ2 H3 fun y H4 => ∃ acc, H4 D = some (.lst acc) ∧ acc.length < sizeLine ∧ upd H4 D (.lst (acc ++ [y])) = upd H1 D (.lst (madeR l f (i + 1))) else H3 = upd H1 D (.lst (madeR l f (i + 1))))
    (hd : Qd (upd H1 D (.lst (l.filterMap f)))) :
    ∃ W : Nat → Nat → Hp → Prop, (∃ m, W 0 m (upd H1 D (.lst []))) ∧ ∀ i m H, W i m H →
      (J.stop i H ∧ Qd H) ∨ (J.go i H ∧ ∃ Nx : Hp → Prop, (∀ H', Nx H' → ∃ m', m' < m ∧ W (i + 1) m' H') ∧ ∀ x H', J.yld i H x H' → g x (wipe σ vs) H' fun σ2 H2 => wipe σ2 vs = wipe σ vs ∧ tt σ2 H2 fun b H3 =>
        if b = true then te σ2 H3 fun y H4 => ∃ acc, H4 D = some (.lst acc) ∧ acc.length < sizeLine ∧ Nx (upd H4 D (.lst (acc ++ [y]))) else Nx H3) := by
  refine lc_it w (fun i H => H = upd H1 D (.lst (madeR l f i))) rfl (fun i H _ e => by rw [e]; exact hG _) (fun i x H H' hi e y => ?_) (fun H e => ?_)
  · obtain ⟨e2, hx⟩ := hY i H x H' hi y
    have hi2 : i < l.length := by omega
    rw [e2, e]
    exact hs i x l[i] hi hx (List.getElem?_eq_getElem hi2)
  · have : madeR l f n = l.filterMap f := by unfold madeR; rw [← hn, List.take_length]
    rw [e, this]
    exact hd
theorem lr_yes {l : List α} {f : α → Option V} {i : Nat} {a : α} {y : V} {H1 : Hp} {D : Addr} {n : Nat} (ha : l[i]? = some a) (hi : i < n) (hz : n < sizeLine) (hf : f a = some y) :
    ∃ acc, (upd H1 D (.lst (madeR l f i))) D = some (.lst acc) ∧ acc.length < sizeLine ∧ upd (upd H1 D (.lst (madeR l f i))) D (.lst (acc ++ [y])) = upd H1 D (.lst (madeR l f (i + 1))) :=
  ⟨_, upd_same, Nat.lt_of_le_of_lt (madeR_len _ _ _) (Nat.lt_trans hi hz), by rw [upd_upd, madeR_yes ha hf]⟩
theorem lr_no {l : List α} {f : α → Option V} {i : Nat} {a : α} {H1 : Hp} {D : Addr} (ha : l[i]? = some a) (hf : f a = none) : upd H1 D (.lst (madeR l f i)) = upd H1 D (.lst (madeR l f (i + 1))) := by rw [madeR_no ha hf]
end
/-- a choice whose value is known -/
theorem tIf_to {t : TT} {ta tb : TE} {σ : L2.St} {H : Hp} {Q : VK} (v : V) (h : ∀ Q' : VK, Q' v H → tIf t ta tb σ H Q') (hq : Q v H) : tIf t ta tb σ H Q := h Q hq
theorem set_go {i : Nat} {x : V} {σ : L2.St} {H : Hp} {Q : L2.St → Hp → Prop} (h : Q (σ.set i (some x)) H) : gName i x σ H Q := h
theorem seq_go {a b : TS} {D : Ends} {σ : L2.St} {H : Hp} (h : a { D with nx := b D } σ H) : tSeq a b D σ H := h
end Ls
namespace Ls
open PySem PySem.Spec PyProof.Rows L2
/-! ### short steps -/
local macro_rules | `(tactic| walk_at "ls_ne") => `(tactic| first | assumption | exact Ne.symm (by assumption) | exact ne_of_none (by assumption) (by assumption) | exact Ne.symm (ne_of_none (by assumption) (by assumption)))
local macro_rules | `(tactic| walk_at "ls_hp") => `(tactic| first
  | with_reducible assumption
  | exact upd_same
  | exact Eq.trans (upd_ne (by walk_at "ls_ne")) (by walk_at "ls_hp"))
local macro_rules | `(tactic| walk_at "ls_st") => `(tactic| first
  | with_reducible assumption
  | exact Stm.upd (by walk_at "ls_st") (by first | walk_at "ls_ne" | exact (Stm.noneS (by assumption) (by assumption)).1) (by first | walk_at "ls_ne" | exact (Stm.noneS (by assumption) (by assumption)).2))
local macro_rules | `(tactic| walk_at "ls1") => `(tactic| first
  | refine ⟨_, rfl, ?_⟩
  | refine ⟨_, _, rfl, rfl, ?_⟩
  | refine ⟨_, _, _, _, rfl, rfl, .inl (.inl (by walk_at "ls_hp")), rfl, ?_⟩
  | refine ⟨_, _, _, _, rfl, rfl, (by walk_at "ls_hp"), rfl, ?_⟩
  | refine ⟨rfl, _, rfl, ?_⟩
  | refine ⟨.inl ⟨rfl, _, .inl (.inl (by walk_at "ls_hp"))⟩, ?_⟩)
local macro_rules | `(tactic| walk_at "ls") => `(tactic| repeat (walk_at "ls1"))

theorem filterMap_some {α β : Type} (g : α → β) : ∀ l : List α, l.filterMap (fun a => some (g a)) = l.map g
  | [] => rfl
  | a :: l => by rw [List.filterMap_cons, List.map_cons, filterMap_some g l]
/-- the names of the columns whose home is this -/
def colsOf (B : Shp) (v : V) : List Str := (B.cs.filter fun c => decide (V.str c.2.1 = v)).map (·.1)
theorem colsOf_is (B : Shp) (v : V) : B.cs.filterMap (fun c => if V.str c.2.1 = v then some (V.str c.1) else none) = (colsOf B v).map V.str := by
  unfold colsOf
  generalize B.cs = l
  induction l with
  | nil => rfl
  | cons c r ih =>
    rw [List.filterMap_cons, List.filter_cons]
    by_cases h : V.str c.2.1 = v
    · rw [if_pos h, decide_eq_true h, if_pos rfl, ih]
      rfl
    · rw [if_neg h, decide_eq_false h, if_neg (by decide), ih]
/-- the questions of a shape -/
def qW (b : Bool) : List Str := ["loose", "half", if b then "unjust" else "spoilt"]
def questB (B : Shp) : List Str := ((B.cs.flatMap fun c => withN (qW c.2.2.2) c.1) ++ B.ks.map fun k => ("undue " : Str) ++ k.1) ++ (["stuck"] : List Str)
theorem qW_len (b : Bool) : ∀ a ∈ qW b, a.length ≤ 6 := by cases b <;> decide +kernel
section
variable {P : Program} {w : World} {K : PySem.W.Frag} {mg : Str → Option Value} {base : Heap}
/-! ### questions -/
abbrev s_Book_questions : Stmt := inClass (topS 24) 7
theorem sc_Book_questions : FnScope ["self", "found", "name", "home", "goal", "rule", "wrong", "is_open", "word"] ["self"] (defScope s_Book_questions) := ⟨rfl, rfl, rfl, by decide +kernel, rfl, by decide +kernel, by decide +kernel⟩
abbrev N_Book_questions : List Str := ["self", "found", "name", "home", "goal", "rule", "wrong", "is_open", "word"]
def spQuest (C : Addr) : Sp := fun vs H Q _ => ∃ (o : Addr) (B : Shp) (ck : List Str), vs = [.ref o] ∧ BookS C H o B ck ∧ B.Ok ∧ ∀ (H' : Hp) (p : Addr), H p = none → H' p = some (.lst ((questB B).map V.str)) → Same H H' → Q (.ref p) H'
theorem questB_len (B : Shp) : (questB B).length = 3 * B.cs.length + B.ks.length + 1 := by
  unfold questB
  rw [List.length_append, List.length_append, flat_len _ 3 (fun c => by rw [withN, List.length_map]; rfl), List.length_map]
  rfl
theorem ok_quest {C : Addr} {f : Addr} {fd : FuncData} (F : Fun K "questions" "Book.questions" s_Book_questions f fd) (T : Bt mg) (TB : BkT K C) : FnOk P w K mg base CX0 1 f fd ["self"] (spQuest C) := by
  refine F.ok sc_Book_questions (fun vs H Q E h => ?_) (fun cdv A outer s H vs Q E hr h => ?_)
  · obtain ⟨o, B, ck, rfl, _⟩ := h
    rfl
  · obtain ⟨o, B, ck, rfl, ⟨dx, k, c, m, x, kx, cx, h1, h2, h3, h4, h5, h6, h7⟩, hB, q⟩ := h
    have hu := hu_of hr
    refine ⟨_, (pss_cons (ps_set (i := 1) sc_Book_questions.nd rfl (Or.inl rfl) (pe_lst pa_nil))
      (pss_cons (ps_for PassesOwn.never rfl (pi_tup (pe_fld (pv 0) rfl)) (pg_tup rfl (pgs_cons (pg_name (i := 2) sc_Book_questions.nd rfl (Or.inr rfl)) (pgs_cons (pg_name (i := 3) sc_Book_questions.nd rfl (Or.inl rfl)) (pgs_cons (pg_name (i := 4) sc_Book_questions.nd rfl (Or.inl rfl)) (pgs_cons (pg_name (i := 5) sc_Book_questions.nd rfl (Or.inl rfl)) pgs_nil))))) (pss_cons (ps_set (i := 6) sc_Book_questions.nd rfl (Or.inl rfl) (pe_ifExp (pt_cmpR op_eq (pv 5) pe_str (nomark _)) pe_str pe_str))
      (pss_one (ps_expr (pe_bm PySem.F.plainAttrs_list PySem.F.slot_list_extend PySem.F.type_list_extend mt_extend (pv 1) (pa_cons (pe_lc (own := [("word", 8)]) (g := gName 8) (by rfl) sc_Book_questions.nd (pi_tup (pe_tup (pa_cons pe_str (pa_cons pe_str (pa_cons (pv 6) pa_nil))))) (blkOk_by (own := [("word", 8)]) (N := N_Book_questions) (sc := defScope s_Book_questions) (by decide +kernel)) (fun _ _ _ _ _ => (pg_name (i := 8) sc_Book_questions.nd rfl (Or.inl rfl) (Or.inr rfl))) (fun _ _ _ _ _ => pts_nil) (fun _ _ _ _ _ => (pe_op op_add_str (pe_op op_add_str (pv 8) pe_str) (pv 2)))) pa_nil))))))
      (pss_cons (ps_expr (pe_bm PySem.F.plainAttrs_list PySem.F.slot_list_extend PySem.F.type_list_extend mt_extend (pv 1) (pa_cons (pe_lc (own := [("name", 2), ("is_open", 7)]) (g := gTup K 2 (gCons (gName 2) (gCons (gName 7) gNil))) (by rfl) sc_Book_questions.nd (pi_tup (pe_fld (pv 0) rfl)) (blkOk_by (own := [("name", 2), ("is_open", 7)]) (N := N_Book_questions) (sc := defScope s_Book_questions) (by decide +kernel)) (fun _ _ _ _ _ => (pg_tup rfl (pgs_cons (pg_name (i := 2) sc_Book_questions.nd rfl (Or.inl rfl) (Or.inr rfl)) (pgs_cons (pg_name (i := 7) sc_Book_questions.nd rfl (Or.inl rfl) (Or.inr rfl)) pgs_nil)))) (fun _ _ _ _ _ => pts_nil) (fun _ _ _ _ _ => (pe_op op_add_str pe_str (pv 2)))) pa_nil)))
      (pss_cons (ps_expr (pe_bm PySem.F.plainAttrs_list PySem.F.slot_list_append PySem.F.type_list_append mt_append (pv 1) (pa_cons pe_str pa_nil)))
      (pss_one (ps_ret (pv 1))))))), ?_⟩
    rw [ksU_rows] at h3
    rw [csU_rows] at h5
    have lk : B.ks.length = kx.length := by rw [h3.len, List.length_map]
    have lc : B.cs.length = cx.length := by rw [h5.len, List.length_map]
    have bk3 := hB.nk3
    have bc8 := hB.nc
    refine ⟨Nat.zero_le _, fun p hp => ?_⟩
    have s0 : Same H (upd H p (.lst [])) := same_new hp
    walk_at "ls"
    refine ⟨o, C, dx, _, _, rfl, s0 _ _ h1, TB.cl, TB.nc, bookF_c, c, rfl, ⟨_, .inl (.inl (s0 _ _ h4))⟩, ?_⟩
    refine for_it (walk_tup (xs := cx)) (fun i σ H1 => ∃ v2 v3 v4 v5 v6 : Option V, σ = [some (.ref o), some (.ref p), v2, v3, v4, v5, v6, none, none] ∧ H1 p = some (.lst (((B.cs.take i).flatMap fun c => withN (qW c.2.2.2) c.1).map V.str)) ∧ Same H H1)
      ⟨none, none, none, none, none, rfl, upd_same, s0⟩ (fun i σ H1 _ ⟨_, _, _, _, _, _, _, s1⟩ => .inl (.inl (s1 _ _ h4))) ?_ ?_
    · rintro i y σ Hz H1 hi ⟨v2, v3, v4, v5, v6, rfl, hp1, s1⟩ ⟨rfl, hy⟩
      obtain ⟨ys, hys, t, rfl, ht⟩ := TupsAt.get (h5.keep (.same s1)) hy
      obtain ⟨cl, hcl, rfl⟩ := map_get hys
      have hnm : cl.1.length ≤ 8 := (hB.nm _ (List.mem_append_right _ (List.mem_map_of_mem (List.mem_of_getElem? hcl)))).1.2.1
      refine ⟨t, _, rfl, .inl (.inl ht), rfl, _, _, rfl, _, _, rfl, _, _, rfl, _, _, rfl, rfl, ?_⟩
      refine tIf_to (.str (if cl.2.2.2 then "unjust" else "spoilt")) (fun Q' q' => ?_) ?_
      · refine ⟨_, rfl, ?_⟩
        cases hb : cl.2.2.2 with
        | true =>
          rw [hb] at q'
          refine ⟨rfl, _, rfl, ?_⟩
          refine ite2 (fun e => ?_) (fun e => absurd (by decide +kernel) e)
          exact q'
        | false =>
          rw [hb] at q'
          refine ⟨rfl, _, rfl, ?_⟩
          refine ite2 (fun e => absurd e (by decide +kernel)) (fun e => ?_)
          exact q'
      walk_at "ls"
      refine ⟨(by show 3 ≤ sizeLine; decide), fun w1 hw1 => ?_⟩
      refine ⟨w1, rfl, ⟨_, .inl (.inl upd_same)⟩, fun D hD => ?_⟩
      have nwD : w1 ≠ D := ne_of_none upd_same hD
      have npw : p ≠ w1 := ne_of_none hp1 hw1
      have npD : p ≠ D := ne_of_none (by rw [upd_ne npw]; exact hp1) hD
      refine lc_pure (walk_tup (xs := (qW cl.2.2.2).map V.str)) ((qW cl.2.2.2).map V.str) (addN cl.1) rfl (fun i H x H' hi hy => hy) (by show 3 < sizeLine; decide) (fun acc => .inl (.inl (by rw [upd_ne nwD]; exact upd_same))) (fun k y hk hy => ?_) ?_
      · obtain ⟨a, ha, rfl⟩ := map_get hy
        have hal : a.length ≤ 6 := qW_len _ a (List.mem_of_getElem? ha)
        refine ⟨rfl, ?_⟩
        walk_at "ls"
        refine ⟨room_str (m := 1) hal (by decide +kernel) (by decide), ?_⟩
        walk_at "ls"
        refine ⟨room_str (n := 7) (m := 8) (by rw [cat_len]; have : (" " : Str).length = 1 := by decide +kernel
                                               omega) hnm (by decide), ?_⟩
        exact lc_yes hy hk (by show 3 < sizeLine; decide) rfl
      rw [addN_all]
      refine ⟨_, _, _, _, rfl, rfl, (by rw [upd_ne npD, upd_ne npw]; exact hp1), upd_same, ?_, ?_⟩
      · rw [List.length_map, List.length_map, flat_len _ 3 (fun c => by rw [withN, List.length_map]; rfl), withN, List.length_map, List.length_take]
        show 3 * _ + 3 ≤ sizeLine
        exact Nat.le_trans (by omega) (show 1000 ≤ sizeLine by decide)
      · refine ⟨_, _, _, _, _, rfl, ?_, ?_⟩
        · rw [upd_same, flat_snoc hcl, List.map_append]
        · exact Same.set (s1.trans ((same_new hw1).trans (same_new hD))) hp
    · rintro σ H1 ⟨v2, v3, v4, v5, v6, rfl, hp1, s1⟩
      rw [← lc, List.take_length] at hp1
      walk_at "ls"
      refine ⟨o, C, dx, _, _, rfl, s1 _ _ h1, TB.cl, TB.nk, bookF_k, k, rfl, ⟨_, .inl (.inl (s1 _ _ h2))⟩, fun D hD => ?_⟩
      have nkD : k ≠ D := ne_of_none (s1 _ _ h2) hD
      have npD : p ≠ D := ne_of_none hp1 hD
      refine lc_rows (walk_tup (xs := kx)) kx B.ks (fun k => some (V.str ("undue " ++ k.1))) lk (fun i H x H' hi hy => hy) (Nat.lt_of_le_of_lt (show kx.length ≤ 1000 by omega) (by decide)) (fun acc => .inl (.inl (by rw [upd_ne nkD]; exact s1 _ _ h2))) (fun j y kd hj hyj hkd => ?_) ?_
      · obtain ⟨ys, hys, t, rfl, ht⟩ := TupsAt.get (h3.keep (.same s1)) hyj
        rw [List.getElem?_map, hkd] at hys
        cases hys
        have hnm : kd.1.length ≤ 8 := (hB.nm _ (List.mem_append_left _ (List.mem_map_of_mem (List.mem_of_getElem? hkd)))).1.2.1
        have n2 : t ≠ D := ne_of_none ht hD
        refine ⟨t, _, rfl, .inl (.inl (by rw [upd_ne n2]; exact ht)), rfl, _, _, rfl, _, _, rfl, rfl, rfl, ?_⟩
        walk_at "ls"
        refine ⟨room_str (n := 6) (m := 8) (by decide +kernel) hnm (by decide), ?_⟩
        exact lr_yes hkd hj (Nat.lt_of_le_of_lt (show kx.length ≤ 1000 by omega) (by decide)) rfl
      rw [filterMap_some, show (B.ks.map fun k => V.str ("undue " ++ k.1)) = (B.ks.map fun k => ("undue " : Str) ++ k.1).map V.str by rw [List.map_map]; rfl]
      refine ⟨_, _, _, _, rfl, rfl, (by rw [upd_ne npD]; exact hp1), upd_same, ?_, ?_⟩
      · rw [List.length_map, List.length_map, List.length_map, flat_len _ 3 (fun c => by rw [withN, List.length_map]; rfl)]
        exact Nat.le_trans (by omega) (show 1000 ≤ sizeLine by decide)
      · rw [← List.map_append]
        walk_at "ls"
        refine ⟨_, _, _, rfl, rfl, upd_same, ?_, ?_⟩
        · rw [List.length_map, List.length_append, List.length_map, flat_len _ 3 (fun c => by rw [withN, List.length_map]; rfl)]
          exact Nat.lt_of_le_of_lt (by omega) (show 1000 < sizeLine by decide)
        · rw [upd_upd]
          walk_at "ls"
          refine q _ p hp ?_ (Same.set (s1.trans (same_new hD)) hp)
          rw [upd_same]
          unfold questB
          rw [List.map_append (l₂ := (["stuck"] : List Str))]
          rfl
end
end Ls
namespace Ls
open PySem PySem.Spec PyProof.Rows L2
/-! ### short steps -/
local macro_rules | `(tactic| walk_at "ls_ne") => `(tactic| first | assumption | exact Ne.symm (by assumption) | exact ne_of_none (by assumption) (by assumption) | exact Ne.symm (ne_of_none (by assumption) (by assumption)))
local macro_rules | `(tactic| walk_at "ls_hp") => `(tactic| first
  | with_reducible assumption
  | exact upd_same
  | exact Eq.trans (upd_ne (by walk_at "ls_ne")) (by walk_at "ls_hp"))
local macro_rules | `(tactic| walk_at "ls_st") => `(tactic| first
  | with_reducible assumption
  | exact Stm.upd (by walk_at "ls_st") (by first | walk_at "ls_ne" | exact (Stm.noneS (by assumption) (by assumption)).1) (by first | walk_at "ls_ne" | exact (Stm.noneS (by assumption) (by assumption)).2))
local macro_rules | `(tactic| walk_at "ls1") => `(tactic| first
  | refine ⟨_, rfl, ?_⟩
  | refine ⟨_, _, rfl, rfl, ?_⟩
  | refine ⟨_, _, _, _, rfl, rfl, .inl (.inl (by walk_at "ls_hp")), rfl, ?_⟩
  | refine ⟨_, _, _, _, rfl, rfl, (by walk_at "ls_hp"), rfl, ?_⟩
  | refine ⟨rfl, _, rfl, ?_⟩
  | refine ⟨.inl ⟨rfl, _, .inl (.inl (by walk_at "ls_hp"))⟩, ?_⟩)
local macro_rules | `(tactic| walk_at "ls") => `(tactic| repeat (walk_at "ls1"))

/-! ### what can be marked: the mathematics -/
def openB (B : Shp) (z : Str) : Bool := B.ks.any fun k => decide (k.1 = z) && k.2
def stepF (F : Str → Bool) (c : Str × Str × Str × Bool) : Str → Bool := fun z => F z || (c.2.2.2 && F c.2.2.1 && decide (z = c.2.1))
def roundF (B : Shp) (F : Str → Bool) : Str → Bool := B.cs.foldl stepF F
def markF (B : Shp) : Nat → Str → Bool
  | 0 => openB B
  | n + 1 => roundF B (markF B n)
def comesB (B : Shp) : Nat → Str → Bool
  | 0, z => openB B z
  | n + 1, z => openB B z || B.cs.any fun c => (decide (c.2.1 = z) && c.2.2.2) && comesB B n c.2.2.1
theorem comes_mono (B : Shp) : ∀ (n : Nat) (z : Str), comesB B n z = true → comesB B (n + 1) z = true
  | 0, z, h => by
    show (openB B z || _) = true
    rw [show openB B z = true from h]
    rfl
  | n + 1, z, h => by
    have h' : (openB B z || B.cs.any fun c => (decide (c.2.1 = z) && c.2.2.2) && comesB B n c.2.2.1) = true := h
    show (openB B z || B.cs.any fun c => (decide (c.2.1 = z) && c.2.2.2) && comesB B (n + 1) c.2.2.1) = true
    rw [Bool.or_eq_true] at h' ⊢
    refine h'.imp id fun h2 => ?_
    rw [List.any_eq_true] at h2 ⊢
    obtain ⟨c, hc, h3⟩ := h2
    rw [Bool.and_eq_true] at h3
    exact ⟨c, hc, by rw [Bool.and_eq_true]; exact ⟨h3.1, comes_mono B n _ h3.2⟩⟩
theorem comes_le (B : Shp) {n m : Nat} (h : n ≤ m) {z : Str} (e : comesB B n z = true) : comesB B m z = true := by
  induction h with
  | refl => exact e
  | step _ ih => exact comes_mono B _ _ ih
theorem comes_open (B : Shp) {z : Str} (h : openB B z = true) (n : Nat) : comesB B n z = true := comes_le B (Nat.zero_le n) h
/-- equal at the kinds at one step: equal ever after -/
theorem comes_next {B : Shp} (hB : B.Ok) {n m : Nat} (h : ∀ z ∈ B.ks.map (·.1), comesB B n z = comesB B m z) (z : Str) : comesB B (n + 1) z = comesB B (m + 1) z := by
  show (openB B z || B.cs.any fun c => (decide (c.2.1 = z) && c.2.2.2) && comesB B n c.2.2.1) = (openB B z || B.cs.any fun c => (decide (c.2.1 = z) && c.2.2.2) && comesB B m c.2.2.1)
  congr 1
  rw [Bool.eq_iff_iff, List.any_eq_true, List.any_eq_true]
  constructor
  · rintro ⟨c, hc, e⟩
    exact ⟨c, hc, by rw [← h _ (hB.goal c hc)]; exact e⟩
  · rintro ⟨c, hc, e⟩
    exact ⟨c, hc, by rw [h _ (hB.goal c hc)]; exact e⟩
def cnt (B : Shp) (n : Nat) : Nat := (B.ks.filter fun k => comesB B n k.1).length
theorem cnt_le (B : Shp) (n : Nat) : cnt B n ≤ B.ks.length := List.length_filter_le _ _
theorem filt_eq {α : Type} {p q : α → Bool} (h : ∀ x, p x = true → q x = true) : ∀ l : List α, (l.filter p).length = (l.filter q).length → ∀ x ∈ l, p x = q x
  | [], _, x, hx => nomatch hx
  | a :: l, e, x, hx => by
    have mono : ∀ l : List α, (l.filter p).length ≤ (l.filter q).length := fun l => by
      induction l with
      | nil => exact Nat.le_refl _
      | cons b r ih =>
        rw [List.filter_cons, List.filter_cons]
        cases hp : p b with
        | true => rw [h b hp]; simpa using ih
        | false =>
          cases hq : q b with
          | true => simp; omega
          | false => simpa using ih
    rw [List.filter_cons, List.filter_cons] at e
    cases hp : p a with
    | true =>
      have hq := h a hp
      rw [hp, hq] at e
      have e' : (l.filter p).length = (l.filter q).length := by simpa using e
      rcases List.mem_cons.mp hx with rfl | hx
      · rw [hp, hq]
      · exact filt_eq h l e' x hx
    | false =>
      cases hq : q a with
      | true =>
        rw [hp, hq] at e
        have e' : (l.filter p).length = (l.filter q).length + 1 := by simpa using e
        have := mono l
        omega
      | false =>
        rw [hp, hq] at e
        have e' : (l.filter p).length = (l.filter q).length := by simpa using e
        rcases List.mem_cons.mp hx with rfl | hx
        · rw [hp, hq]
        · exact filt_eq h l e' x hx
theorem cnt_eq {B : Shp} {n : Nat} (h : cnt B n = cnt B (n + 1)) : ∀ z ∈ B.ks.map (·.1), comesB B n z = comesB B (n + 1) z := by
  intro z hz
  obtain ⟨k, hk, rfl⟩ := List.mem_map.mp hz
  exact filt_eq (p := fun k : Str × Bool => comesB B n k.1) (q := fun k : Str × Bool => comesB B (n + 1) k.1) (fun x hx => comes_mono B n _ hx) B.ks h k hk
theorem cnt_mono (B : Shp) (n : Nat) : cnt B n ≤ cnt B (n + 1) := by
  unfold cnt
  generalize B.ks = l
  induction l with
  | nil => exact Nat.le_refl _
  | cons b r ih =>
    rw [List.filter_cons, List.filter_cons]
    cases hp : comesB B n b.1 with
    | true => rw [comes_mono B n _ hp]; simpa using ih
    | false =>
      cases hq : comesB B (n + 1) b.1 with
      | true => simp; omega
      | false => simpa using ih
theorem stop_at (B : Shp) : ∃ m, m ≤ B.ks.length ∧ cnt B m = cnt B (m + 1) := by
  refine Classical.byContradiction fun hn => ?_
  have h : ∀ m, m ≤ B.ks.length + 1 → m ≤ cnt B m := by
    intro m
    induction m with
    | zero => intro _; exact Nat.zero_le _
    | succ m ih =>
      intro hm
      have h1 := ih (by omega)
      have h2 := cnt_mono B m
      have h3 : cnt B m ≠ cnt B (m + 1) := fun e => hn ⟨m, by omega, e⟩
      omega
  have h1 := h (B.ks.length + 1) (Nat.le_refl _)
  have h2 := cnt_le B (B.ks.length + 1)
  omega
theorem comes_stay {B : Shp} (hB : B.Ok) {m : Nat} (h : ∀ z ∈ B.ks.map (·.1), comesB B m z = comesB B (m + 1) z) : ∀ (d : Nat), ∀ z ∈ B.ks.map (·.1), comesB B (m + d) z = comesB B m z
  | 0, _, _ => rfl
  | d + 1, z, hz => by
    have ih := comes_stay hB h d
    have e := comes_next hB ih z
    rw [show m + (d + 1) = m + d + 1 by omega, e]
    exact (h z hz).symm
/-- behind as many steps as there are kinds nothing more comes -/
theorem comes_all {B : Shp} (hB : B.Ok) {n m : Nat} (hn : B.ks.length ≤ n) (hm : B.ks.length ≤ m) {z : Str} (hz : z ∈ B.ks.map (·.1)) : comesB B n z = comesB B m z := by
  obtain ⟨k, hk, e⟩ := stop_at B
  have h := comes_stay hB (cnt_eq e)
  have h1 := h (n - k) z hz
  have h2 := h (m - k) z hz
  rw [show k + (n - k) = n by omega] at h1
  rw [show k + (m - k) = m by omega] at h2
  rw [h1, h2]
theorem fold_keep (F : Str → Bool) {z : Str} : ∀ (l : List (Str × Str × Str × Bool)) (G : Str → Bool), G z = true → l.foldl stepF G z = true
  | [], _, h => h
  | c :: l, G, h => fold_keep F l (stepF G c) (by unfold stepF; rw [h]; rfl)
theorem fold_gets {F : Str → Bool} {c : Str × Str × Str × Bool} (hf : c.2.2.2 = true) (hg : F c.2.2.1 = true) : ∀ (l : List (Str × Str × Str × Bool)) (G : Str → Bool), (∀ z, F z = true → G z = true) → c ∈ l → l.foldl stepF G c.2.1 = true
  | [], _, _, h => nomatch h
  | d :: l, G, hG, h => by
    rcases List.mem_cons.mp h with rfl | h
    · refine fold_keep F l _ ?_
      unfold stepF
      rw [hf, hG _ hg]
      simp
    · exact fold_gets hf hg l (stepF G d) (fun z hz => by unfold stepF; rw [hG z hz]; rfl) h
/-- what comes within n steps is marked behind n rounds -/
theorem mark_ge (B : Shp) : ∀ (n : Nat) (z : Str), comesB B n z = true → markF B n z = true
  | 0, z, h => h
  | n + 1, z, h => by
    have h' : (openB B z || B.cs.any fun c => (decide (c.2.1 = z) && c.2.2.2) && comesB B n c.2.2.1) = true := h
    rw [Bool.or_eq_true] at h'
    show B.cs.foldl stepF (markF B n) z = true
    rcases h' with h1 | h1
    · exact fold_keep (markF B n) _ _ (mark_ge B n z (comes_open B h1 n))
    · obtain ⟨c, hc, e⟩ := List.any_eq_true.mp h1
      rw [Bool.and_eq_true, Bool.and_eq_true, decide_eq_true_eq] at e
      rw [← e.1.1]
      exact fold_gets (F := markF B n) e.1.2 (mark_ge B n _ e.2) _ _ (fun _ h => h) hc
/-- what is marked comes within some steps -/
theorem fold_le {B : Shp} : ∀ (l : List (Str × Str × Str × Bool)) (G : Str → Bool), (∀ c ∈ l, c ∈ B.cs) → (∀ z, G z = true → ∃ m, comesB B m z = true) → ∀ z, l.foldl stepF G z = true → ∃ m, comesB B m z = true
  | [], _, _, hG, z, h => hG z h
  | c :: l, G, hl, hG, z, h => fold_le l (stepF G c) (fun d hd => hl d (List.mem_cons_of_mem _ hd)) (fun y hy => by
      unfold stepF at hy
      rw [Bool.or_eq_true, Bool.and_eq_true, Bool.and_eq_true, decide_eq_true_eq] at hy
      rcases hy with hy | ⟨⟨h1, h2⟩, rfl⟩
      · exact hG y hy
      · obtain ⟨m, hm⟩ := hG _ h2
        refine ⟨m + 1, ?_⟩
        show (openB B c.2.1 || B.cs.any fun d => (decide (d.2.1 = c.2.1) && d.2.2.2) && comesB B m d.2.2.1) = true
        rw [Bool.or_eq_true]
        refine .inr (List.any_eq_true.mpr ⟨c, hl c (List.mem_cons_self ..), ?_⟩)
        rw [h1, hm]
        simp) z h
theorem mark_le (B : Shp) : ∀ (n : Nat) (z : Str), markF B n z = true → ∃ m, comesB B m z = true
  | 0, z, h => ⟨0, h⟩
  | n + 1, z, h => fold_le B.cs (markF B n) (fun _ h => h) (mark_le B n) z h
theorem mark_is {B : Shp} (hB : B.Ok) {z : Str} (hz : z ∈ B.ks.map (·.1)) : markF B B.ks.length z = comesB B 3 z := by
  rw [Bool.eq_iff_iff]
  constructor
  · intro h
    obtain ⟨m, hm⟩ := mark_le B _ z h
    have h1 := comes_le B (Nat.le_max_left m 3) hm
    rw [← comes_all hB (Nat.le_trans hB.nk3 (Nat.le_max_right m 3)) hB.nk3 hz]
    exact h1
  · intro h
    rw [comes_all hB hB.nk3 (Nat.le_refl _) hz] at h
    exact mark_ge B _ z h
/-! ### Book.markable -/
def hasK (kvs : List (Key × V)) (z : Str) : Bool := (valV kvs (Sum.inr z)).isSome
theorem hasK_put (kvs : List (Key × V)) (y : Str) (v : V) (z : Str) : hasK (putK kvs (Sum.inr y) v) z = (decide (z = y) || hasK kvs z) := by
  unfold hasK
  rw [valV_put]
  by_cases h : z = y
  · subst h
    rw [if_pos rfl]
    simp
  · rw [if_neg (fun e => h (Sum.inr.inj e))]
    simp [h]
def keepK (kvs : List (Key × V)) (H : Hp) (v : V) : Option V := match fstOf H v with
  | some (.str z) => if hasK kvs z = true then some (.str z) else none
  | _ => none
theorem keepK_all {H : Hp} (kvs : List (Key × V)) : ∀ {xs : List V} {l : List (Str × Bool)}, TupsAt H xs (l.map kindV) → xs.filterMap (keepK kvs H) = ((l.filter fun k => hasK kvs k.1).map (·.1)).map V.str
  | [], [], _ => rfl
  | x :: xs, a :: l, h => by
    cases h with
    | cons h1 h2 =>
      rw [List.filterMap_cons, List.filter_cons, keepK_all kvs h2]
      unfold keepK
      rw [fst_tup h1]
      by_cases e : hasK kvs a.1 = true
      · simp [e]
      · simp [e]
  | [], a :: l, h => by cases h
  | x :: xs, [], h => by cases h
def openTo (B : Shp) (i : Nat) (z : Str) : Bool := (B.ks.take i).any fun k => decide (k.1 = z) && k.2
theorem openTo_snoc {B : Shp} {i : Nat} {k : Str × Bool} (h : B.ks[i]? = some k) (z : Str) : openTo B (i + 1) z = (openTo B i z || (decide (k.1 = z) && k.2)) := by
  unfold openTo
  rw [List.take_add_one, h, List.any_append]
  simp
def roundTo (B : Shp) (F : Str → Bool) (i : Nat) : Str → Bool := (B.cs.take i).foldl stepF F
theorem roundTo_snoc {B : Shp} {F : Str → Bool} {i : Nat} {c : Str × Str × Str × Bool} (h : B.cs[i]? = some c) : roundTo B F (i + 1) = stepF (roundTo B F i) c := by
  unfold roundTo
  rw [List.take_add_one, h, List.foldl_append]
  rfl
theorem fall_eq (b : Bool) : decide (V.str (ruleS b) = V.str "fall") = b := by cases b <;> decide +kernel
section
variable {P : Program} {w : World} {K : PySem.W.Frag} {mg : Str → Option Value} {base : Heap}
abbrev s_Book_markable : Stmt := inClass (topS 24) 6
theorem sc_Book_markable : FnScope ["self", "name", "found", "_", "home", "goal", "rule", "is_open"] ["self"] (defScope s_Book_markable) := ⟨rfl, rfl, rfl, by decide +kernel, rfl, by decide +kernel, by decide +kernel⟩
abbrev N_Book_markable : List Str := ["self", "name", "found", "_", "home", "goal", "rule", "is_open"]
def markList (B : Shp) : List Str := (B.ks.filter fun k => markF B B.ks.length k.1).map (·.1)
def spMark (C : Addr) : Sp := fun vs H Q _ => ∃ (o : Addr) (B : Shp) (ck : List Str), vs = [.ref o] ∧ BookS C H o B ck ∧ B.Ok ∧
  ∀ (H' : Hp) (p : Addr), H p = none → H' p = some (.lst ((markList B).map V.str)) → Same H H' → Q (.ref p) H'
theorem ok_mark {C : Addr} {f : Addr} {fd : FuncData} (F : Fun K "markable" "Book.markable" s_Book_markable f fd) (T : BkT K C) : FnOk P w K mg base CX0 1 f fd ["self"] (spMark C) := by
  refine F.ok sc_Book_markable (fun vs H Q E h => ?_) (fun cdv A outer s H vs Q E hr h => ?_)
  · obtain ⟨o, B, ck, rfl, _⟩ := h
    rfl
  · obtain ⟨o, B, ck, rfl, hbk, hB, q⟩ := h
    obtain ⟨dx, k, c, m, x, kx, cx, ho, hk, hkt, hc, hct, hm, hx⟩ := id hbk
    rw [ksU_rows] at hkt
    rw [csU_rows] at hct
    have hu := hu_of hr
    refine ⟨_, (pss_cons (ps_set (i := 2) sc_Book_markable.nd rfl (Or.inr rfl) (pe_dc (own := [("name", 1), ("is_open", 7)]) (g := gTup K 2 (gCons (gName 1) (gCons (gName 7) gNil))) (by rfl) sc_Book_markable.nd (pi_tup (pe_fld (pv 0) rfl)) (blkOk_by (own := [("name", 1), ("is_open", 7)]) (N := N_Book_markable) (sc := defScope s_Book_markable) (by decide +kernel)) (fun _ _ _ _ _ => (pg_tup rfl (pgs_cons (pg_name (i := 1) sc_Book_markable.nd rfl (Or.inl rfl) (Or.inr rfl)) (pgs_cons (pg_name (i := 7) sc_Book_markable.nd rfl (Or.inl rfl) (Or.inr rfl)) pgs_nil)))) (fun _ _ _ _ _ => (pts_one (pt_val (pv 7)))) (fun _ _ _ _ _ => (pv 1)) (fun _ _ _ _ _ => pe_bl)))
      (pss_cons (ps_for PassesOwn.never rfl (pi_tup (pe_fld (pv 0) rfl)) (pg_name (i := 3) sc_Book_markable.nd rfl (Or.inl rfl)) (pss_one (ps_for PassesOwn.never rfl (pi_tup (pe_fld (pv 0) rfl)) (pg_tup rfl (pgs_cons (pg_name (i := 1) sc_Book_markable.nd rfl (Or.inl rfl)) (pgs_cons (pg_name (i := 4) sc_Book_markable.nd rfl (Or.inl rfl)) (pgs_cons (pg_name (i := 5) sc_Book_markable.nd rfl (Or.inl rfl)) (pgs_cons (pg_name (i := 6) sc_Book_markable.nd rfl (Or.inl rfl)) pgs_nil))))) (pss_one (ps_if (PW.pt (pw_and (pt_cmpR op_eq (pv 6) pe_str (nomark _)) (pw_and1 (pt_cmp (pc_din hu (pv 5) (pv 2)))))) (pss_one (ps_dput hu (pv 2) (pv 4) pe_bl rfl)) pss_nil)))))
      (pss_one (ps_ret (pe_lc (own := [("name", 1), ("is_open", 7)]) (g := gTup K 2 (gCons (gName 1) (gCons (gName 7) gNil))) (by rfl) sc_Book_markable.nd (pi_tup (pe_fld (pv 0) rfl)) (blkOk_by (own := [("name", 1), ("is_open", 7)]) (N := N_Book_markable) (sc := defScope s_Book_markable) (by decide +kernel)) (fun _ _ _ _ _ => (pg_tup rfl (pgs_cons (pg_name (i := 1) sc_Book_markable.nd rfl (Or.inl rfl) (Or.inr rfl)) (pgs_cons (pg_name (i := 7) sc_Book_markable.nd rfl (Or.inl rfl) (Or.inr rfl)) pgs_nil)))) (fun _ _ _ _ _ => (pts_one (pt_cmp (pc_din hu (pv 1) (pv 2))))) (fun _ _ _ _ _ => (pv 1))))))), ?_⟩
    walk_at "ls"
    refine ⟨o, C, dx, _, _, rfl, ho, T.cl, T.nk, bookF_k, ?_⟩
    refine ⟨k, rfl, ⟨_, .inl (.inl hk)⟩, fun D hD => ?_⟩
    have lk : kx.length = B.ks.length := by rw [hkt.len, List.length_map]
    have lc : cx.length = B.cs.length := by rw [hct.len, List.length_map]
    have nk3 := hB.nk3
    have nc8 := hB.nc
    refine dc_tup (xs := kx) (fun i H1 => ∃ kvs : List (Key × V), H1 = upd H D (.dK kvs) ∧ kvs.length ≤ i ∧ ∀ z, hasK kvs z = openTo B i z) ⟨[], rfl, Nat.le_refl _, fun _ => rfl⟩ (fun i H1 _ ⟨kvs, e, _⟩ => .inl (.inl (by rw [e]; exact same_new hD _ _ hk))) ?_ ?_
    · rintro i y H1 hy ⟨kvs, rfl, hl, hF⟩
      obtain ⟨ys, hys, t, rfl, ht⟩ := TupsAt.get (hkt.keep (.new (o := .dK kvs) hD)) hy
      obtain ⟨kd, hkd, rfl⟩ := map_get hys
      have hi : i < B.ks.length := (List.getElem?_eq_some_iff.mp hkd).1
      refine ⟨t, _, rfl, .inl (.inl ht), rfl, _, _, rfl, _, _, rfl, rfl, rfl, ?_⟩
      walk_at "ls"
      refine ite2 (fun e => ?_) (fun e => ?_)
      · walk_at "ls"
        refine ⟨kvs, .inr kd.1, rfl, upd_same, Nat.lt_of_le_of_lt (show kvs.length ≤ 1000 by omega) (show 1000 < sizeLine by decide), putK kvs (.inr kd.1) (.bl true), by rw [upd_upd], ?_, fun z => ?_⟩
        · have := length_putK kvs (.inr kd.1) (.bl true)
          omega
        · rw [hasK_put, hF, openTo_snoc hkd, e]
          by_cases hz : z = kd.1
          · subst hz; simp
          · have : ¬ kd.1 = z := fun h => hz h.symm
            simp [hz, this]
      · refine ⟨kvs, rfl, by omega, fun z => ?_⟩
        rw [hF, openTo_snoc hkd]
        have : kd.2 = false := by simpa using e
        rw [this]
        simp
    · rintro H1 ⟨kvs, rfl, hl, hF⟩
      rw [lk] at hl hF
      have s0 : ∀ kvs, Same H (upd H D (.dK kvs)) := fun kvs => same_new hD
      walk_at "ls"
      refine ⟨o, C, dx, _, _, rfl, s0 _ _ _ ho, T.cl, T.nk, bookF_k, k, rfl, ⟨_, .inl (.inl (s0 _ _ _ hk))⟩, ?_⟩
      refine for_it (walk_tup (xs := kx)) (fun i σ H1 => ∃ (kvs : List (Key × V)) (v1 v3 v4 v5 v6 : Option V), σ = [some (.ref o), v1, some (.ref D), v3, v4, v5, v6, none] ∧ H1 = upd H D (.dK kvs) ∧ kvs.length ≤ 3 + 8 * i ∧ ∀ z, hasK kvs z = markF B i z)
        ⟨kvs, none, none, none, none, none, rfl, rfl, by omega, fun z => by rw [hF]; unfold openTo; rw [List.take_length]; rfl⟩ (fun i σ H1 _ ⟨_, _, _, _, _, _, _, e, _⟩ => .inl (.inl (by rw [e]; exact s0 _ _ _ hk))) ?_ ?_
      · clear hl hF kvs
        rintro i y σ Hz H1 hi ⟨kvs, v1, v3, v4, v5, v6, rfl, e1, hl, hF⟩ ⟨rfl, hy⟩
        subst e1
        walk_at "ls"
        refine ⟨o, C, dx, _, _, rfl, s0 _ _ _ ho, T.cl, T.nc, bookF_c, c, rfl, ⟨_, .inl (.inl (s0 _ _ _ hc))⟩, ?_⟩
        refine for_it (walk_tup (xs := cx)) (fun j σ H1 => ∃ (kvs : List (Key × V)) (v1 v4 v5 v6 : Option V), σ = [some (.ref o), v1, some (.ref D), some y, v4, v5, v6, none] ∧ H1 = upd H D (.dK kvs) ∧ kvs.length ≤ 3 + 8 * i + j ∧ ∀ z, hasK kvs z = roundTo B (markF B i) j z)
          ⟨kvs, v1, v4, v5, v6, rfl, rfl, by omega, fun z => by rw [hF]; rfl⟩ (fun j σ H1 _ ⟨_, _, _, _, _, _, e, _⟩ => .inl (.inl (by rw [e]; exact s0 _ _ _ hc))) ?_ ?_
        · clear hl hF kvs
          rintro j yj σ Hz2 H1 hj ⟨kvs, v1, v4, v5, v6, rfl, e1, hl, hF⟩ ⟨rfl, hyj⟩
          subst e1
          obtain ⟨ys, hys, t, rfl, ht⟩ := TupsAt.get (hct.keep (.new (o := .dK kvs) hD)) hyj
          obtain ⟨cl, hcl, rfl⟩ := map_get hys
          have hjc : j < B.cs.length := (List.getElem?_eq_some_iff.mp hcl).1
          refine ⟨t, _, rfl, .inl (.inl ht), rfl, _, _, rfl, _, _, rfl, _, _, rfl, _, _, rfl, rfl, ?_⟩
          refine and2 cl.2.2.2 (hasK kvs cl.2.2.1) (fun Q' q' => ?_) (fun _ Q' q' => ?_) ?_
          · walk_at "ls"
            rw [← fall_eq cl.2.2.2] at q'
            exact q'
          · walk_at "ls"
            refine ⟨D, _, rfl, DGet.k (k := .inr cl.2.2.1) upd_same, _, rfl, q'⟩
          rw [hF]
          refine ite2 (fun e => ?_) (fun e => ?_)
          · walk_at "ls"
            refine ⟨D, _, rfl, DPut.k (k := .inr cl.2.1) upd_same (Nat.lt_of_le_of_lt (show kvs.length ≤ 1000 by omega) (show 1000 < sizeLine by decide)), ?_⟩
            refine ⟨putK kvs (.inr cl.2.1) (.bl true), _, _, _, _, rfl, by rw [upd_upd], ?_, fun z => ?_⟩
            · have := length_putK kvs (.inr cl.2.1) (.bl true)
              omega
            · rw [hasK_put, hF, roundTo_snoc hcl]
              unfold stepF
              rw [e]
              simp [Bool.or_comm]
          · refine ⟨kvs, _, _, _, _, rfl, rfl, by omega, fun z => ?_⟩
            rw [hF, roundTo_snoc hcl]
            unfold stepF
            have : (cl.2.2.2 && roundTo B (markF B i) j cl.2.2.1) = false := by simpa using e
            rw [this]
            simp
        · rintro σ H1 ⟨kvs, v1, v4, v5, v6, rfl, e1, hl, hF⟩
          rw [lc] at hl hF
          refine ⟨kvs, _, _, _, _, _, rfl, e1, by omega, fun z => ?_⟩
          rw [hF]
          unfold roundTo
          rw [List.take_length]
          rfl
      · clear hl hF kvs
        rintro σ H1 ⟨kvs, v1, v3, v4, v5, v6, rfl, e1, hl, hF⟩
        subst e1
        rw [lk] at hl hF
        walk_at "ls"
        refine ⟨o, C, dx, _, _, rfl, s0 _ _ _ ho, T.cl, T.nk, bookF_k, k, rfl, ⟨_, .inl (.inl (s0 _ _ _ hk))⟩, fun E1 hE1 => ?_⟩
        have s1 := s0 kvs
        have hk1 := s1 _ _ hk
        have nkE : k ≠ E1 := ne_of_none hk1 hE1
        have nDE : D ≠ E1 := ne_of_none upd_same hE1
        have lz : kx.length < sizeLine := Nat.lt_of_le_of_lt (show kx.length ≤ 1000 by omega) (show 1000 < sizeLine by decide)
        refine lc_pure (walk_tup (xs := kx)) kx (keepK kvs H) rfl (fun i H x H' hi hy => hy) lz (fun acc => .inl (.inl (by rw [upd_ne nkE]; exact hk1))) (fun j y hj hyj => ?_) ?_
        · obtain ⟨ys, hys, hto⟩ := TupsAt.get hkt hyj
          obtain ⟨kd, hkd, rfl⟩ := map_get hys
          obtain ⟨t, rfl, ht⟩ := id hto
          have ht1 := s1 _ _ ht
          have ntE : t ≠ E1 := ne_of_none ht1 hE1
          refine ⟨t, _, rfl, .inl (.inl (by rw [upd_ne ntE]; exact ht1)), rfl, _, _, rfl, _, _, rfl, rfl, rfl, ?_⟩
          walk_at "ls"
          refine ⟨D, _, rfl, DGet.k (k := .inr kd.1) (by rw [upd_ne nDE]; exact upd_same), _, rfl, ?_⟩
          have ef : keepK kvs H (.ref t) = if hasK kvs kd.1 = true then some (.str kd.1) else none := by
            unfold keepK
            rw [fst_tup hto]
          show if hasK kvs kd.1 = true then _ else _
          refine ite2 (fun e => ?_) (fun e => ?_)
          · walk_at "ls"
            exact lc_yes hyj hj lz (by rw [ef, if_pos e])
          · exact lc_no hyj (by rw [ef, if_neg e])
        · rw [keepK_all kvs hkt]
          have el : (B.ks.filter fun k => hasK kvs k.1).map (·.1) = markList B := by
            unfold markList
            congr 1
            exact List.filter_congr fun x _ => hF x.1
          rw [el]
          exact q _ E1 (s1.free hE1) upd_same (s1.trans (same_new hE1))
end
end Ls
namespace Ls
open PySem PySem.Spec PyProof.Rows L2
/-! ### enumerate(v), v a tuple or a text -/
set_option maxHeartbeats 1000000 in
theorem meets_enum1 {v : Value} {o : Obj} {G : Heap → Prop} (B : Begins v o G) : Meets (Builtin.«enumerate.__new__» ⟨[.type "enumerate", v], []⟩) (fun _ R s => G s.heap ∧
    R (.ok (.ret (.ref (s.heap.push o).objs.size))) { s with heap := (s.heap.push o).push { cls := .type "enumerate", data := .fields #[.none, .bool false, .ref s.heap.objs.size, rawInt 0, .none, .none] } }) :=
  .of_wp fun prog w A R s h => by
    obtain ⟨hp, g, d, tk, os⟩ := s
    obtain ⟨h1, h⟩ := h
    have hsub := sub_enumerate
    have q1 : ∀ {A2 : Around} {E : Value → Shared → Prop} {Q : Value → Shared → Prop}, Q (.ref hp.objs.size) ⟨hp.push o, g, d, tk, os⟩ → wpAny (model prog w) A2 (pyIter v) Q E ⟨hp, g, d, tk, os⟩ := fun q => B.iter prog w _ _ ⟨hp, g, d, tk, os⟩ _ h1 q
    wp_walk using q1
    refine wpAny_stack_any fun st => wpAny_pure ?_
    split
    · rename_i c _ _ _ _ _
      cases (c == Value.type "enumerate") <;> (wp_walk using q1; exact ⟨_, rfl, h⟩)
    · wp_walk using q1
      exact ⟨_, rfl, h⟩
section
variable {prog : Program} {w : World} {A : Around} {E : Value → Shared → Prop} {s : Shared}
theorem enum_begin1 {v : Value} {o : Obj} {G : Heap → Prop} {Q : Value → Shared → Prop} (B : Begins v o G) (h1 : G s.heap)
    (h : ∀ h2, IsEnum h2 (s.heap.objs.size + 1) s.heap.objs.size 0 .none → h2.get? s.heap.objs.size = some o → h2.objs.size = s.heap.objs.size + 2 → (∀ b u, s.heap.get? b = some u → h2.get? b = some u) → Q (.ref (s.heap.objs.size + 1)) { s with heap := h2 }) :
    wpAny (model prog w) A (call (.type "enumerate") [v]) Q E s := by
  refine callType_new F.called_enumerate (by decide) (F.typeCall_enumerate_1 _) (F.newCall_enumerate_1 _) (fun obj => F.args_object_init_2 obj _) F.entry_enumerate_new (meets_enum1 B) ⟨h1, ?_⟩
  have hz : (s.heap.push o).objs.size = s.heap.objs.size + 1 := Heap.size_push ..
  show _ ∧ _
  rw [hz]
  have he : IsEnum ((s.heap.push o).push { cls := .type "enumerate", data := .fields #[.none, .bool false, .ref s.heap.objs.size, rawInt 0, .none, .none] }) (s.heap.objs.size + 1) s.heap.objs.size 0 .none := by
    have q := Heap.get?_push_size (s.heap.push o) (o := { cls := .type "enumerate", data := .fields #[.none, .bool false, .ref s.heap.objs.size, rawInt 0, .none, .none] }) rfl
    rw [hz] at q
    exact q
  exact ⟨⟨_, he, rfl⟩, h _ he (Heap.get?_push_of_some _ (Heap.get?_push_size _ B.free)) (by rw [Heap.size_push, hz]) fun b u x => Heap.get?_push_of_some _ (Heap.get?_push_of_some _ x)⟩
end
/-- the tuple at a, each item in a new pair behind its place -/
def ItEt (K : PySem.W.Frag) (a : Addr) : It :=
  ⟨fun i H => ∃ (xs : List V) (x : V), SqT K H a xs ∧ xs[i]? = some x, fun i H v H' => ∃ T x, v = .ref T ∧ H T = none ∧ H' = upd H T (.tup [.int (i : Nat), x]) ∧ ∀ xs, SqT K H a xs → xs[i]? = some x, fun i H => ∃ xs : List V, SqT K H a xs ∧ xs.length = i⟩
theorem walk_enumT {K : PySem.W.Frag} {a : Addr} {xs : List V} : Walk (ItEt K a) xs.length (fun H => SqT K H a xs) (YPair (fun i => some (.int (i : Nat))) (fun i => xs[i]?)) := by
  refine ⟨fun i _ hi q => ⟨xs, xs[i], q, by simp [hi]⟩, fun _ q => ⟨xs, q, rfl⟩, fun i H v H' _ q y => ?_⟩
  obtain ⟨T, x, h1, h2, h3, h4⟩ := y
  exact ⟨T, .int (i : Nat), x, h1, h2, h3, rfl, h4 xs q⟩
/-- the text z, each sign in a new pair behind its place -/
def ItEs (z : Str) : It :=
  ⟨fun i _ => i < z.cps.size, fun i H v H' => ∃ T x, v = .ref T ∧ H T = none ∧ H' = upd H T (.tup [.int (i : Nat), x]) ∧ (signs z)[i]? = some x, fun i _ => i = z.cps.size⟩
theorem walk_enumS {z : Str} : Walk (ItEs z) z.cps.size (fun _ => True) (YPair (fun i => some (.int (i : Nat))) (fun i => (signs z)[i]?)) := by
  refine ⟨fun i _ hi _ => hi, fun _ _ => rfl, fun i H v H' _ _ y => ?_⟩
  obtain ⟨T, x, h1, h2, h3, h4⟩ := y
  exact ⟨T, .int (i : Nat), x, h1, h2, h3, rfl, h4⟩
section
variable {P : Program} {w : World} {K : PySem.W.Frag} {elts : List Expr} {kk : Nat} {tpos : Pos}
/-- behind the drawing of an item: the new pair -/
theorem enum_out {X : Cx} {pins : List (Addr × Obj)} {σ : L2.St} {H : Hp} {s : Shared} {e it : Addr} {i : Nat} {x : V} {u : Value} {h2 : Heap} {tk : Tok} {E : Value → Shared → Prop} {R : Heap → Prop} {elts : List Expr} {kk : Nat} {tpos : Pos} (I : Inv X pins σ H s) (hel : e < s.heap.objs.size) (hil : it < s.heap.objs.size) (hne : e ≠ it) (hf : ∀ b ∈ [e, it], FpOk X pins H b) (ru : RelV x u)
    (ho : IsEnumOut h2 e it ((i : Int) + 1) u s.heap.objs.size) (hT : h2.get? s.heap.objs.size = some { cls := .type "tuple", data := .seq #[.int i tk, u] }) (hk : ∀ b o, b ≠ e → b ≠ it → s.heap.get? b = some o → h2.get? b = some o)
    (hq : ∀ h3, (∀ b, b ≠ e → h3.get? b = h2.get? b) → (∃ old, IsEnum h3 e it (((i + 1 : Nat) : Nat) : Int) old) → R h3) {Y : V → Hp → Prop} (hY : Y (.ref s.heap.objs.size) (upd H s.heap.objs.size (.tup [.int (i : Nat), x]))) :
    wpAny (model X.prog X.w) X.A (letOwnedTupleGo (.Tuple elts kk tpos) (.ref e) (.ref s.heap.objs.size)) (fun _ s2 => ∃ x' H', Inv X pins σ H' s2 ∧ RelV x' (.ref s.heap.objs.size) ∧ Y x' H' ∧ R s2.heap ∧ ∀ b ∈ [e, it], H' b = none) E { s with heap := h2, toks := tk + 1 } := by
  refine wpAny_letOwnedTupleGo_enum (s := { s with heap := h2, toks := tk + 1 }) ho fun h3 he3 sb => ?_
  have hT2 : h3.get? s.heap.objs.size = some { cls := .type "tuple", data := .seq #[.int i tk, u] } := (sb.2 _ (Nat.ne_of_gt hel)).trans hT
  have new : ObjOk X.prog X.w (upd H s.heap.objs.size (.tup [.int (i : Nat), x])) h3 s.heap.objs.size (.tup [.int (i : Nat), x]) :=
    ⟨by show 2 ≤ sizeLine; decide, [.int i tk, u], .cons ⟨_, rfl⟩ (.cons ru .nil), ⟨_, hT2, rfl, _, rfl⟩⟩
  have I1 : Inv X pins σ (upd H s.heap.objs.size (.tup [.int (i : Nat), x])) { s with heap := h3, toks := tk + 1 } :=
    I.turnedNew (ch := [e, it]) (fun b o hb z => (sb.2 b (fun q => hb (by simp [q]))).trans (hk b o (fun q => hb (by simp [q])) (fun q => hb (by simp [q])) z)) hf (Nat.le_refl _) new
  refine ⟨.ref s.heap.objs.size, _, I1, rfl, hY, hq h3 (fun b hb => sb.2 b hb) ⟨u, ?_⟩, fun b hb => ?_⟩
  · have e1 : ((i + 1 : Nat) : Int) = (i : Int) + 1 := by omega
    rw [e1]
    exact he3
  · have hb2 : b < s.heap.objs.size := by
      have e2 : b = e ∨ b = it := by simpa using hb
      rcases e2 with q | q <;> rw [q] <;> assumption
    rw [upd_ne (Nat.ne_of_lt hb2)]
    exact (hf b hb).1
theorem turn_enumT (a e it : Addr) : Turn P w K (.Tuple elts kk tpos) (ItEt K a) [e, it] e (fun i h => (∃ old, IsEnum h e it ((i : Nat) : Int) old) ∧ h.IsTupleIter it a i ∧ e ≠ it) where
  mem := by simp
  obj := fun i h st b hb => by
    obtain ⟨⟨old, he⟩, ⟨o, ho, hc, hd⟩, _⟩ := st
    have e2 : b = e ∨ b = it := by simpa using hb
    rcases e2 with q | q
    · rw [q]; exact ⟨_, he, fun v z => nomatch z⟩
    · rw [q]; exact ⟨o, ho, fun v z => by rw [hd] at z; cases z⟩
  keep := fun i h h' st k => let ⟨⟨old, he⟩, hi, hne⟩ := st; ⟨⟨old, k e (by simp) _ he⟩, hi.at fun o q => k it (by simp) o q, hne⟩
  item := by
    intro X hP hw hK hc i pins s σ H E I hf st hg
    subst hP hw hK
    obtain ⟨⟨old, he⟩, hit, hne⟩ := st
    obtain ⟨xs, x, hq, hx⟩ := hg
    obtain ⟨its, rv, p, hz⟩ := I.tuple hq
    obtain ⟨u, hu, ru⟩ := rv.get hx
    have hai : a ≠ it := fun z => by
      obtain ⟨o, ho, hc1, _⟩ := hit
      obtain ⟨o2, ho2, hc2, _⟩ := p
      rw [z, ho] at ho2
      cases ho2
      rw [hc1] at hc2
      exact absurd hc2 (by decide)
    have hi : i < its.toArray.size := by
      rw [List.size_toArray]
      exact (List.getElem?_eq_some_iff.mp hu).1
    have hea : e ≠ a := fun z => by
      obtain ⟨o2, ho2, hc2, _⟩ := p
      rw [← z] at ho2
      have := he.symm.trans ho2
      cases this
      simp at hc2
    refine wpAny_pyNext_enum_itemD (Draws.tuple (prog := X.prog) (w := X.w) (A := X.A.in1) (I.ok.hd hc) it a hai its.toArray) he ⟨hit, p⟩ hi hne (by simp [hne, hea]) fun v h2 tk hP ho hs2 hT hsz hk => ?_
    have ev : v = u := by
      have z : its[i]? = some v := by simpa using hP
      rw [hu] at z
      exact (Option.some.inj z).symm
    subst ev
    refine ⟨_, rfl, wpAny_mono (enum_out (R := fun h3 => (∃ old, IsEnum h3 e it (((i + 1 : Nat) : Nat) : Int) old) ∧ h3.IsTupleIter it a (i + 1) ∧ e ≠ it) (Y := fun v H' => (ItEt X.K a).yld i H v H') I (Heap.lt_size he) (by obtain ⟨_, z, _⟩ := hit; exact Heap.lt_size z) hne hf ru ho hT hk (fun h3 k3 he3 => ⟨he3, hs2.1.at fun o z => (k3 it (Ne.symm hne)).trans z, hne⟩) ?_) (fun _ s2 z => ?_) fun _ _ z => z⟩
    · exact ⟨_, x, rfl, I.hok.fresh (Nat.le_refl _), rfl, fun ys hy => by rw [I.tuple_inj hy hq]; exact hx⟩
    · exact z
  done := by
    intro X hP hw hK hc i pins s σ H E I hf st hg
    subst hP hw hK
    obtain ⟨⟨old, he⟩, hit, hne⟩ := st
    obtain ⟨xs, hq, hx⟩ := hg
    obtain ⟨its, rv, p, hz⟩ := I.tuple hq
    have hai : a ≠ it := fun z => by
      obtain ⟨o, ho, hc1, _⟩ := hit
      obtain ⟨o2, ho2, hc2, _⟩ := p
      rw [z, ho] at ho2
      cases ho2
      rw [hc1] at hc2
      exact absurd hc2 (by decide)
    have hn : i = its.toArray.size := by rw [List.size_toArray, ← rv.length, hx]
    rw [hn] at hit he
    obtain ⟨f0, f1, f2, f3, f4, f5⟩ := hf it (by simp)
    exact wpAny_pyNext_enum_endD (Draws.tuple (prog := X.prog) (w := X.w) (A := X.A.in1) (I.ok.hd hc) it a hai its.toArray) he ⟨hit, p⟩ fun h' eb => ⟨rfl, I.turned (t' := s.toks) (fun b o hb q => eb b o hb q) f0 f1 f3 f4 f5⟩
  self := fun A i s Q E st h => let ⟨⟨_, he⟩, _⟩ := st; wpAny_pyIter_enum he h
theorem turn_enumS (z : Str) (tk0 : Tok) (e it : Addr) : Turn P w K (.Tuple elts kk tpos) (ItEs z) [e, it] e (fun i h => (∃ old, IsEnum h e it ((i : Nat) : Int) old) ∧ h.IsStrIter it (strIterType z) z tk0 i ∧ e ≠ it) where
  mem := by simp
  obj := fun i h st b hb => by
    obtain ⟨⟨old, he⟩, ⟨o, ho, hc, hd⟩, _⟩ := st
    have e2 : b = e ∨ b = it := by simpa using hb
    rcases e2 with q | q
    · rw [q]; exact ⟨_, he, fun v z => nomatch z⟩
    · rw [q]; exact ⟨o, ho, fun v z => by rw [hd] at z; cases z⟩
  keep := fun i h h' st k => let ⟨⟨old, he⟩, hi, hne⟩ := st; ⟨⟨old, k e (by simp) _ he⟩, (let ⟨o, ho, r⟩ := hi; ⟨o, k it (by simp) o ho, r⟩), hne⟩
  item := by
    intro X hP hw hK hc i pins s σ H E I hf st hg
    subst hP hw hK
    obtain ⟨⟨old, he⟩, hit, hne⟩ := st
    have hi : i < z.cps.size := hg
    have hx : (signs z)[i]? = some (.str ⟨#[z.cps[i]]⟩) := by
      unfold signs
      rw [List.getElem?_map, Array.getElem?_toList, Array.getElem?_eq_getElem hi]
      rfl
    refine wpAny_pyNext_enum_itemD (Draws.text (prog := X.prog) (w := X.w) (A := X.A.in1) (I.ok.hd hc) it z tk0) he hit hi hne (by simp [hne]) fun v h2 tk hP ho hs2 hT hsz hk => ?_
    obtain ⟨c, u0, hcz, rfl⟩ := hP
    have ec : c = z.cps[i] := by
      rw [Array.getElem?_eq_getElem hi] at hcz
      exact (Option.some.inj hcz).symm
    subst ec
    refine ⟨_, rfl, wpAny_mono (enum_out (x := .str ⟨#[z.cps[i]]⟩) (R := fun h3 => (∃ old, IsEnum h3 e it (((i + 1 : Nat) : Nat) : Int) old) ∧ h3.IsStrIter it (strIterType z) z tk0 (i + 1) ∧ e ≠ it) (Y := fun v H' => (ItEs z).yld i H v H') I (Heap.lt_size he) (by obtain ⟨_, q, _⟩ := hit; exact Heap.lt_size q) hne hf ⟨_, rfl⟩ ho hT hk (fun h3 k3 he3 => ⟨he3, (let ⟨o, ho, r⟩ := hs2; ⟨o, (k3 it (Ne.symm hne)).trans ho, r⟩), hne⟩) ?_) (fun _ s2 q => ?_) fun _ _ q => q⟩
    · exact ⟨_, _, rfl, I.hok.fresh (Nat.le_refl _), rfl, hx⟩
    · exact q
  done := by
    intro X hP hw hK hc i pins s σ H E I hf st hg
    subst hP hw hK
    obtain ⟨⟨old, he⟩, hit, hne⟩ := st
    have hn : i = z.cps.size := hg
    rw [hn] at hit he
    obtain ⟨f0, f1, f2, f3, f4, f5⟩ := hf it (by simp)
    exact wpAny_pyNext_enum_endD (Draws.text (prog := X.prog) (w := X.w) (A := X.A.in1) (I.ok.hd hc) it z tk0) he hit fun h' eb => ⟨rfl, I.turned (t' := s.toks) (fun b o hb q => eb b o hb q) f0 f1 f3 f4 f5⟩
  self := fun A i s Q E st h => let ⟨⟨_, he⟩, _⟩ := st; wpAny_pyIter_enum he h
end
def iEnumT (K : PySem.W.Frag) (ta : TA) : TI := fun σ H R => ta σ H fun vs H1 => ∃ a xs, vs = [.ref a] ∧ SqT K H1 a xs ∧ R (ItEt K a) H1
def iEnumS (ta : TA) : TI := fun σ H R => ta σ H fun vs H1 => ∃ z, vs = [.str z] ∧ R (ItEs z) H1
section
variable {X : Cx} {e : Expr} {ta : TA} {p pos tpos : Pos} {elts : List Expr} {kk : Nat}
theorem pi_enumT (K : PySem.W.Frag) (hg : Gl X "enumerate") (hm : X.mg "enumerate" = none) (ha : PA X [e] ta) (hK : X.K = K := by rfl) (hs : starEach [e] X.env = [(false, eval e X.env)] := by rfl) :
    PI X (.Tuple elts kk tpos) (.Call (.Name "enumerate" p) [e] [] pos) (iEnumT K ta) := by
  subst hK
  refine ⟨fun pins s σ H R I h => ?_⟩
  refine Call_ (ld_blt I hg hm boot_enumerate (PyProof.Rows.callWith_type1 (thn (ha.run pos pins s σ H _ I h) fun us s1 ⟨vs, H1, I1, r1, q1⟩ => ?_) hs rfl))
  obtain ⟨a, xs, ex, hq, q⟩ := q1
  subst ex
  cases r1 with
  | cons r rr =>
    cases rr
    cases r
    obtain ⟨its, rv, p', hz⟩ := I1.tuple hq
    refine enum_begin1 (begins_tuple a its.toArray) p' fun h' he hit hsz hk => wpAny_pyIter_enum he ?_
    have I2 : Inv X pins σ H1 { s1 with heap := h' } := I1.kept (t' := s1.toks) hk
    refine ⟨s1.heap.objs.size + 1, [s1.heap.objs.size + 1, s1.heap.objs.size], _, _, H1, rfl, I2, turn_enumT a (s1.heap.objs.size + 1) s1.heap.objs.size, ⟨⟨.none, he⟩, ⟨_, hit, rfl, rfl⟩, Nat.succ_ne_self _⟩, fun b hb => ?_, q⟩
    have hle : s1.heap.objs.size ≤ b := by
      have e2 : b = s1.heap.objs.size + 1 ∨ b = s1.heap.objs.size := by simpa using hb
      rcases e2 with z | z <;> rw [z] <;> first | exact Nat.le_succ _ | exact Nat.le_refl _
    exact I1.fpOk hle (I1.hok.fresh hle)
theorem pi_enumS (hg : Gl X "enumerate") (hm : X.mg "enumerate" = none) (ha : PA X [e] ta) (hs : starEach [e] X.env = [(false, eval e X.env)] := by rfl) :
    PI X (.Tuple elts kk tpos) (.Call (.Name "enumerate" p) [e] [] pos) (iEnumS ta) := by
  refine ⟨fun pins s σ H R I h => ?_⟩
  refine Call_ (ld_blt I hg hm boot_enumerate (PyProof.Rows.callWith_type1 (thn (ha.run pos pins s σ H _ I h) fun us s1 ⟨vs, H1, I1, r1, q1⟩ => ?_) hs rfl))
  obtain ⟨z, ex, q⟩ := q1
  subst ex
  cases r1 with
  | cons r rr =>
    cases rr
    obtain ⟨tk, rfl⟩ := r
    refine enum_begin1 (begins_text z tk) trivial fun h' he hit hsz hk => wpAny_pyIter_enum he ?_
    have I2 : Inv X pins σ H1 { s1 with heap := h' } := I1.kept (t' := s1.toks) hk
    refine ⟨s1.heap.objs.size + 1, [s1.heap.objs.size + 1, s1.heap.objs.size], _, _, H1, rfl, I2, turn_enumS z tk (s1.heap.objs.size + 1) s1.heap.objs.size, ⟨⟨.none, he⟩, ⟨_, hit, rfl, rfl⟩, Nat.succ_ne_self _⟩, fun b hb => ?_, q⟩
    have hle : s1.heap.objs.size ≤ b := by
      have e2 : b = s1.heap.objs.size + 1 ∨ b = s1.heap.objs.size := by simpa using hb
      rcases e2 with z | z <;> rw [z] <;> first | exact Nat.le_succ _ | exact Nat.le_refl _
    exact I1.fpOk hle (I1.hok.fresh hle)
end
end Ls
namespace Ls
open PySem PySem.Spec PyProof.Rows L2
/-! ### x = {..: .. for ..} on one line, x a local that is no name of the comprehension -/
section
variable {X : Cx}
theorem swD {kx vx : Expr} {gs : List Comprehension} {sc : Scope} {po px : Pos} {x : Str} {l : Nat} {env : Env} (h1 : env.scope.kind = .function) (h2 : env.scope.names.lookup x = some .local) (h3 : (px.line == po.line) = true)
    (h4 : (sc.names.any fun z => z.1 == x && (z.2 == .local || z.2 == .cell)) = false) : swapsWith (.DictComp kx vx gs sc po) (some (.Name x px)) l env = pure true := by
  have k1 : env.kindOf x = some .local := h2
  have k2 : env.blockKind = .function := by simp [Env.blockKind, h1]
  simp only [swapsWith, k1, k2, h4, Expr.pos, h3]
  rfl
theorem ps_setDc {i : Nat} {x : Str} {px : Pos} {kx vx tg it : Expr} {fs : List Expr} {sc : Scope} {own : List (Str × Nat)} {po sp : Pos} {wi : TI} {g : TG} {tt : TT} {tk tv : TE} (c1 : X.calm = true) (c2 : X.N.Nodup) (c3 : X.N[i]? = some x) (c4 : X.env.scope.names.lookup x = some .local)
    (c5 : swapsWith (.DictComp kx vx [⟨tg, it, fs, 0⟩] sc po) (some (.Name x px)) sp.line X.env = pure true) (a1 : PI X tg it wi) (a2 : BlkOk X.N X.env.scope sc own) (a3 : ∀ s H C cl fp, PG (X.blk s H sc (compEnvC sc cl C X.env) fp) tg g) (a4 : ∀ s H C cl fp, PTs (X.blk s H sc (compEnvC sc cl C X.env) fp) fs tt)
    (a5 : ∀ s H C cl fp, PE (X.blk s H sc (compEnvC sc cl C X.env) fp) kx tk) (a6 : ∀ s H C cl fp, PE (X.blk s H sc (compEnvC sc cl C X.env) fp) vx tv) (a7 : ∀ v, foldedSetIterable it X.env v = pure v := by intro _; rfl) : PS X (.Assign [.Name x px] (.DictComp kx vx [⟨tg, it, fs, 0⟩] sc po) sp) (tAsg (tDc wi g tt tk tv (own.map (·.2))) (gName i)) where
  run pins s σ H D I h := by
    have e := exec_Assign_Name_used x px _ sp c5
    rw [e]
    apply wpAny_bind
    apply wpAny_standAt
    apply wpAny_bind
    change wpAny _ X.A (do let _ ← comprehension (.DictComp kx vx [⟨tg, it, fs, 0⟩] sc po) sc X.env (firstIterPos [⟨tg, it, fs, 0⟩] po) newDict false (eval it X.env) (some (assign (.Name x px) X.env))) _ _ s
    apply wpAny_bind
    refine thn (dc_core (Q := fun v H1 => gName i v σ H1 D.nx) (Qf := fun _ s2 => SP X pins D .next s2) c1 c2 I a1 a2 a3 a4 a5 a6 a7 h ?_) (fun _ s2 z => wpAny_pure (wpAny_pure z))
    intro L C s2 m H2 I2 q n f
    change wpAny _ _ (assign (.Name x px) X.env (.ref L)) _ _ _
    apply wpAny_assign_Name
    refine store_ok2 (v := V.ref L) I2 c2 c3 (.inl c4) rfl (fun s3 I3 z => ?_) (.inr c4)
    obtain ⟨a, b, hz⟩ := z
    have ne : C ≠ a := hz.elim (fun z => z ▸ f.2.1) fun z e => f.2.2.2.2.1 x a z e.symm
    exact ⟨m, n.sameBut b ne, fun h4 b4 => ⟨_, H2, I3.turned (t' := s3.toks) (fun c o hc e => (b4.2 c hc).trans e) f.1 f.2.1 f.2.2.2.1 f.2.2.2.2.1 f.2.2.2.2.2, q⟩⟩
end
end Ls
namespace Ls
open PySem PySem.Spec PyProof.Rows L2
/-! ### ranks: two ways to reckon them -/
abbrev Ed := Str × Str
/-- the first way: rounds over the edges -/
def relax (f : Str → Nat) (e : Ed) : Str → Nat := if f e.1 ≤ f e.2 then (fun z => if z = e.1 then f e.2 + 1 else f z) else f
def roundR (es : List Ed) (f : Str → Nat) : Str → Nat := es.foldl relax f
def roundsR (es : List Ed) : Nat → Str → Nat
  | 0 => fun _ => 0
  | n + 1 => roundR es (roundsR es n)
def ranksP (T : List Str) (es : List Ed) (n : Nat) : Option (List (Str × Nat)) := if es.any (fun e => decide (roundsR es n e.1 ≤ roundsR es n e.2)) = true then none else some (T.map fun k => (k, roundsR es n k))
/-- the second way: level by level -/
def isFree (es : List Ed) (left : List Str) (k : Str) : Bool := (es.filter fun e => decide (e.1 = k) && decide (e.2 ∈ left)).isEmpty
def freeOf (es : List Ed) (left : List Str) : List Str := left.filter (isFree es left)
def valStep (r : Str → Nat) (k : Str) (a : Nat) (e : Ed) : Nat := if e.1 = k ∧ a ≤ r e.2 then r e.2 + 1 else a
def valOf (es : List Ed) (r : Str → Nat) (k : Str) : Nat := es.foldl (valStep r k) 0
def nextR (es : List Ed) (left : List Str) (r : Str → Nat) : Str → Nat := fun z => if z ∈ freeOf es left then valOf es r z else r z
def restOf (es : List Ed) (left : List Str) : List Str := left.filter fun k => !decide (k ∈ freeOf es left)
def lawRun (es : List Ed) : Nat → List Str → (Str → Nat) → Option (Str → Nat)
  | _, [], r => some r
  | 0, _ :: _, _ => none
  | n + 1, k :: l, r => if freeOf es (k :: l) = [] then none else lawRun es n (restOf es (k :: l)) (nextR es (k :: l) r)
def ranksL (T : List Str) (es : List Ed) : Option (List (Str × Nat)) := (lawRun es T.length T fun _ => 0).map fun r => T.map fun k => (k, r k)
/-! each grows -/
theorem relax_ge (f : Str → Nat) (e : Ed) (z : Str) : f z ≤ relax f e z := by
  unfold relax
  split
  · show f z ≤ if z = e.1 then f e.2 + 1 else f z
    split
    · rename_i h1 h2
      rw [h2]
      omega
    · exact Nat.le_refl _
  · exact Nat.le_refl _
theorem fold_ge : ∀ (es : List Ed) (f : Str → Nat) (z : Str), f z ≤ es.foldl relax f z
  | [], f, z => Nat.le_refl _
  | e :: es, f, z => Nat.le_trans (relax_ge f e z) (fold_ge es (relax f e) z)
theorem fold_gets' {es : List Ed} {e : Ed} (h : e ∈ es) : ∀ (f : Str → Nat), f e.2 + 1 ≤ es.foldl relax f e.1 := by
  induction es with
  | nil => cases h
  | cons d es ih =>
    intro f
    rcases List.mem_cons.mp h with rfl | h
    · refine Nat.le_trans ?_ (fold_ge es (relax f e) e.1)
      unfold relax
      split
      · simp
      · omega
    · exact Nat.le_trans (Nat.add_le_add_right (relax_ge f d e.2) 1) (ih h (relax f d))
/-- r tells the ranks -/
structure IsRank (T : List Str) (es : List Ed) (r : Str → Nat) : Prop where
  lt : ∀ e ∈ es, r e.2 < r e.1
  why : ∀ k ∈ T, r k = 0 ∨ ∃ e ∈ es, e.1 = k ∧ r k = r e.2 + 1
theorem fold_le_r {T : List Str} {es0 : List Ed} {r : Str → Nat} (h : IsRank T es0 r) : ∀ (es : List Ed) (f : Str → Nat), (∀ e ∈ es, e ∈ es0) → (∀ z, f z ≤ r z) → ∀ z, es.foldl relax f z ≤ r z
  | [], f, _, hf, z => hf z
  | e :: es, f, hs, hf, z => fold_le_r h es (relax f e) (fun d hd => hs d (.tail _ hd)) (fun y => by
      unfold relax
      split
      · show (if y = e.1 then f e.2 + 1 else f y) ≤ r y
        split
        · rename_i h2
          rw [h2]
          have h3 := h.lt e (hs e (.head _))
          have h4 := hf e.2
          omega
        · exact hf y
      · exact hf y) z
theorem rounds_le {T : List Str} {es : List Ed} {r : Str → Nat} (h : IsRank T es r) : ∀ (i : Nat) (z : Str), roundsR es i z ≤ r z
  | 0, z => Nat.zero_le _
  | i + 1, z => fold_le_r h es (roundsR es i) (fun _ h => h) (rounds_le h i) z
theorem rounds_ge {T : List Str} {es : List Ed} {r : Str → Nat} (h : IsRank T es r) (hT : ∀ e ∈ es, e.1 ∈ T ∧ e.2 ∈ T) : ∀ (i : Nat) (z : Str), z ∈ T → r z ≤ i → r z ≤ roundsR es i z
  | 0, z, _, hz => by omega
  | i + 1, z, hm, hz => by
    by_cases h1 : r z ≤ i
    · exact Nat.le_trans (rounds_ge h hT i z hm h1) (fold_ge es (roundsR es i) z)
    · rcases h.why z hm with h0 | ⟨e, he, e1, e2⟩
      · omega
      · have h3 := rounds_ge h hT i e.2 (hT e he).2 (by omega)
        have h4 := fold_gets' he (roundsR es i)
        rw [e1] at h4
        show r z ≤ es.foldl relax (roundsR es i) z
        omega
theorem ranksP_of {T : List Str} {es : List Ed} {r : Str → Nat} {n : Nat} (h : IsRank T es r) (hT : ∀ e ∈ es, e.1 ∈ T ∧ e.2 ∈ T) (hn : ∀ k ∈ T, r k ≤ n) : ranksP T es n = some (T.map fun k => (k, r k)) := by
  have e : ∀ k ∈ T, roundsR es n k = r k := fun k hk => Nat.le_antisymm (rounds_le h n k) (rounds_ge h hT n k hk (hn k hk))
  unfold ranksP
  have ha : es.any (fun e => decide (roundsR es n e.1 ≤ roundsR es n e.2)) = false := by
    rw [List.any_eq_false]
    intro d hd
    rw [e _ (hT d hd).1, e _ (hT d hd).2]
    have := h.lt d hd
    simp
    omega
  rw [ha, if_neg (by decide)]
  congr 1
  exact List.map_congr_left fun k hk => by rw [e k hk]
theorem least_of (f : Str → Nat) : ∀ (l : List Str), l ≠ [] → ∃ k ∈ l, ∀ g ∈ l, f k ≤ f g
  | [], h => absurd rfl h
  | [a], _ => ⟨a, .head _, fun g hg => by rw [List.mem_singleton.mp hg]; exact Nat.le_refl _⟩
  | a :: b :: l, _ => by
    obtain ⟨k, hk, hm⟩ := least_of f (b :: l) (by simp)
    by_cases h : f a ≤ f k
    · exact ⟨a, .head _, fun g hg => by
        rcases List.mem_cons.mp hg with rfl | hg
        · exact Nat.le_refl _
        · exact Nat.le_trans h (hm g hg)⟩
    · exact ⟨k, .tail _ hk, fun g hg => by
        rcases List.mem_cons.mp hg with rfl | hg
        · omega
        · exact hm g hg⟩
theorem ranksP_none {T : List Str} {es : List Ed} {n : Nat} {l : List Str} (hl : l ≠ []) (h : ∀ k ∈ l, ∃ e ∈ es, e.1 = k ∧ e.2 ∈ l) : ranksP T es n = none := by
  obtain ⟨k, hk, hm⟩ := least_of (roundsR es n) l hl
  obtain ⟨e, he, e1, e2⟩ := h k hk
  unfold ranksP
  rw [if_pos]
  exact List.any_eq_true.mpr ⟨e, he, decide_eq_true (by rw [e1]; exact hm _ e2)⟩
/-! the law's way -/
theorem notFree {es : List Ed} {left : List Str} {k : Str} (h : isFree es left k = false) : ∃ e ∈ es, e.1 = k ∧ e.2 ∈ left := by
  unfold isFree at h
  have h2 : (es.filter fun e => decide (e.1 = k) && decide (e.2 ∈ left)) ≠ [] := fun e => by rw [e] at h; cases h
  obtain ⟨e, he⟩ := List.exists_mem_of_ne_nil _ h2
  obtain ⟨h3, h4⟩ := List.mem_filter.mp he
  rw [Bool.and_eq_true, decide_eq_true_eq, decide_eq_true_eq] at h4
  exact ⟨e, h3, h4⟩
theorem free_no {es : List Ed} {left : List Str} {k : Str} (h : isFree es left k = true) : ∀ e ∈ es, e.1 = k → e.2 ∉ left := fun e he e1 e2 => by
  unfold isFree at h
  have : e ∈ (es.filter fun e => decide (e.1 = k) && decide (e.2 ∈ left)) := List.mem_filter.mpr ⟨he, by simp [e1, e2]⟩
  rw [List.isEmpty_iff.mp h] at this
  cases this
theorem rest_lt {es : List Ed} {left : List Str} (h : freeOf es left ≠ []) : (restOf es left).length < left.length := by
  obtain ⟨k, hk⟩ := List.exists_mem_of_ne_nil _ h
  have hm := (List.mem_filter.mp hk).1
  unfold restOf
  rcases Nat.lt_or_ge ((left.filter fun k => !decide (k ∈ freeOf es left)).length) left.length with h1 | h1
  · exact h1
  · have e := List.filter_eq_self.mp (List.Sublist.eq_of_length_le (List.filter_sublist) h1 : left.filter (fun k => !decide (k ∈ freeOf es left)) = left) k hm
    simp [hk] at e
theorem lawRun_none {es : List Ed} : ∀ (n : Nat) (left : List Str) (r : Str → Nat), left.length ≤ n → lawRun es n left r = none → ∃ l, l ≠ [] ∧ ∀ k ∈ l, ∃ e ∈ es, e.1 = k ∧ e.2 ∈ l
  | n, [], r, _, h => by
    unfold lawRun at h
    cases h
  | 0, k :: l, r, hn, _ => by simp at hn
  | n + 1, k :: l, r, hn, h => by
    unfold lawRun at h
    by_cases hf : freeOf es (k :: l) = []
    · refine ⟨k :: l, by simp, fun z hz => notFree ?_⟩
      have := List.filter_eq_nil_iff.mp hf z hz
      simpa using this
    · rw [if_neg hf] at h
      exact lawRun_none n _ _ (by have := rest_lt hf; omega) h
/-- what holds of the kinds that are taken away -/
structure Lev (T : List Str) (es : List Ed) (left : List Str) (r : Str → Nat) : Prop where
  sub : ∀ k ∈ left, k ∈ T
  out : ∀ k ∈ T, k ∉ left → ∀ e ∈ es, e.1 = k → e.2 ∉ left ∧ r e.2 < r k
  why : ∀ k ∈ T, k ∉ left → r k = 0 ∨ ∃ e ∈ es, e.1 = k ∧ r k = r e.2 + 1
  top : ∀ k ∈ T, k ∉ left → r k + left.length < T.length
theorem val_fold (r : Str → Nat) (k : Str) : ∀ (es : List Ed) (a : Nat), a ≤ es.foldl (valStep r k) a ∧ (∀ e ∈ es, e.1 = k → r e.2 < es.foldl (valStep r k) a) ∧ (es.foldl (valStep r k) a = a ∨ ∃ e ∈ es, e.1 = k ∧ es.foldl (valStep r k) a = r e.2 + 1)
  | [], a => ⟨Nat.le_refl _, (fun e he => nomatch he), .inl rfl⟩
  | d :: es, a => by
    obtain ⟨h1, h2, h3⟩ := val_fold r k es (valStep r k a d)
    have h0 : a ≤ valStep r k a d ∧ (d.1 = k → r d.2 < valStep r k a d) ∧ (valStep r k a d = a ∨ (d.1 = k ∧ valStep r k a d = r d.2 + 1)) := by
      unfold valStep
      by_cases c : d.1 = k ∧ a ≤ r d.2
      · rw [if_pos c]
        exact ⟨by omega, fun _ => by omega, .inr ⟨c.1, rfl⟩⟩
      · rw [if_neg c]
        refine ⟨Nat.le_refl _, fun e => ?_, .inl rfl⟩
        rcases Nat.lt_or_ge (r d.2) a with h | h
        · exact h
        · exact absurd ⟨e, h⟩ c
    refine ⟨Nat.le_trans h0.1 h1, fun e he e1 => ?_, ?_⟩
    · rcases List.mem_cons.mp he with rfl | he
      · exact Nat.lt_of_lt_of_le (h0.2.1 e1) h1
      · exact h2 e he e1
    · rcases h3 with h3 | ⟨e, he, e1, e2⟩
      · rcases h0.2.2 with h4 | ⟨e1, h4⟩
        · exact .inl (by rw [List.foldl_cons, h3, h4])
        · exact .inr ⟨d, .head _, e1, by rw [List.foldl_cons, h3, h4]⟩
      · exact .inr ⟨e, .tail _ he, e1, e2⟩
theorem free_mem {es : List Ed} {left : List Str} {k : Str} (h : k ∈ freeOf es left) : k ∈ left ∧ isFree es left k = true := List.mem_filter.mp h
theorem rest_mem {es : List Ed} {left : List Str} {k : Str} : k ∈ restOf es left ↔ k ∈ left ∧ k ∉ freeOf es left := by
  unfold restOf
  rw [List.mem_filter]
  simp
theorem Lev.next {T : List Str} {es : List Ed} {left : List Str} {r : Str → Nat} (L : Lev T es left r) (hT : ∀ e ∈ es, e.1 ∈ T ∧ e.2 ∈ T) (hf : freeOf es left ≠ []) (h0 : left = T ∨ True) (hlen : left.length ≤ T.length) : Lev T es (restOf es left) (nextR es left r) := by
  have hlt := rest_lt hf
  have old : ∀ k, k ∉ left → nextR es left r k = r k := fun k hk => if_neg fun h => hk (free_mem h).1
  refine ⟨fun k hk => L.sub k (rest_mem.mp hk).1, fun k hk hn e he e1 => ?_, fun k hk hn => ?_, fun k hk hn => ?_⟩
  · by_cases hfr : k ∈ freeOf es left
    · have h2 := free_no (free_mem hfr).2 e he e1
      refine ⟨fun h => h2 (rest_mem.mp h).1, ?_⟩
      rw [old _ h2]
      show r e.2 < if k ∈ freeOf es left then valOf es r k else r k
      rw [if_pos hfr]
      exact (val_fold r k es 0).2.1 e he e1
    · have hk2 : k ∉ left := fun h => hn (rest_mem.mpr ⟨h, hfr⟩)
      obtain ⟨h2, h3⟩ := L.out k hk hk2 e he e1
      refine ⟨fun h => h2 (rest_mem.mp h).1, ?_⟩
      rw [old _ h2, old _ hk2]
      exact h3
  · by_cases hfr : k ∈ freeOf es left
    · have ev : nextR es left r k = valOf es r k := if_pos hfr
      rw [ev]
      rcases (val_fold r k es 0).2.2 with h | ⟨e, he, e1, e2⟩
      · exact .inl h
      · refine .inr ⟨e, he, e1, ?_⟩
        rw [old _ (free_no (free_mem hfr).2 e he e1)]
        exact e2
    · have hk2 : k ∉ left := fun h => hn (rest_mem.mpr ⟨h, hfr⟩)
      rcases L.why k hk hk2 with h | ⟨e, he, e1, e2⟩
      · exact .inl (by rw [old _ hk2]; exact h)
      · exact .inr ⟨e, he, e1, by rw [old _ hk2, old _ (L.out k hk hk2 e he e1).1]; exact e2⟩
  · by_cases hfr : k ∈ freeOf es left
    · have ev : nextR es left r k = valOf es r k := if_pos hfr
      rw [ev]
      rcases (val_fold r k es 0).2.2 with h | ⟨e, he, e1, e2⟩
      · have h' : valOf es r k = 0 := h
        rw [h']
        omega
      · have h2 := free_no (free_mem hfr).2 e he e1
        have h3 := L.top e.2 (hT e he).2 h2
        have h' : valOf es r k = r e.2 + 1 := e2
        rw [h']
        omega
    · have hk2 : k ∉ left := fun h => hn (rest_mem.mpr ⟨h, hfr⟩)
      have h3 := L.top k hk hk2
      rw [old _ hk2]
      omega
theorem lawRun_some {T : List Str} {es : List Ed} (hT : ∀ e ∈ es, e.1 ∈ T ∧ e.2 ∈ T) : ∀ (n : Nat) (left : List Str) (r r' : Str → Nat), Lev T es left r → left.length ≤ T.length → lawRun es n left r = some r' → Lev T es [] r'
  | n, [], r, r', L, _, h => by
    unfold lawRun at h
    cases h
    exact L
  | 0, k :: l, r, r', _, _, h => by
    unfold lawRun at h
    cases h
  | n + 1, k :: l, r, r', L, hl, h => by
    unfold lawRun at h
    by_cases hf : freeOf es (k :: l) = []
    · rw [if_pos hf] at h
      cases h
    · rw [if_neg hf] at h
      exact lawRun_some hT n _ _ _ (L.next hT hf (.inr trivial) hl) (by have := rest_lt hf; omega) h
/-- THE TWO WAYS tell the same -/
theorem ranks_same {T : List Str} {es : List Ed} {n : Nat} (hT : ∀ e ∈ es, e.1 ∈ T ∧ e.2 ∈ T) (hn : T.length ≤ n) : ranksL T es = ranksP T es n := by
  unfold ranksL
  cases h : lawRun es T.length T fun _ => 0 with
  | none =>
    obtain ⟨l, hl, hc⟩ := lawRun_none _ _ _ (Nat.le_refl _) h
    rw [ranksP_none hl hc]
    rfl
  | some r =>
    have L := lawRun_some hT _ _ _ _ (show Lev T es T fun _ => 0 from ⟨fun _ h => h, fun k hk hn => absurd hk hn, fun k hk hn => absurd hk hn, fun k hk hn => absurd hk hn⟩) (Nat.le_refl _) h
    have R : IsRank T es r := ⟨fun e he => (L.out e.1 (hT e he).1 (by simp) e he rfl).2, fun k hk => L.why k hk (by simp)⟩
    rw [ranksP_of R hT fun k hk => by have := L.top k hk (by simp); omega]
    rfl
end Ls
namespace Ls
open PySem PySem.Spec PyProof.Rows L2
/-! ### a dict of texts and numbers, as a list of keys and a way to reckon the number -/
def tabV (T : List Str) (f : Str → Nat) : List (Key × V) := T.map fun k => (Sum.inr k, V.int ((f k : Nat) : Int))
theorem tabV_len (T : List Str) (f : Str → Nat) : (tabV T f).length = T.length := by unfold tabV; rw [List.length_map]
theorem tabV_val : ∀ {T : List Str} {f : Str → Nat} {z : Str}, z ∈ T → valV (tabV T f) (Sum.inr z) = some (V.int ((f z : Nat) : Int))
  | k :: T, f, z, h => by
    unfold tabV
    rw [List.map_cons]
    by_cases e : k = z
    · rw [valV_pos (show (Sum.inr k : Key) = Sum.inr z by rw [e]), e]
    · rw [valV_neg (fun h => e (Sum.inr.inj h))]
      exact tabV_val (List.mem_of_ne_of_mem (fun h => e h.symm) h)
theorem tabV_no : ∀ {T : List Str} {f : Str → Nat} {z : Str}, z ∉ T → valV (tabV T f) (Sum.inr z) = none
  | [], _, _, _ => rfl
  | k :: T, f, z, h => by
    unfold tabV
    rw [List.map_cons, valV_neg (fun e => h (by rw [Sum.inr.inj e]; exact .head _))]
    exact tabV_no (fun h2 => h (.tail _ h2))
theorem tabV_put {T : List Str} {f : Str → Nat} {z : Str} (h : z ∈ T) (m : Nat) : putK (tabV T f) (Sum.inr z) (V.int ((m : Nat) : Int)) = tabV T (fun y => if y = z then m else f y) := by
  unfold putK
  rw [valV_any, tabV_val h]
  simp only [Option.isSome_some, if_true]
  unfold tabV
  rw [List.map_map]
  refine List.map_congr_left fun y _ => ?_
  show (if (Sum.inr y : Key) = Sum.inr z then _ else _) = _
  by_cases e : y = z
  · subst e
    rw [if_pos rfl]
    show _ = (Sum.inr y, V.int (((if y = y then m else f y : Nat)) : Int))
    rw [if_pos rfl]
  · rw [if_neg (fun h => e (Sum.inr.inj h))]
    show _ = (Sum.inr y, V.int (((if y = z then m else f y : Nat)) : Int))
    rw [if_neg e]
theorem tabV_new {T : List Str} {f : Str → Nat} {z : Str} (h : z ∉ T) {m : Nat} (hm : f z = m) : putK (tabV T f) (Sum.inr z) (V.int ((m : Nat) : Int)) = tabV (T ++ [z]) f := by
  rw [putK_new _ (tabV_no h), ← hm]
  unfold tabV
  rw [List.map_append]
  rfl
/-- a dict comprehension over anything that is walked -/
theorem dc_walk {J : It} {n : Nat} {G : Hp → Prop} {Y : Nat → Hp → V → Hp → Prop} (w : Walk J n G Y) {g : TG} {tt : TT} {tk tv : TE} {vs : List Nat} {σ : L2.St} {H1 : Hp} {D : Addr} {Qd : Hp → Prop} (Pv : Nat → Hp → Prop) (h0 : Pv 0 (upd H1 D (.dK []))) (hl : ∀ i H, i ≤ n → Pv i H → G H)
    (hs : ∀ i x H H', i < n → Pv i H → Y i H x H' → g x (wipe σ vs) H' fun σ2 H2 => wipe σ2 vs = wipe σ vs ∧ tt σ2 H2 fun b H3 =>
      if b = true then tk σ2 H3 fun y H4 => tv σ2 H4 fun z H5 => ∃ kvs k, y = kV k ∧ H5 D = some (.dK kvs) ∧ kvs.length < sizeLine ∧ Pv (i + 1) (upd H5 D (.dK (putK kvs k z))) else Pv (i + 1) H3) (hd : ∀ H, Pv n H → Qd H) :
    ∃ W : Nat → Nat → Hp → Prop, (∃ m, W 0 m (upd H1 D (.dK []))) ∧ ∀ i m H, W i m H →
      (J.stop i H ∧ Qd H) ∨ (J.go i H ∧ ∃ Nx : Hp → Prop, (∀ H', Nx H' → ∃ m', m' < m ∧ W (i + 1) m' H') ∧ ∀ x H', J.yld i H x H' → g x (wipe σ vs) H' fun σ2 H2 => wipe σ2 vs = wipe σ vs ∧ tt σ2 H2 fun b H3 =>
        if b = true then tk σ2 H3 fun y H4 => tv σ2 H4 fun z H5 => ∃ kvs k, y = kV k ∧ H5 D = some (.dK kvs) ∧ kvs.length < sizeLine ∧ Nx (upd H5 D (.dK (putK kvs k z))) else Nx H3) := by
  refine ⟨fun i m H => m = n - i ∧ i ≤ n ∧ Pv i H, ⟨n, by simp, Nat.zero_le _, h0⟩, ?_⟩
  rintro i m H ⟨rfl, hi, p⟩
  have q := hl i H hi p
  by_cases hlt : i < n
  · exact .inr ⟨w.goes i H hlt q, Pv (i + 1), fun H' p' => ⟨n - (i + 1), by omega, rfl, hlt, p'⟩, fun x H' y => hs i x H H' hlt p (w.yields i H x H' hlt q y)⟩
  · have e : i = n := by omega
    subst e
    exact .inl ⟨w.stops H q, hd H p⟩
end Ls
namespace Ls
open PySem PySem.Spec PyProof.Rows L2
/-! ### a field where the context is bound -/
theorem pe_fldK {X : Cx} (K : PySem.W.Frag) {e : Expr} {f : Str} {pos : Pos} {ta : TE} (he : PE X e ta) (hb : attributeBase e f X.env (eval e X.env) = eval e X.env) (h : X.K = K := by rfl) : PE X (.Attribute e f pos) (tFld K ta f) := by subst h; exact pe_fld he hb
end Ls
namespace Ls
open PySem PySem.Spec PyProof.Rows L2
/-! ### a list of any things, compared with an empty list -/
def rNeE (K : PySem.W.Frag) : R2 := fun x y H Q => ∃ (a b : Addr) (xs : List V), x = .ref a ∧ y = .ref b ∧ SqL K H a xs ∧ SqL K H b [] ∧ Q (.bl (!xs.isEmpty)) H
theorem op_neE {X : Cx} (hu : X.A.units + 64 < cLine) : OpR X (compareOp .NotEq) (rNeE X.K) := by
  intro pins s σ H x y v u Q I rx ry h
  obtain ⟨a, b, xs, rfl, rfl, ha, hb, q⟩ := h
  cases rx
  cases ry
  obtain ⟨its, rv, p, hz⟩ := I.list ha
  obtain ⟨its2, rv2, p2, hz2⟩ := I.list hb
  cases rv2
  have hc : X.A.units < cLine := by omega
  cases xs with
  | nil =>
    cases rv
    have h1 := SeqAt.RcNeAt.lists (A := X.A) (s := s) (e := fun _ => true) p.isList p2.isList rfl hc (fun j h1 _ => absurd h1 (by simp))
    exact h1 X.prog X.w X.xe _ ⟨.bl _, H, I, rfl, q⟩
  | cons z r =>
    have hl : its.length ≠ 0 := by rw [← rv.length]; simp
    have h1 := SeqAt.RcNeAt.lists_lengths (A := X.A) (s := s) p.isList p2.isList (by simpa using hl) hc
    exact h1 X.prog X.w X.xe _ ⟨.bl _, H, I, rfl, q⟩
theorem neE {X : Cx} (K : PySem.W.Frag) {k : Nat} (hr : Room k X.A) (h : X.K = K := by rfl) : OpR X (compareOp .NotEq) (rNeE K) := by subst h; exact op_neE hr.units
/-! ### methods of built-in types where the context is bound -/
section
variable {X : Cx} {o e : Expr} {es : List Expr} {to : TE} {t : TA} {name : Str} {apos cpos : Pos} {T id : String} {r : V → List V → Hp → VK → Prop}
theorem pe_bm0K (K : PySem.W.Frag) (pa : PlainAttrs T) (slot : Slot T name id) (hty : typeOf (.builtin id) = pure (.type "method_descriptor")) (hm : MtM X id r) (ho : PE X o to) (hK : X.K = K := by rfl)
    (hbase : attributeBase o name X.env (eval o X.env) = eval o X.env := by rfl) (hline : (apos.endLine == cpos.line) = true := by rfl) : PE X (.Call (.Attribute o name apos) [] [] cpos) (tBM0 K T r to) := by
  subst hK
  exact pe_bm0 pa slot hty hm ho hbase hline
theorem pe_bmK (K : PySem.W.Frag) (pa : PlainAttrs T) (slot : Slot T name id) (hty : typeOf (.builtin id) = pure (.type "method_descriptor")) (hm : MtM X id r) (ho : PE X o to) (ha : PA X (e :: es) t) (hK : X.K = K := by rfl)
    (hbase : attributeBase o name X.env (eval o X.env) = eval o X.env := by rfl)
    (hfew : ((backTo cpos (starEach (e :: es) X.env)).all (fun x => !x.1) && (backToKw cpos (keywordEach [] X.env)).all (fun x => x.1.isSome)
      && decide ((e :: es).length + ([] : List Keyword).length + (if ([] : List Keyword).isEmpty then 0 else 1) < 30)) = true := by rfl)
    (hline : (apos.endLine == cpos.line) = true := by rfl) (hs : starEach (e :: es) X.env = (false, eval e X.env) :: starEach es X.env := by rfl) (hplain : (backTo cpos (starEach es X.env)).any (·.1) = false := by rfl) :
    PE X (.Call (.Attribute o name apos) (e :: es) [] cpos) (tBM K T r to t) := by
  subst hK
  exact pe_bm pa slot hty hm ho ha hbase hfew hline hs hplain
end
end Ls
namespace Ls
open PySem PySem.Spec PyProof.Rows L2
/-! ### a list of any things, == an empty list -/
def rEqE (K : PySem.W.Frag) : R2 := fun x y H Q => ∃ (a b : Addr) (xs : List V), x = .ref a ∧ y = .ref b ∧ SqL K H a xs ∧ SqL K H b [] ∧ Q (.bl xs.isEmpty) H
theorem op_eqE {X : Cx} (hu : X.A.units + 64 < cLine) : OpR X (compareOp .Eq) (rEqE X.K) := by
  intro pins s σ H x y v u Q I rx ry h
  obtain ⟨a, b, xs, rfl, rfl, ha, hb, q⟩ := h
  cases rx
  cases ry
  obtain ⟨its, rv, p, hz⟩ := I.list ha
  obtain ⟨its2, rv2, p2, hz2⟩ := I.list hb
  cases rv2
  have hc : X.A.units < cLine := by omega
  cases xs with
  | nil =>
    cases rv
    have h1 := SeqAt.RcAt.lists (A := X.A) (s := s) (e := fun _ => true) p.isList p2.isList rfl hc (fun j h1 _ => absurd h1 (by simp))
    exact h1 X.prog X.w X.xe _ ⟨.bl _, H, I, rfl, q⟩
  | cons z r =>
    have hl : its.length ≠ 0 := by rw [← rv.length]; simp
    have h1 := SeqAt.RcAt.lists_lengths (A := X.A) (s := s) p.isList p2.isList (by simpa using hl) hc
    exact h1 X.prog X.w X.xe _ ⟨.bl _, H, I, rfl, q⟩
theorem eqE {X : Cx} (K : PySem.W.Frag) {k : Nat} (hr : Room k X.A) (h : X.K = K := by rfl) : OpR X (compareOp .Eq) (rEqE K) := by subst h; exact op_eqE hr.units
/-! ### rules that name K, for places where the context is bound -/
theorem slTK {X : Cx} (K : PySem.W.Frag) (h : X.K = K := by rfl) : SlR X (rSlT K) := by subst h; exact sl_tup
theorem pi_listK {X : Cx} (K : PySem.W.Frag) {tg l : Expr} {tl : TE} (hl : PE X l tl) (h : X.K = K := by rfl) : PI X tg l (iList K tl) := by subst h; exact pi_list hl
end Ls
namespace Ls
open PySem PySem.Spec PyProof.Rows L2
/-! ### short steps -/
local macro_rules | `(tactic| walk_at "ls_ne") => `(tactic| first | assumption | exact Ne.symm (by assumption) | exact ne_of_none (by assumption) (by assumption) | exact Ne.symm (ne_of_none (by assumption) (by assumption)))
local macro_rules | `(tactic| walk_at "ls_hp") => `(tactic| first
  | with_reducible assumption
  | exact upd_same
  | exact Eq.trans (upd_ne (by walk_at "ls_ne")) (by walk_at "ls_hp"))
local macro_rules | `(tactic| walk_at "ls_st") => `(tactic| first
  | with_reducible assumption
  | exact Stm.upd (by walk_at "ls_st") (by first | walk_at "ls_ne" | exact (Stm.noneS (by assumption) (by assumption)).1) (by first | walk_at "ls_ne" | exact (Stm.noneS (by assumption) (by assumption)).2))
local macro_rules | `(tactic| walk_at "ls1") => `(tactic| first
  | refine ⟨_, rfl, ?_⟩
  | refine ⟨_, _, rfl, rfl, ?_⟩
  | refine ⟨_, _, _, _, rfl, rfl, .inl (.inl (by walk_at "ls_hp")), rfl, ?_⟩
  | refine ⟨_, _, _, _, rfl, rfl, (by walk_at "ls_hp"), rfl, ?_⟩
  | refine ⟨rfl, _, rfl, ?_⟩
  | refine ⟨.inl ⟨rfl, _, .inl (.inl (by walk_at "ls_hp"))⟩, ?_⟩)
local macro_rules | `(tactic| walk_at "ls") => `(tactic| repeat (walk_at "ls1"))

/-- more built-in names that are called -/
structure Bt2 (mg : Str → Option Value) : Prop where
  m_enumerate : mg "enumerate" = none
  m_zip : mg "zip" = none
theorem slA_to {K : PySem.W.Frag} {lo hi : Option Int} {H : Hp} {Q : VK} (a : Addr) (xs : List V) (h : SqT K H a xs) (hq : ∀ a' H', Same H H' → SqT K H' a' (cutV xs lo hi) → Q (.ref a') H') : rSlA K (.ref a) lo hi H Q := by
  refine ⟨a, xs, rfl, h, fun w => ?_, fun _ p hp => hq p _ (same_new hp) (.inl (.inl upd_same))⟩
  refine hq a H (Same.refl H) ?_
  have e : cutV xs lo hi = xs := by
    unfold cutV
    rw [w.1, w.2, List.drop_zero, List.take_of_length_le (by omega)]
  rw [e]
  exact h
theorem cut_dropN (xs : List V) (i : Nat) (h : i ≤ xs.length) : cutV xs (some (i : Int)) none = xs.drop i := by
  unfold cutV
  rw [HT.sIx_nat, HT.sIx_none, Nat.min_eq_left h, List.take_of_length_le (by rw [List.length_drop]; omega)]
theorem fm_somes {α β : Type} (h : α → β) : ∀ l : List α, l.filterMap (fun c => some (h c)) = l.map h
  | [] => rfl
  | a :: l => by rw [List.filterMap_cons, List.map_cons, fm_somes h l]
/-! ### the checks of a watch, as a dict -/
theorem qk_nd {α : Type} {l : List α} (h : l.Nodup) {i : Nat} {z : α} (hz : l[i]? = some z) : z ∉ l.take i := by
  induction l generalizing i with
  | nil => cases i <;> cases hz
  | cons a l ih =>
    cases i with
    | zero => simp
    | succ i =>
      rw [List.take_succ_cons]
      obtain ⟨h1, h2⟩ := List.nodup_cons.mp h
      intro hm
      rcases List.mem_cons.mp hm with e | e
      · subst e
        exact h1 (List.mem_of_getElem? (show l[i]? = some z from hz))
      · exact ih h2 hz e
theorem qk_snoc {α : Type} {l : List α} {i : Nat} {z : α} (hz : l[i]? = some z) : l.take (i + 1) = l.take i ++ [z] := by rw [List.take_add_one, hz]; rfl
def allQ (c h g : Str) : List (Str × Str) := (((colW.map fun w : Str => ((w, w ++ " " ++ c) : Str × Str)) ++ kindW.map fun w : Str => ((w ++ " goal", w ++ " " ++ g) : Str × Str)) ++ [(("again home", "again " ++ h) : Str × Str)]) ++ bookW.map fun w : Str => ((w, w) : Str × Str)
def keysQ : List Str := ["put", "turn", "keep", "hold", "again", "bare goal", "calm goal", "again goal", "again home", "lone", "fresh"]
theorem keysQ_nd : keysQ.Nodup := by decide +kernel
theorem keysQ_eq (c h g : Str) : (allQ c h g).map (·.1) = keysQ := by
  show [_, _, _, _, _, _, _, _, _, _, _] = keysQ
  unfold keysQ
  congr 1
def hasQ (ck : List Str) (qs : List (Str × Str)) : List (Key × V) := qs.map fun q => (Sum.inr q.1, V.bl (decide (q.2 ∈ ck)))
theorem hasQ_len (ck : List Str) (qs : List (Str × Str)) : (hasQ ck qs).length = qs.length := by unfold hasQ; rw [List.length_map]
theorem hasQ_no {ck : List Str} {z : Str} : ∀ {qs : List (Str × Str)}, z ∉ qs.map (·.1) → valV (hasQ ck qs) (Sum.inr z) = none
  | [], _ => rfl
  | q :: qs, h => by
    unfold hasQ
    rw [List.map_cons, valV_neg (show ¬ (Sum.inr q.1 : Key) = Sum.inr z from fun e => h (by rw [List.map_cons, Sum.inr.inj e]; exact .head _))]
    exact hasQ_no fun h2 => h (.tail _ h2)
theorem hasQ_step {ck : List Str} {c h g : Str} {i : Nat} {q : Str × Str} (e : (allQ c h g)[i]? = some q) : putK (hasQ ck ((allQ c h g).take i)) (Sum.inr q.1) (V.bl (decide (q.2 ∈ ck))) = hasQ ck ((allQ c h g).take (i + 1)) := by
  have hn : q.1 ∉ ((allQ c h g).take i).map (·.1) := by
    rw [List.map_take, keysQ_eq]
    exact qk_nd keysQ_nd (by rw [← keysQ_eq c h g, List.getElem?_map, e]; rfl)
  rw [putK_new _ (hasQ_no hn), qk_snoc e]
  unfold hasQ
  rw [List.map_append]
  rfl
theorem col_at (c h g : Str) : ∀ (j : Nat) (w : Str), colW[j]? = some w → (allQ c h g)[j]? = some (w, w ++ " " ++ c)
  | 0, _, rfl => rfl
  | 1, _, rfl => rfl
  | 2, _, rfl => rfl
  | 3, _, rfl => rfl
  | 4, _, rfl => rfl
theorem kind_at (c h g : Str) : ∀ (j : Nat) (w : Str), kindW[j]? = some w → (allQ c h g)[5 + j]? = some (w ++ " goal", w ++ " " ++ g)
  | 0, _, rfl => rfl
  | 1, _, rfl => rfl
  | 2, _, rfl => rfl
theorem book_at (c h g : Str) : ∀ (j : Nat) (w : Str), bookW[j]? = some w → (allQ c h g)[9 + j]? = some (w, w)
  | 0, _, rfl => rfl
  | 1, _, rfl => rfl
theorem qw_ok : ∀ w ∈ colW ++ kindW ++ bookW, okB 5 w = true := by decide +kernel
theorem ask_ok {u c : Str} (hu : okB 5 u = true) (nc : Nm c) : okB 100 (u ++ " " ++ c) = true := okB_mono (okB_append (okB_append hu (show okB 1 " " = true by decide +kernel)) (nm_ok nc)) (by decide)
/-! ### what a watch is made with -/
def listsTo (ls : List Str) (n : Nat) : List Str := "" :: (List.range n).flatMap fun i => (ls.getD i "") :: (ls.drop i).map fun o => (ls.getD i "") ++ o
def listsOf (ls : List Str) : List Str := listsTo ls ls.length
theorem listsTo_succ {ls : List Str} {i : Nat} (h : i < ls.length) : listsTo ls (i + 1) = (listsTo ls i ++ [ls[i]]) ++ (ls.drop i).map fun o => ls[i] ++ o := by
  unfold listsTo
  rw [List.range_succ, List.flatMap_append]
  simp [List.getD_eq_getElem?_getD, List.getElem?_eq_getElem h]
theorem listsTo_len (ls : List Str) (h : ls.length ≤ 3) : ∀ {i : Nat}, i ≤ ls.length → (listsTo ls i).length ≤ 1 + 4 * i
  | 0, _ => by simp [listsTo]
  | i + 1, hi => by
    have ih := listsTo_len ls h (i := i) (by omega)
    rw [listsTo_succ (by omega), List.length_append, List.length_append, List.length_map, List.length_drop]
    show _ + 1 + _ ≤ _
    omega
section
variable {P : Program} {w : World} {K : PySem.W.Frag} {mg : Str → Option Value} {base : Heap}
abbrev s__lists_of : Stmt := topS 42
theorem sc__lists_of : FnScope ["letters", "found", "at", "letter", "other"] ["letters"] (defScope s__lists_of) := ⟨rfl, rfl, rfl, by decide +kernel, rfl, by decide +kernel, by decide +kernel⟩
abbrev N__lists_of : List Str := ["letters", "found", "at", "letter", "other"]
def spListsOf (K : PySem.W.Frag) : Sp := fun vs H Q _ => ∃ (t : Addr) (ls : List Str), vs = [.ref t] ∧ SqT K H t (ls.map V.str) ∧ ls.length ≤ 3 ∧ (∀ z ∈ ls, z.length ≤ 1) ∧ ∀ (H' : Hp) (p : Addr), H p = none → H' p = some (.tup ((listsOf ls).map V.str)) → Same H H' → Q (.ref p) H'
theorem ok_listsOf {f : Addr} {fd : FuncData} (F : Fun K "_lists_of" "_lists_of" s__lists_of f fd) (T : Bt mg) (T2 : Bt2 mg) : FnOk P w K mg base CX0 1 f fd ["letters"] (spListsOf K) := by
  refine F.ok sc__lists_of (fun vs H Q E h => ?_) (fun cdv A outer s H vs Q E hr h => ?_)
  · obtain ⟨t, ls, rfl, _⟩ := h
    rfl
  · obtain ⟨t, ls, rfl, ht, ll, lz, q⟩ := h
    have hu := hu_of hr
    refine ⟨_, (pss_cons (ps_set (i := 1) sc__lists_of.nd rfl (Or.inl rfl) (pe_lst (pa_cons pe_str pa_nil)))
      (pss_cons (ps_for PassesOwn.never rfl (pi_enumT K (by rfl) T2.m_enumerate (pa_cons (pv 0) pa_nil)) (pg_tup rfl (pgs_cons (pg_name (i := 2) sc__lists_of.nd rfl (Or.inl rfl)) (pgs_cons (pg_name (i := 3) sc__lists_of.nd rfl (Or.inr rfl)) pgs_nil))) (pss_cons (ps_expr (pe_bm PySem.F.plainAttrs_list PySem.F.slot_list_append PySem.F.type_list_append mt_append (pv 1) (pa_cons (pv 3) pa_nil)))
      (pss_one (ps_expr (pe_bm PySem.F.plainAttrs_list PySem.F.slot_list_extend PySem.F.type_list_extend mt_extend (pv 1) (pa_cons (pe_lc (own := [("other", 4)]) (g := gName 4) (by rfl) sc__lists_of.nd (pi_tup (pe_slice sl_tupA (pv 0) (po_some (pv 2)) po_none)) (blkOk_by (own := [("other", 4)]) (N := N__lists_of) (sc := defScope s__lists_of) (by decide +kernel)) (fun _ _ _ _ _ => (pg_name (i := 4) sc__lists_of.nd rfl (Or.inl rfl) (Or.inr rfl))) (fun _ _ _ _ _ => pts_nil) (fun _ _ _ _ _ => (pe_op op_add_str (pv 3) (pv 4)))) pa_nil))))))
      (pss_one (ps_ret (pe_callTy (tuple_of K) (by rfl) T.m_tuple (by decide +kernel) (pa_cons (pv 1) pa_nil)))))), ?_⟩
    refine ⟨(by show 1 ≤ sizeLine; decide), fun p hp => ?_⟩
    have s0 := same_new (o := .lst [.str ""]) hp
    refine ⟨_, rfl, t, _, rfl, Stays.sqT s0 ht, ?_⟩
    refine for_it (walk_enumT (xs := ls.map V.str)) (fun i σ H1 => ∃ v2 v3 v4 : Option V, σ = [some (.ref t), some (.ref p), v2, v3, v4] ∧ H1 p = some (.lst ((listsTo ls i).map V.str)) ∧ Same H H1) ⟨none, none, none, rfl, upd_same, s0⟩ (fun i σ H1 _ ⟨_, _, _, _, _, s⟩ => Stays.sqT s ht) ?_ ?_
    · rintro i x σ Hz H1 hi ⟨v2, v3, v4, rfl, h1, s1⟩ ⟨T0, ia, ib, rfl, hT, rfl, ha, hb⟩
      cases ha
      rw [List.length_map] at hi
      have hb2 : ls[i]? = some ls[i] := List.getElem?_eq_getElem hi
      have hb : (ls.map V.str)[i]? = some ib := hb
      rw [List.getElem?_map, hb2] at hb
      cases hb
      have sT := same_new (o := .tup [.int (i : Nat), .str ls[i]]) hT
      refine ⟨T0, _, rfl, .inl (.inl upd_same), rfl, _, _, rfl, _, _, rfl, rfl, ?_⟩
      have s2 := s1.trans sT
      have h2 := sT _ _ h1
      generalize upd Hz T0 (.tup [.int (i : Nat), .str ls[i]]) = H2 at *
      have ll2 : (listsTo ls i).length ≤ 20 := Nat.le_trans (listsTo_len ls ll (Nat.le_of_lt hi)) (by omega)
      walk_at "ls"
      refine ⟨p, _, _, rfl, rfl, h2, by rw [List.length_map]; exact small1000 (by omega), ?_⟩
      have e3 : (listsTo ls i).map V.str ++ [V.str ls[i]] = (listsTo ls i ++ [ls[i]]).map V.str := by rw [List.map_append]; rfl
      rw [e3]
      have s3 : Same H (upd H2 p (.lst ((listsTo ls i ++ [ls[i]]).map V.str))) := Same.set s2 hp
      have h3 : (upd H2 p (.lst ((listsTo ls i ++ [ls[i]]).map V.str))) p = some (.lst ((listsTo ls i ++ [ls[i]]).map V.str)) := upd_same
      generalize upd H2 p (.lst ((listsTo ls i ++ [ls[i]]).map V.str)) = H3 at *
      walk_at "ls"
      dsimp only [tNoPart]
      refine slA_to t (ls.map V.str) (Stays.sqT s3 ht) fun a4 H4 s4 h4 => ?_
      rw [cut_dropN _ _ (by rw [List.length_map]; exact Nat.le_of_lt hi), ← List.map_drop] at h4
      refine ⟨a4, rfl, ⟨_, h4⟩, fun D hD => ?_⟩
      have lzd : (ls.drop i).length < sizeLine := Nat.lt_of_le_of_lt (show _ ≤ 3 by rw [List.length_drop]; omega) (by decide)
      refine lc_rows (walk_tup (xs := (ls.drop i).map V.str)) ((ls.drop i).map V.str) (ls.drop i) (fun o => some (V.str (ls[i] ++ o))) (by rw [List.length_map]) (fun i H x H' hi hy => hy) (by rw [List.length_map]; exact lzd) (fun acc => Stays.sqT (same_new hD) h4) (fun j y z hj hyj hz => ?_) ?_
      · rw [List.getElem?_map, hz] at hyj
        cases hyj
        rw [List.length_map] at hj
        refine ⟨rfl, ?_⟩
        walk_at "ls"
        have l1 := lz _ (List.getElem_mem hi)
        have l2 := lz z (List.mem_of_mem_drop (List.mem_of_getElem? hz))
        refine ⟨room_str l1 l2 (by decide), ?_⟩
        exact lr_yes hz hj lzd rfl
      rw [fm_somes (fun o => V.str (ls[i] ++ o)) (ls.drop i)]
      have s5 := same_new (o := .lst ((ls.drop i).map fun o => V.str (ls[i] ++ o))) hD
      refine ⟨p, D, _, _, rfl, rfl, s5 _ _ (s4 _ _ h3), upd_same, ?_, ?_⟩
      · rw [List.length_map, List.length_append, List.length_map, List.length_drop]
        exact Nat.le_trans (show _ ≤ 1000 by show _ + 1 + _ ≤ 1000; omega) (by decide)
      · refine ⟨_, _, _, rfl, ?_, Same.set ((s3.trans s4).trans s5) hp⟩
        rw [upd_same, listsTo_succ hi, List.map_append (l₂ := (ls.drop i).map _), List.map_map]
        rfl
    · rintro σ H1 ⟨v2, v3, v4, rfl, h1, s1⟩
      walk_at "ls"
      refine ⟨p, _, rfl, .inl ⟨.inl (.inl h1), fun l hl => ?_⟩⟩
      rw [List.length_map, show listsTo ls ls.length = listsOf ls from rfl] at *
      exact q _ l (s1.free hl) upd_same (s1.trans (same_new hl))
abbrev s__checks_at : Stmt := topS 41
theorem sc__checks_at : FnScope ["book", "column", "home", "goal", "word", "has"] ["book", "column", "home", "goal"] (defScope s__checks_at) := ⟨rfl, rfl, rfl, by decide +kernel, rfl, by decide +kernel, by decide +kernel⟩
abbrev N__checks_at : List Str := ["book", "column", "home", "goal", "word", "has"]
def spChecksAt (C : Addr) : Sp := fun vs H Q _ => ∃ (o : Addr) (B : Shp) (ck : List Str) (c h g : Str), vs = [.ref o, .str c, .str h, .str g] ∧ BookS C H o B ck ∧ Nm c ∧ Nm h ∧ Nm g ∧
  ∀ (H' : Hp) (p : Addr), H p = none → H' p = some (.dK (hasQ ck (allQ c h g))) → Same H H' → Q (.ref p) H'
theorem ok_checksAt {C : Addr} {aR aC aK aB : Addr} {tS tL tN : Tok} {f : Addr} {fd : FuncData} (F : Fun K "_checks_at" "_checks_at" s__checks_at f fd) (G : Gn K mg aR aC aK aB tS tL tN) (O_Book_contains : OwnM P w K mg base CX0 2 C "__contains__" ["self", "check"] (spHasB K C)) :
    FnOk P w K mg base CX0 3 f fd ["book", "column", "home", "goal"] (spChecksAt C) := by
  refine F.ok sc__checks_at (fun vs H Q E h => ?_) (fun cdv A outer s H vs Q E hr h => ?_)
  · obtain ⟨o, B, ck, c, h, g, rfl, _⟩ := h
    rfl
  · obtain ⟨o, B, ck, c, h, g, rfl, hb, nc, nh, ng, q⟩ := h
    have hu := hu_of hr
    refine ⟨_, (pss_cons (ps_setDc (i := 5) (own := [("word", 4)]) (g := gName 4) (by rfl) sc__checks_at.nd rfl rfl (swD rfl rfl rfl (by decide +kernel)) (pi_tup (glob_ref G.COLUMN_CHECKS)) (blkOk_by (own := [("word", 4)]) (N := N__checks_at) (sc := defScope s__checks_at) (by decide +kernel)) (fun _ _ _ _ _ => (pg_name (i := 4) sc__checks_at.nd rfl (Or.inl rfl) (Or.inr rfl))) (fun _ _ _ _ _ => pts_nil) (fun _ _ _ _ _ => (pv 4)) (fun _ _ _ _ _ => (pe_cmpR (op_inO O_Book_contains hr (by first | decide | omega)) (pe_op op_add_str (pe_op op_add_str (pv 4) pe_str) (pv 1)) (pv 0) (by rfl))))
      (pss_cons (ps_for PassesOwn.never rfl (pi_tup (glob_ref G.KIND_CHECKS)) (pg_name (i := 4) sc__checks_at.nd rfl (Or.inl rfl)) (pss_one (ps_dput hu (pv 5) (pe_op op_add_str (pv 4) pe_str) (pe_cmpR (op_inO O_Book_contains hr (by first | decide | omega)) (pe_op op_add_str (pe_op op_add_str (pv 4) pe_str) (pv 3)) (pv 0) (by rfl)) rfl)))
      (pss_cons (ps_dput hu (pv 5) pe_str (pe_cmpR (op_inO O_Book_contains hr (by first | decide | omega)) (pe_op op_add_str pe_str (pv 2)) (pv 0) (by rfl)) rfl)
      (pss_cons (ps_for PassesOwn.never rfl (pi_tup (glob_ref G.BOOK_CHECKS)) (pg_name (i := 4) sc__checks_at.nd rfl (Or.inl rfl)) (pss_one (ps_dput hu (pv 5) (pv 4) (pe_cmpR (op_inO O_Book_contains hr (by first | decide | omega)) (pv 4) (pv 0) (by rfl)) rfl)))
      (pss_one (ps_ret (pv 5))))))), ?_⟩
    obtain ⟨dx, kk, c0, m0, x0, ho⟩ := hb.ins
    walk_at "ls"
    refine ⟨⟨_, G.kCOL.sq _⟩, fun D hD => ?_⟩
    have sD : ∀ n, Same H (upd H D (.dK (hasQ ck ((allQ c h g).take n)))) := fun n => same_new hD
    have room : ∀ n, n < 11 → (hasQ ck ((allQ c h g).take n)).length < sizeLine := fun n hn => Nat.lt_of_le_of_lt (show _ ≤ 11 by rw [hasQ_len, List.length_take]; omega) (by decide)
    have put : ∀ n {q : Str × Str}, n < 11 → (allQ c h g)[n]? = some q → DPut (upd H D (.dK (hasQ ck ((allQ c h g).take n)))) D (.str q.1) (.bl (decide (q.2 ∈ ck))) (upd H D (.dK (hasQ ck ((allQ c h g).take (n + 1))))) := fun n q hn e => by
      have z := DPut.k (k := .inr q.1) (v := .bl (decide (q.2 ∈ ck))) (upd_same : (upd H D (.dK (hasQ ck ((allQ c h g).take n)))) D = _) (room n hn)
      rw [upd_upd, hasQ_step e] at z
      exact z
    refine dc_walk (walk_tup (xs := colW.map V.str)) (fun i H3 => H3 = upd H D (.dK (hasQ ck ((allQ c h g).take i)))) rfl (fun i H3 _ e => G.kCOL.sq _) ?_ ?_
    · rintro i y H3 H3' hi rfl ⟨rfl, hy⟩
      rw [List.getElem?_map] at hy
      obtain ⟨z, hz, rfl⟩ := Option.map_eq_some_iff.mp hy
      have hi5 : i < 5 := hi
      have oz : okB 5 z = true := qw_ok z (List.mem_append_left _ (List.mem_append_left _ (List.mem_of_getElem? hz)))
      refine ⟨rfl, ?_⟩
      walk_at "ls"
      refine ⟨room_str (n := 5) (m := 1) (okB_len oz) (by decide +kernel) (by decide), ?_⟩
      walk_at "ls"
      refine ⟨room_str (n := 6) (m := 8) (okB_len (okB_append oz (show okB 1 " " = true by decide +kernel))) nc.1.2.1 (by decide), ?_⟩
      walk_at "ls"
      refine ⟨o, dx, _, rfl, sD i _ _ ho, ?_⟩
      refine ⟨o, _, B, ck, rfl, hb.same (sD i), .inl ⟨_, rfl, Nat.le_trans (okB_len (ask_ok oz nc)) (by decide)⟩, _, rfl, ?_⟩
      refine ⟨hasQ ck ((allQ c h g).take i), .inr z, rfl, upd_same, room i (by omega), ?_⟩
      rw [upd_upd]
      exact congrArg (fun l => upd H D (.dK l)) (hasQ_step (col_at c h g i z hz))
    · rintro H3 e3
      have e4 : H3 = upd H D (.dK (hasQ ck ((allQ c h g).take 5))) := e3
      subst e4
      walk_at "ls"
      refine ⟨⟨_, G.kKIND.sq _⟩, ?_⟩
      refine for_it (walk_tup (xs := kindW.map V.str)) (fun i σ H3 => ∃ v4 : Option V, σ = [some (.ref o), some (.str c), some (.str h), some (.str g), v4, some (.ref D)] ∧ H3 = upd H D (.dK (hasQ ck ((allQ c h g).take (5 + i))))) ⟨none, rfl, rfl⟩ (fun i σ H3 _ _ => G.kKIND.sq _) ?_ ?_
      · rintro i y σ Hz H3 hi ⟨v4, rfl, rfl⟩ ⟨rfl, hy⟩
        rw [List.getElem?_map] at hy
        obtain ⟨z, hz, rfl⟩ := Option.map_eq_some_iff.mp hy
        have hi3 : i < 3 := hi
        have oz : okB 5 z = true := qw_ok z (List.mem_append_left _ (List.mem_append_right _ (List.mem_of_getElem? hz)))
        walk_at "ls"
        refine ⟨room_str (n := 5) (m := 1) (okB_len oz) (by decide +kernel) (by decide), ?_⟩
        walk_at "ls"
        refine ⟨room_str (n := 6) (m := 8) (okB_len (okB_append oz (show okB 1 " " = true by decide +kernel))) ng.1.2.1 (by decide), ?_⟩
        walk_at "ls"
        refine ⟨o, dx, _, rfl, sD (5 + i) _ _ ho, ?_⟩
        refine ⟨o, _, B, ck, rfl, hb.same (sD (5 + i)), .inl ⟨_, rfl, Nat.le_trans (okB_len (ask_ok oz ng)) (by decide)⟩, ?_⟩
        walk_at "ls"
        refine ⟨room_str (n := 5) (m := 5) (okB_len oz) (by decide +kernel) (by decide), ?_⟩
        exact ⟨D, _, rfl, put (5 + i) (by omega) (kind_at c h g i z hz), ⟨_, rfl, rfl⟩⟩
      · rintro σ H3 ⟨v4, rfl, e3⟩
        have e4 : H3 = upd H D (.dK (hasQ ck ((allQ c h g).take 8))) := e3
        subst e4
        have og : okB 100 ("again " ++ h) = true := okB_mono (okB_append (show okB 6 "again " = true by decide +kernel) (nm_ok nh)) (by decide)
        walk_at "ls"
        refine ⟨room_str (n := 6) (m := 8) (by decide +kernel) nh.1.2.1 (by decide), ?_⟩
        walk_at "ls"
        refine ⟨o, dx, _, rfl, sD 8 _ _ ho, ?_⟩
        refine ⟨o, _, B, ck, rfl, hb.same (sD 8), .inl ⟨_, rfl, Nat.le_trans (okB_len og) (by decide)⟩, ?_⟩
        walk_at "ls"
        refine ⟨D, _, rfl, put 8 (q := ("again home", "again " ++ h)) (by omega) rfl, ?_⟩
        walk_at "ls"
        refine ⟨⟨_, G.kBOOK.sq _⟩, ?_⟩
        refine for_it (walk_tup (xs := bookW.map V.str)) (fun i σ H3 => ∃ v4 : Option V, σ = [some (.ref o), some (.str c), some (.str h), some (.str g), v4, some (.ref D)] ∧ H3 = upd H D (.dK (hasQ ck ((allQ c h g).take (9 + i))))) ⟨v4, rfl, rfl⟩ (fun i σ H3 _ _ => G.kBOOK.sq _) ?_ ?_
        · rintro i y σ Hz H3 hi ⟨v4, rfl, rfl⟩ ⟨rfl, hy⟩
          rw [List.getElem?_map] at hy
          obtain ⟨z, hz, rfl⟩ := Option.map_eq_some_iff.mp hy
          have hi2 : i < 2 := hi
          have oz : okB 5 z = true := qw_ok z (List.mem_append_right _ (List.mem_of_getElem? hz))
          walk_at "ls"
          refine ⟨o, dx, _, rfl, sD (9 + i) _ _ ho, ?_⟩
          refine ⟨o, _, B, ck, rfl, hb.same (sD (9 + i)), .inl ⟨_, rfl, Nat.le_trans (okB_len oz) (by decide)⟩, ?_⟩
          walk_at "ls"
          exact ⟨D, _, rfl, put (9 + i) (by omega) (book_at c h g i z hz), ⟨_, rfl, rfl⟩⟩
        · rintro σ H3 ⟨v4, rfl, rfl⟩
          walk_at "ls"
          exact q _ D hD upd_same (sD 11)
end
end Ls
namespace Ls
open PySem PySem.Spec PyProof.Rows L2
/-! ### a dict that is made of pairs with other keys -/
theorem merge_new : ∀ (more acc : List (Key × V)), (more.map (·.1)).Nodup → (∀ p ∈ more, valV acc p.1 = none) → mergeK acc more = acc ++ more
  | [], acc, _, _ => by rw [List.append_nil]; rfl
  | p :: r, acc, h, n => by
    obtain ⟨h1, h2⟩ := List.nodup_cons.mp h
    have e : mergeK acc (p :: r) = mergeK (putK acc p.1 p.2) r := rfl
    have np := n p (.head _)
    rw [e, putK_new _ np, merge_new r _ h2 (fun q hq => ?_), List.append_assoc]
    · rfl
    · rw [valV_snoc _ _ _ _ np, if_neg (fun e2 : q.1 = p.1 => h1 (by have z := List.mem_map_of_mem (f := fun p : Key × V => p.1) hq; rw [e2] at z; exact z))]
      exact n q (.tail _ hq)
theorem merge_nd {l : List (Key × V)} (h : (l.map (·.1)).Nodup) : mergeK [] l = l := merge_new l [] h fun _ _ => rfl
/-- dict(pairs) inside a comprehension -/
theorem dict_of {X : Cx} (K : PySem.W.Frag) (h : X.K = K := by rfl) (hc : X.calm = true := by rfl) : CallR X (.type "dict") (fun xs H Q => ∃ (a : Addr) (ps : List Addr) (kvs : List (Key × V)), xs = [.ref a] ∧ SqL K H a (ps.map V.ref) ∧ Paired (fun p kv => SqT K H p [kV kv.1, kv.2]) ps kvs ∧ ∀ p, H p = none → Q (.ref p) (upd H p (.dK (mergeK [] kvs)))) := by
  subst h
  exact call_dictP hc
/-! ### an instance that gets its fields: what has been laid down beside it -/
structure Fld (o C dx : Addr) (H0 : Hp) (fs : List (Str × V)) (L : List (Addr × HO)) (H : Hp) : Prop where
  ins : H o = some (.ins C dx fs)
  but : ∀ b u, b ≠ o → H0 b = some u → H b = some u
  at_ : ∀ p ∈ L, H p.1 = some p.2
  nin : ∀ p ∈ L, ∀ C dx fs, p.2 ≠ .ins C dx fs
section
variable {o C dx : Addr} {H0 H H' : Hp} {fs : List (Str × V)} {L : List (Addr × HO)}
theorem Fld.start (h : H0 o = some (.ins C dx fs)) : Fld o C dx H0 fs [] H0 := ⟨h, (fun _ _ _ e => e), (fun _ m => nomatch m), (fun _ m => nomatch m)⟩
theorem Fld.same (f : Fld o C dx H0 fs L H) (s : Same H H') : Fld o C dx H0 fs L H' := ⟨s _ _ f.ins, fun b u n e => s _ _ (f.but b u n e), fun p m => s _ _ (f.at_ p m), f.nin⟩
theorem Fld.add (f : Fld o C dx H0 fs L H) {a : Addr} {x : HO} (h : H a = some x) (n : ∀ C dx fs, x ≠ .ins C dx fs) : Fld o C dx H0 fs ((a, x) :: L) H :=
  ⟨f.ins, f.but, fun p m => (List.mem_cons.mp m).elim (fun e => by rw [e]; exact h) (f.at_ p), fun p m => (List.mem_cons.mp m).elim (fun e => by rw [e]; exact n) (f.nin p)⟩
theorem Fld.new (f : Fld o C dx H0 fs L H) {a : Addr} {x : HO} (h : H a = none) (n : ∀ C dx fs, x ≠ .ins C dx fs) : Fld o C dx H0 fs ((a, x) :: L) (upd H a x) := (f.same (same_new h)).add upd_same n
theorem Fld.set (f : Fld o C dx H0 fs L H) {fs2 : List (Str × V)} : Fld o C dx H0 fs2 L (upd H o (.ins C dx fs2)) := by
  have ne : ∀ {b : Addr} {u : HO}, (∀ C dx fs, u ≠ .ins C dx fs) → H b = some u → b ≠ o := fun {b u} n e e2 => by
    rw [e2, f.ins] at e
    cases e
    exact n _ _ _ rfl
  exact ⟨upd_same, fun b u n e => by rw [upd_ne n]; exact f.but b u n e, fun p m => by rw [upd_ne (ne (f.nin p m) (f.at_ p m))]; exact f.at_ p m, f.nin⟩
end
end Ls
namespace Ls
open PySem PySem.Spec PyProof.Rows L2
/-! ### short steps -/
local macro_rules | `(tactic| walk_at "ls_ne") => `(tactic| first | assumption | exact Ne.symm (by assumption) | exact ne_of_none (by assumption) (by assumption) | exact Ne.symm (ne_of_none (by assumption) (by assumption)))
local macro_rules | `(tactic| walk_at "ls_hp") => `(tactic| first
  | with_reducible assumption
  | exact upd_same
  | exact Eq.trans (upd_ne (by walk_at "ls_ne")) (by walk_at "ls_hp"))
local macro_rules | `(tactic| walk_at "ls_st") => `(tactic| first
  | with_reducible assumption
  | exact Stm.upd (by walk_at "ls_st") (by first | walk_at "ls_ne" | exact (Stm.noneS (by assumption) (by assumption)).1) (by first | walk_at "ls_ne" | exact (Stm.noneS (by assumption) (by assumption)).2))
local macro_rules | `(tactic| walk_at "ls1") => `(tactic| first
  | refine ⟨_, rfl, ?_⟩
  | refine ⟨_, _, rfl, rfl, ?_⟩
  | refine ⟨_, _, _, _, rfl, rfl, .inl (.inl (by walk_at "ls_hp")), rfl, ?_⟩
  | refine ⟨_, _, _, _, rfl, rfl, (by walk_at "ls_hp"), rfl, ?_⟩
  | refine ⟨rfl, _, rfl, ?_⟩
  | refine ⟨.inl ⟨rfl, _, .inl (.inl (by walk_at "ls_hp"))⟩, ?_⟩)
local macro_rules | `(tactic| walk_at "ls") => `(tactic| repeat (walk_at "ls1"))

/-- the constants of the watches -/
structure Gw (K : PySem.W.Frag) (mg : Str → Option Value) (aX aO aY aZ : Addr) : Prop where
  X_WORDS : mg "X_WORDS" = some (.ref aX)
  OWNERS : mg "OWNERS" = some (.ref aO)
  Y_WORDS : mg "Y_WORDS" = some (.ref aY)
  Z_WORDS : mg "Z_WORDS" = some (.ref aZ)
  kX : KTup K aX ((["gone", "marked", "new", "other", "plain"] : List Str).map V.str)
  kO : KTup K aO ((["-", "y", "z"] : List Str).map V.str)
  kY : KTup K aY ((["gone", "marked", "new", "plain"] : List Str).map V.str)
  kZ : KTup K aZ ((["new", "plain"] : List Str).map V.str)
/-- the class of kinds' watches -/
structure KwT (K : PySem.W.Frag) (C : Addr) : Prop where
  cl : Cls K C
  n1 : NoAttr K C "begin"
  n2 : NoAttr K C "column"
  n3 : NoAttr K C "kinds_of_rows"
  n4 : NoAttr K C "has"
  n5 : NoAttr K C "_is_open"
  n6 : NoAttr K C "_is_markable"
  n7 : NoAttr K C "_parts"
def kwF (bg kr hs pt : Addr) (io im : Bool) : List (Str × V) := putF "_parts" (.ref pt) (putF "_is_markable" (.bl im) (putF "_is_open" (.bl io) (putF "has" (.ref hs) (putF "kinds_of_rows" (.ref kr) (putF "column" .non (putF "begin" (.ref bg) []))))))
def kindQ (kd : Str) : List (Str × Str) := [("again", "again " ++ kd), ("lone", "lone"), ("fresh", "fresh")]
/-- a kind's watch -/
def KwS (C : Addr) (aY : Addr) (H : Hp) (o : Addr) (B : Shp) (ck : List Str) (kd : Str) : Prop := ∃ dx bg kr hs pt ls : Addr, H o = some (.ins C dx (kwF bg kr hs pt (openB B kd) (decide (kd ∈ markList B)))) ∧ H bg = some (.tup [.str "new", .str ""]) ∧ H kr = some (.dK [(.inr "x", .str kd)]) ∧
  H hs = some (.dK (hasQ ck (kindQ kd))) ∧ H pt = some (.tup [.ref aY, .ref ls]) ∧ H ls = some (.tup ((listsOf ["X"]).map V.str))
theorem ks_nodup {B : Shp} (hB : B.Ok) : (B.ks.map (·.1)).Nodup := (List.nodup_append.mp hB.nd).1
theorem BookU.but {C : Addr} {H H' : Hp} {o b : Addr} {C2 dx : Addr} {fs : List (Str × V)} {ks : List (V × V)} {cs : List Col} {ck : List Str} (h : BookU C H b ks cs ck) (ho : H o = some (.ins C2 dx fs)) (n : b ≠ o) (s : But o H H') : BookU C H' b ks cs ck := by
  obtain ⟨d2, k, c, m, x, kx, cx, h1, h2, h3, h4, h5, h6, h7⟩ := h
  have ne : ∀ {a : Addr} {xs : List V}, H a = some (.tup xs) → a ≠ o := fun e => ne_of e ho fun z => nomatch z
  exact ⟨d2, k, c, m, x, kx, cx, s _ _ n h1, s _ _ (ne h2) h2, h3.keep (s.tk ho), s _ _ (ne h4) h4, h5.keep (s.tk ho), s _ _ (ne h6) h6, s _ _ (ne h7) h7⟩
theorem tups_pairs {K : PySem.W.Frag} {H : Hp} {kv : Str × Bool → Key × V} (hk : ∀ k, [kV (kv k).1, (kv k).2] = kindV k) : ∀ {kx : List V} {l : List (Str × Bool)}, TupsAt H kx (l.map kindV) → ∃ ps : List Addr, kx = ps.map V.ref ∧ Paired (fun p z => SqT K H p [kV z.1, z.2]) ps (l.map kv)
  | _, [], .nil => ⟨[], rfl, .nil⟩
  | _, k :: l, .cons ⟨t, e, h⟩ r => by
    obtain ⟨ps, e2, p⟩ := tups_pairs (K := K) hk r
    exact ⟨t :: ps, by rw [e, e2]; rfl, .cons (.inl (.inl (by rw [hk k]; exact h))) p⟩
def kdP (k : Str × Bool) : Key × V := (.inr k.1, .bl k.2)
theorem kinds_merge {l : List (Str × Bool)} (h : (l.map (·.1)).Nodup) : mergeK [] (l.map kdP) = l.map kdP := by
  refine merge_nd ?_
  rw [List.map_map]
  have e : ((fun p : Key × V => p.1) ∘ kdP) = fun k : Str × Bool => (Sum.inr k.1 : Key) := rfl
  rw [e, show (fun k : Str × Bool => (Sum.inr k.1 : Key)) = (Sum.inr : Str → Key) ∘ (·.1) from rfl, ← List.map_map]
  exact List.Pairwise.map _ (fun a b n e => n (Sum.inr.inj e)) h
theorem kinds_val : ∀ {l : List (Str × Bool)} {z : Str}, (l.map (·.1)).Nodup → z ∈ l.map (·.1) → valV (l.map kdP) (Sum.inr z) = some (V.bl (l.any fun k => decide (k.1 = z) && k.2))
  | k :: l, z, h, m => by
    obtain ⟨h1, h2⟩ := List.nodup_cons.mp h
    rw [List.map_cons, List.any_cons]
    by_cases e : k.1 = z
    · rw [valV_pos (show (kdP k).1 = Sum.inr z from congrArg Sum.inr e), decide_eq_true e]
      have e2 : (l.any fun k => decide (k.1 = z) && k.2) = false := by
        rw [List.any_eq_false]
        intro j hj hz
        rw [Bool.and_eq_true, decide_eq_true_eq] at hz
        exact h1 (by show k.1 ∈ _; rw [e, ← hz.1]; exact List.mem_map_of_mem (f := fun k : Str × Bool => k.1) hj)
      rw [e2, Bool.true_and, Bool.or_false]
      rfl
    · rw [valV_neg (show ¬ (kdP k).1 = Sum.inr z from fun e2 => e (Sum.inr.inj e2)), decide_eq_false e, Bool.false_and, Bool.false_or]
      exact kinds_val h2 ((List.mem_cons.mp m).resolve_left fun e2 => e e2.symm)
section
variable {P : Program} {w : World} {K : PySem.W.Frag} {mg : Str → Option Value} {base : Heap}
abbrev s_KindWatch_init : Stmt := inClass (topS 39) 0
theorem sc_KindWatch_init : FnScope ["self", "book", "kind"] ["self", "book", "kind"] (defScope s_KindWatch_init) := ⟨rfl, rfl, rfl, by decide +kernel, rfl, by decide +kernel, by decide +kernel⟩
abbrev N_KindWatch_init : List Str := ["self", "book", "kind"]
def spKwInit (CB C aY : Addr) : Sp := fun vs H Q _ => ∃ (o dx ob : Addr) (B : Shp) (ck : List Str) (kd : Str), vs = [.ref o, .ref ob, .str kd] ∧ H o = some (.ins C dx []) ∧ BookS CB H ob B ck ∧ B.Ok ∧ kd ∈ B.ks.map (·.1) ∧ ∀ H' : Hp, KwS C aY H' o B ck kd → But o H H' → Q .non H'
theorem ok_kwInit {C CB : Addr} {aX aO aY aZ : Addr} {f : Addr} {fd : FuncData} (F : Fun K "__init__" "KindWatch.__init__" s_KindWatch_init f fd) (T : Bt mg) (TK : KwT K C) (G : Gw K mg aX aO aY aZ) (O_Book_contains : OwnM P w K mg base CX0 2 CB "__contains__" ["self", "check"] (spHasB K CB))
    (O_Book_kinds : OwnM P w K mg base CX0 1 CB "kinds" ["self"] (spKinds CB)) (O_Book_markable : OwnM P w K mg base CX0 1 CB "markable" ["self"] (spMark CB)) (O__lists_of : Own P w K mg base CX0 1 "_lists_of" ["letters"] (spListsOf K)) : FnOk P w K mg base CX0 3 f fd ["self", "book", "kind"] (spKwInit CB C aY) := by
  refine F.ok sc_KindWatch_init (fun vs H Q E h => ?_) (fun cdv A outer s H vs Q E hr h => ?_)
  · obtain ⟨o, dx, ob, B, ck, kd, rfl, _⟩ := h
    rfl
  · obtain ⟨o, dx, ob, B, ck, kd, rfl, ho, hb, hB, hkd, q⟩ := h
    have hu := hu_of hr
    refine ⟨_, (pss_cons (ps_fld (pv 0) (pe_tup (pa_cons pe_str (pa_cons pe_str pa_nil))) rfl)
      (pss_cons (ps_fld (pv 0) pe_non rfl)
      (pss_cons (ps_fld (pv 0) (pe_disp (pps_cons pe_str (pv 2) pps_nil) (by rfl) (by rfl) (fun z => by cases z) (by decide)) rfl)
      (pss_cons (ps_fld (pv 0) (pe_disp (pps_cons pe_str (pe_cmpR (op_inO O_Book_contains hr (by first | decide | omega)) (pe_op op_add_str pe_str (pv 2)) (pv 1) (by rfl)) (pps_cons pe_str (pe_cmpR (op_inO O_Book_contains hr (by first | decide | omega)) pe_str (pv 1) (by rfl)) (pps_cons pe_str (pe_cmpR (op_inO O_Book_contains hr (by first | decide | omega)) pe_str (pv 1) (by rfl)) pps_nil))) (by rfl) (by rfl) (fun z => by cases z) (by decide)) rfl)
      (pss_cons (ps_fld (pv 0) (pe_dget hu (pe_callTy (call_dictP rfl) (by rfl) T.m_dict (by decide +kernel) (pa_cons (own_meth0 O_Book_kinds hr (by first | decide | omega) (pv 1)) pa_nil)) (pv 2) (fun _ _ => rfl)) rfl)
      (pss_cons (ps_fld (pv 0) (pe_cmpR (in_seq K) (pv 2) (own_meth0 O_Book_markable hr (by first | decide | omega) (pv 1)) (by rfl)) rfl)
      (pss_one (ps_fld (pv 0) (pe_tup (pa_cons (glob_ref G.Y_WORDS) (pa_cons (own_call O__lists_of hr (by first | decide | omega) (pa_cons (pe_tup (pa_cons pe_str pa_nil)) pa_nil)) pa_nil))) rfl)))))))), ?_⟩
    have nob : ob ≠ o := fun e => by
      obtain ⟨d2, k, c, m, x, hi⟩ := hb.ins
      rw [e, ho] at hi
      cases hi
    have nkd : Nm kd := hB.nm _ (List.mem_append_left _ hkd)
    have hbb : ∀ {H'}, But o H H' → BookS CB H' ob B ck := fun {H'} s => hb.but ho nob s
    have f0 := Fld.start ho
    refine ⟨(by show 2 ≤ sizeLine; decide), fun bg hbg => ?_⟩
    have f1 := f0.new (x := .tup [.str "new", .str ""]) hbg fun _ _ _ z => nomatch z
    refine ⟨_, rfl, o, C, dx, _, rfl, f1.ins, TK.cl, TK.n1, (by show 0 < 1000; decide), ?_⟩
    have f2 := f1.set (fs2 := putF "begin" (.ref bg) [])
    clear f1
    generalize upd (upd H bg _) o _ = H2 at *
    refine ⟨_, rfl, o, C, dx, _, rfl, f2.ins, TK.cl, TK.n2, (by show 1 < 1000; decide), ?_⟩
    have f3 := f2.set (fs2 := putF "column" .non (putF "begin" (.ref bg) []))
    clear f2
    generalize upd H2 o _ = H3 at *
    intro kr hkr
    walk_at "ls"
    refine ⟨upd_same, [(.inr "x", .str kd)], rfl, (by show 1 ≤ 15; decide), ?_⟩
    rw [upd_upd, show mergeK [] [((.inr "x", .str kd) : Key × V)] = [(.inr "x", .str kd)] from rfl]
    have f4 := f3.new (x := .dK [(.inr "x", .str kd)]) hkr fun _ _ _ z => nomatch z
    refine ⟨_, rfl, o, C, dx, _, rfl, f4.ins, TK.cl, TK.n3, (by show 2 < 1000; decide), ?_⟩
    have f5 := f4.set (fs2 := putF "kinds_of_rows" (.ref kr) (putF "column" .non (putF "begin" (.ref bg) [])))
    clear f4 f3
    generalize upd (upd H3 kr _) o _ = H4 at *
    intro hs hhs
    have s5 : Same H4 (upd H4 hs (.dK [])) := same_new hhs
    obtain ⟨d2, kk, c0, m0, x0, hob⟩ := (hbb f5.but).ins
    have hbs := (hbb f5.but).same s5
    walk_at "ls"
    refine ⟨room_str (n := 6) (m := 8) (by decide +kernel) nkd.1.2.1 (by decide), ?_⟩
    walk_at "ls"
    refine ⟨ob, d2, _, rfl, s5 _ _ hob, ?_⟩
    refine ⟨ob, _, B, ck, rfl, hbs, .inl ⟨_, rfl, Nat.le_trans (okB_len (okB_append (show okB 6 "again " = true by decide +kernel) (nm_ok nkd))) (by decide)⟩, ?_⟩
    walk_at "ls"
    refine ⟨ob, d2, _, rfl, s5 _ _ hob, ?_⟩
    refine ⟨ob, _, B, ck, rfl, hbs, .inl ⟨_, rfl, (by decide +kernel)⟩, ?_⟩
    walk_at "ls"
    refine ⟨ob, d2, _, rfl, s5 _ _ hob, ?_⟩
    refine ⟨ob, _, B, ck, rfl, hbs, .inl ⟨_, rfl, (by decide +kernel)⟩, ?_⟩
    walk_at "ls"
    refine ⟨upd_same, hasQ ck (kindQ kd), rfl, (by show 3 ≤ 15; decide), ?_⟩
    rw [upd_upd, merge_nd (show ((hasQ ck (kindQ kd)).map (·.1)).Nodup from (by decide +kernel : ([.inr "again", .inr "lone", .inr "fresh"] : List Key).Nodup))]
    have f6 := f5.new (x := .dK (hasQ ck (kindQ kd))) hhs fun _ _ _ z => nomatch z
    refine ⟨_, rfl, o, C, dx, _, rfl, f6.ins, TK.cl, TK.n4, (by show 3 < 1000; decide), ?_⟩
    have f7 := f6.set (fs2 := putF "has" (.ref hs) (putF "kinds_of_rows" (.ref kr) (putF "column" .non (putF "begin" (.ref bg) []))))
    clear f6 f5 s5 hbs hob
    generalize upd (upd H4 hs _) o _ = H5 at *
    walk_at "ls"
    have no : ∀ {k c m x : Addr} {fl : Str}, ¬ fl = "_checks" → ¬ fl = "_menu" → ¬ fl = "_columns" → ¬ fl = "_kinds" → (bookF k c m x).lookup fl = none := fun h1 h2 h3 h4 => bookF_no h1 h2 h3 h4
    obtain ⟨d3, kk, c0, m0, x0, hob⟩ := (hbb f7.but).ins
    refine ⟨ob, _, _, rfl, hob, no (by decide +kernel) (by decide +kernel) (by decide +kernel) (by decide +kernel), ?_⟩
    refine ⟨ob, _, _, _, rfl, hbb f7.but, fun l kx hl hkx => ?_⟩
    rw [ksU_rows] at hkx
    have hkx2 := hkx.keep (.same (same_new (o := .lst kx) hl))
    obtain ⟨ps, rfl, hps⟩ := tups_pairs (K := K) (kv := kdP) (fun _ => rfl) hkx2
    have f8 := f7.new (x := .lst (ps.map V.ref)) hl fun _ _ _ z => nomatch z
    have h8 : (upd H5 l (.lst (ps.map V.ref))) l = some (.lst (ps.map V.ref)) := upd_same
    clear f7
    generalize upd H5 l (.lst (ps.map V.ref)) = H6 at *
    refine ⟨l, ps, B.ks.map kdP, rfl, .inl (.inl h8), hps, fun D hD => ?_⟩
    rw [kinds_merge (ks_nodup hB)]
    have f9 := f8.same (same_new (o := .dK (B.ks.map kdP)) hD)
    have h9 : (upd H6 D (.dK (B.ks.map kdP))) D = some (.dK (B.ks.map kdP)) := upd_same
    clear f8 h8 hps hkx hkx2 hl hob
    generalize upd H6 D (.dK (B.ks.map kdP)) = H7 at *
    walk_at "ls"
    refine ⟨D, _, rfl, .inl ⟨_, .inr kd, .inl h9, rfl, (kinds_val (ks_nodup hB) hkd).symm⟩, ?_⟩
    refine ⟨_, rfl, o, C, dx, _, rfl, f9.ins, TK.cl, TK.n5, (by show 4 < 1000; decide), ?_⟩
    have f10 := f9.set (fs2 := putF "_is_open" (.bl (openB B kd)) (putF "has" (.ref hs) (putF "kinds_of_rows" (.ref kr) (putF "column" .non (putF "begin" (.ref bg) [])))))
    clear f9 h9 hD
    show tSeq _ _ _ _ (upd H7 o (.ins C dx (putF "_is_open" (.bl (openB B kd)) (putF "has" (.ref hs) (putF "kinds_of_rows" (.ref kr) (putF "column" .non (putF "begin" (.ref bg) [])))))))
    generalize upd H7 o _ = H8 at *
    walk_at "ls"
    obtain ⟨d4, kk, c0, m0, x0, hob⟩ := (hbb f10.but).ins
    refine ⟨ob, _, _, rfl, hob, no (by decide +kernel) (by decide +kernel) (by decide +kernel) (by decide +kernel), ?_⟩
    refine ⟨ob, B, ck, rfl, hbb f10.but, hB, fun H9 p hp h9 s9 => ?_⟩
    have f11 := f10.same s9
    clear f10 hob
    refine ⟨p, _, rfl, .inl (.inl (.inl h9)), rfl, all_flat _, ?_⟩
    refine ⟨_, rfl, o, C, dx, _, rfl, f11.ins, TK.cl, TK.n6, (by show 5 < 1000; decide), ?_⟩
    rw [show (if (false : Bool) = true then !inV (V.str kd) ((markList B).map V.str) else inV (V.str kd) ((markList B).map V.str)) = decide (kd ∈ markList B) from in_strs _ _]
    have f12 := f11.set (fs2 := putF "_is_markable" (.bl (decide (kd ∈ markList B))) (putF "_is_open" (.bl (openB B kd)) (putF "has" (.ref hs) (putF "kinds_of_rows" (.ref kr) (putF "column" .non (putF "begin" (.ref bg) []))))))
    clear f11 h9 s9
    generalize upd H9 o _ = H10 at *
    refine ⟨(by show 1 ≤ sizeLine; decide), fun t ht => ?_⟩
    refine ⟨t, ["X"], rfl, .inl (.inl upd_same), (by decide), (by decide +kernel), fun H11 ls hls h11 s11 => ?_⟩
    have f13 := f12.same ((same_new (o := .tup [.str "X"]) ht).trans s11)
    clear f12 s11
    refine ⟨(by show 2 ≤ sizeLine; decide), fun pt hpt => ?_⟩
    have f14 := (f13.add h11 fun _ _ _ z => nomatch z).new (x := .tup [.ref aY, .ref ls]) hpt fun _ _ _ z => nomatch z
    clear f13 h11
    refine ⟨_, rfl, o, C, dx, _, rfl, f14.ins, TK.cl, TK.n7, (by show 6 < 1000; decide), ?_⟩
    have f15 := f14.set (fs2 := kwF bg kr hs pt (openB B kd) (decide (kd ∈ markList B)))
    refine q _ ⟨dx, bg, kr, hs, pt, ls, f15.ins, f15.at_ (bg, _) ?_, f15.at_ (kr, _) ?_, f15.at_ (hs, _) ?_, f15.at_ (pt, _) ?_, f15.at_ (ls, _) ?_⟩ f15.but
    all_goals simp
end
end Ls
namespace Ls
open PySem PySem.Spec PyProof.Rows L2
/-! ### short steps -/
local macro_rules | `(tactic| walk_at "ls_ne") => `(tactic| first | assumption | exact Ne.symm (by assumption) | exact ne_of_none (by assumption) (by assumption) | exact Ne.symm (ne_of_none (by assumption) (by assumption)))
local macro_rules | `(tactic| walk_at "ls_hp") => `(tactic| first
  | with_reducible assumption
  | exact upd_same
  | exact Eq.trans (upd_ne (by walk_at "ls_ne")) (by walk_at "ls_hp"))
local macro_rules | `(tactic| walk_at "ls_st") => `(tactic| first
  | with_reducible assumption
  | exact Stm.upd (by walk_at "ls_st") (by first | walk_at "ls_ne" | exact (Stm.noneS (by assumption) (by assumption)).1) (by first | walk_at "ls_ne" | exact (Stm.noneS (by assumption) (by assumption)).2))
local macro_rules | `(tactic| walk_at "ls1") => `(tactic| first
  | refine ⟨_, rfl, ?_⟩
  | refine ⟨_, _, rfl, rfl, ?_⟩
  | refine ⟨_, _, _, _, rfl, rfl, .inl (.inl (by walk_at "ls_hp")), rfl, ?_⟩
  | refine ⟨_, _, _, _, rfl, rfl, (by walk_at "ls_hp"), rfl, ?_⟩
  | refine ⟨rfl, _, rfl, ?_⟩
  | refine ⟨.inl ⟨rfl, _, .inl (.inl (by walk_at "ls_hp"))⟩, ?_⟩)
local macro_rules | `(tactic| walk_at "ls") => `(tactic| repeat (walk_at "ls1"))

/-- the class of columns' watches -/
structure CwT (K : PySem.W.Frag) (C : Addr) : Prop where
  cl : Cls K C
  n1 : NoAttr K C "begin"
  n2 : NoAttr K C "column"
  n3 : NoAttr K C "kinds_of_rows"
  n4 : NoAttr K C "has"
  n5 : NoAttr K C "_piece"
  n6 : NoAttr K C "_is_home_open"
  n7 : NoAttr K C "_is_goal_open"
  n8 : NoAttr K C "_is_goal_markable"
  n9 : NoAttr K C "_has_other_way"
  n10 : NoAttr K C "_parts"
abbrev Col4 := Str × Str × Str × Bool
def pieceS (r : Bool) : Str := if r then "S" else "C"
def otherB (B : Shp) (cl : Col4) : Bool := B.cs.any fun d => !decide (d.1 = cl.1) && (decide (d.2.1 = cl.2.1) && (d.2.2.2 && decide (d.2.2.1 ∈ markList B)))
def cwF (bg kr hs pt : Addr) (c : Str) (r ho go gm ow : Bool) : List (Str × V) := putF "_parts" (.ref pt) (putF "_has_other_way" (.bl ow) (putF "_is_goal_markable" (.bl gm) (putF "_is_goal_open" (.bl go) (putF "_is_home_open" (.bl ho) (putF "_piece" (.str (pieceS r)) (putF "has" (.ref hs) (putF "kinds_of_rows" (.ref kr) (putF "column" (.str c) (putF "begin" (.ref bg) [])))))))))
/-- a column's watch -/
def CwS (C : Addr) (aX aO aY aZ : Addr) (H : Hp) (o : Addr) (B : Shp) (ck : List Str) (cl : Col4) : Prop := ∃ dx bg kr hs pt ls : Addr, H o = some (.ins C dx (cwF bg kr hs pt cl.1 cl.2.2.2 (openB B cl.2.1) (openB B cl.2.2.1) (decide (cl.2.2.1 ∈ markList B)) (otherB B cl))) ∧
  H bg = some (.tup [.str "new", .str "-", .str "new", .str "new", .str ""]) ∧ H kr = some (.dK [(.inr "x", .str cl.2.1), (.inr "y", .str cl.2.2.1), (.inr "z", .str cl.2.2.1)]) ∧
  H hs = some (.dK (hasQ ck (allQ cl.1 cl.2.1 cl.2.2.1))) ∧ H pt = some (.tup [.ref aX, .ref aO, .ref aY, .ref aZ, .ref ls]) ∧ H ls = some (.tup ((listsOf [pieceS cl.2.2.2, "X", "Y"]).map V.str))
def tailV (d : Col4) : List V := [.str d.2.1, .str d.2.2.1, .str (ruleS d.2.2.2)]
theorem cs_nd {B : Shp} (hB : B.Ok) : (B.cs.map (·.1)).Nodup := (List.nodup_append.mp hB.nd).2.1
theorem filter_name : ∀ {l : List Col4} {c : Col4}, (l.map (·.1)).Nodup → c ∈ l → (l.filter fun d => decide (d.1 = c.1)) = [c]
  | d :: l, c, h, m => by
    obtain ⟨h1, h2⟩ := List.nodup_cons.mp h
    rw [List.filter_cons]
    rcases List.mem_cons.mp m with e | e
    · subst e
      rw [if_pos (decide_eq_true rfl)]
      congr 1
      rw [List.filter_eq_nil_iff]
      intro x hx z
      exact h1 (by show c.1 ∈ _; rw [← of_decide_eq_true z]; exact List.mem_map_of_mem (f := fun k : Col4 => k.1) hx)
    · rw [if_neg (fun z => h1 (by show d.1 ∈ _; rw [of_decide_eq_true z]; exact List.mem_map_of_mem (f := fun k : Col4 => k.1) e))]
      exact filter_name h2 e
theorem str_dec (a b : Str) : decide (V.str a = V.str b) = decide (a = b) := by simp
theorem andV2 {ta tb : TE} {σ : L2.St} {H : Hp} {Q : VK} (c1 c2 : Bool) (h1 : ∀ Q' : VK, Q' (.bl c1) H → ta σ H Q') (h2 : ∀ Q' : VK, Q' (.bl c2) H → tb σ H Q') (hq : Q (.bl (c1 && c2)) H) : tAndV ta tb σ H Q := by
  refine h1 _ ⟨c1, rfl, ?_⟩
  cases c1 with
  | true => exact h2 _ hq
  | false => exact hq
theorem fld_if {K : PySem.W.Frag} {ta : TE} {tt : TT} {t1 t2 : TE} {f : Str} {D : Ends} {σ : L2.St} {H : Hp} (v : V) (h : ∀ Q' : VK, Q' v H → tIf tt t1 t2 σ H Q') (q : ta σ H fun x H2 => ∃ a C dx fs, x = .ref a ∧ H2 a = some (.ins C dx fs) ∧ Cls K C ∧ NoAttr K C f ∧ fs.length < 1000 ∧ D.nx σ (upd H2 a (.ins C dx (putF f v fs)))) : sFld K ta (tIf tt t1 t2) f D σ H := h _ q
section
variable {P : Program} {w : World} {K : PySem.W.Frag} {mg : Str → Option Value} {base : Heap}
abbrev s_ColumnWatch_init : Stmt := inClass (topS 38) 0
theorem sc_ColumnWatch_init : FnScope ["self", "book", "column", "home", "goal", "rule", "markable", "is_open", "found", "name", "kind", "owner", "word"] ["self", "book", "column"] (defScope s_ColumnWatch_init) := ⟨rfl, rfl, rfl, by decide +kernel, rfl, by decide +kernel, by decide +kernel⟩
abbrev N_ColumnWatch_init : List Str := ["self", "book", "column", "home", "goal", "rule", "markable", "is_open", "found", "name", "kind", "owner", "word"]
def spCwInit (CB C aX aO aY aZ : Addr) : Sp := fun vs H Q _ => ∃ (o dx ob : Addr) (B : Shp) (ck : List Str) (cl : Col4), vs = [.ref o, .ref ob, .str cl.1] ∧ H o = some (.ins C dx []) ∧ BookS CB H ob B ck ∧ B.Ok ∧ cl ∈ B.cs ∧ ∀ H' : Hp, CwS C aX aO aY aZ H' o B ck cl → But o H H' → Q .non H'
theorem ok_cwInit {C CB : Addr} {aX aO aY aZ : Addr} {f : Addr} {fd : FuncData} (F : Fun K "__init__" "ColumnWatch.__init__" s_ColumnWatch_init f fd) (T : Bt mg) (TK : CwT K C) (G : Gw K mg aX aO aY aZ) (O__checks_at : Own P w K mg base CX0 3 "_checks_at" ["book", "column", "home", "goal"] (spChecksAt CB)) (O_Book_columns : OwnM P w K mg base CX0 1 CB "columns" ["self"] (spColumns CB))
    (O_Book_kinds : OwnM P w K mg base CX0 1 CB "kinds" ["self"] (spKinds CB)) (O_Book_markable : OwnM P w K mg base CX0 1 CB "markable" ["self"] (spMark CB)) (O__lists_of : Own P w K mg base CX0 1 "_lists_of" ["letters"] (spListsOf K)) : FnOk P w K mg base CX0 4 f fd ["self", "book", "column"] (spCwInit CB C aX aO aY aZ) := by
  refine F.ok sc_ColumnWatch_init (fun vs H Q E h => ?_) (fun cdv A outer s H vs Q E hr h => ?_)
  · obtain ⟨o, dx, ob, B, ck, cl, rfl, _⟩ := h
    rfl
  · obtain ⟨o, dx, ob, B, ck, cl, rfl, ho, hb, hB, hcl, q⟩ := h
    have hu := hu_of hr
    refine ⟨_, (pss_cons (ps_asg (pe_ix (ixL K) (pe_lc (own := [("found", 8)]) (g := gName 8) (by rfl) sc_ColumnWatch_init.nd (pi_list (own_meth0 O_Book_columns hr (by first | decide | omega) (pv 1))) (blkOk_by (own := [("found", 8)]) (N := N_ColumnWatch_init) (sc := defScope s_ColumnWatch_init) (by decide +kernel)) (fun _ _ _ _ _ => (pg_name (i := 8) sc_ColumnWatch_init.nd rfl (Or.inl rfl) (Or.inr rfl))) (fun _ _ _ _ _ => (pts_one (pt_cmpR op_eq (pe_ix (ixT K) (pv 8) pe_int (fun _ _ => rfl)) (pv 2) (nomark _)))) (fun _ _ _ _ _ => (pe_slice (slTK K) (pv 8) (po_some pe_int) po_none))) pe_int (fun _ _ => rfl)) (pg_tup rfl (pgs_cons (pg_name (i := 3) sc_ColumnWatch_init.nd rfl (Or.inr rfl)) (pgs_cons (pg_name (i := 4) sc_ColumnWatch_init.nd rfl (Or.inl rfl)) (pgs_cons (pg_name (i := 5) sc_ColumnWatch_init.nd rfl (Or.inl rfl)) pgs_nil)))))
      (pss_cons (ps_set (i := 6) sc_ColumnWatch_init.nd rfl (Or.inr rfl) (own_meth0 O_Book_markable hr (by first | decide | omega) (pv 1)))
      (pss_cons (ps_set (i := 7) sc_ColumnWatch_init.nd rfl (Or.inl rfl) (pe_callTy (call_dictP rfl) (by rfl) T.m_dict (by decide +kernel) (pa_cons (own_meth0 O_Book_kinds hr (by first | decide | omega) (pv 1)) pa_nil)))
      (pss_cons (ps_fld (pv 0) (pe_tup (pa_cons pe_str (pa_cons pe_str (pa_cons pe_str (pa_cons pe_str (pa_cons pe_str pa_nil)))))) rfl)
      (pss_cons (ps_fld (pv 0) (pv 2) rfl)
      (pss_cons (ps_fld (pv 0) (pe_disp (pps_cons pe_str (pv 3) (pps_cons pe_str (pv 4) (pps_cons pe_str (pv 4) pps_nil))) (by rfl) (by rfl) (fun z => by cases z) (by decide)) rfl)
      (pss_cons (ps_fld (pv 0) (own_call O__checks_at hr (by first | decide | omega) (pa_cons (pv 1) (pa_cons (pv 2) (pa_cons (pv 3) (pa_cons (pv 4) pa_nil))))) rfl)
      (pss_cons (ps_fld (pv 0) (pe_ifExp (pt_cmpR op_eq (pv 5) pe_str (nomark _)) pe_str pe_str) rfl)
      (pss_cons (ps_fld (pv 0) (pe_dget hu (pv 7) (pv 3) (fun _ _ => rfl)) rfl)
      (pss_cons (ps_fld (pv 0) (pe_dget hu (pv 7) (pv 4) (fun _ _ => rfl)) rfl)
      (pss_cons (ps_fld (pv 0) (pe_cmpR (in_seq K) (pv 4) (pv 6) (by rfl)) rfl)
      (pss_cons (ps_fld (pv 0) (pe_callB (cr_any rfl) (by rfl) T.m_any (by decide +kernel) (pa_cons (pe_lc (own := [("name", 9), ("kind", 10), ("owner", 11), ("word", 12)]) (g := gTup K 4 (gCons (gName 9) (gCons (gName 10) (gCons (gName 11) (gCons (gName 12) gNil))))) (by rfl) sc_ColumnWatch_init.nd (pi_list (own_meth0 O_Book_columns hr (by first | decide | omega) (pv 1))) (blkOk_by (own := [("name", 9), ("kind", 10), ("owner", 11), ("word", 12)]) (N := N_ColumnWatch_init) (sc := defScope s_ColumnWatch_init) (by decide +kernel)) (fun _ _ _ _ _ => (pg_tup rfl (pgs_cons (pg_name (i := 9) sc_ColumnWatch_init.nd rfl (Or.inl rfl) (Or.inr rfl)) (pgs_cons (pg_name (i := 10) sc_ColumnWatch_init.nd rfl (Or.inl rfl) (Or.inr rfl)) (pgs_cons (pg_name (i := 11) sc_ColumnWatch_init.nd rfl (Or.inl rfl) (Or.inr rfl)) (pgs_cons (pg_name (i := 12) sc_ColumnWatch_init.nd rfl (Or.inl rfl) (Or.inr rfl)) pgs_nil)))))) (fun _ _ _ _ _ => pts_nil) (fun _ _ _ _ _ => (pe_and (pe_cmpR op_ne (pv 9) (pv 2) (nomark _)) (pe_and (pe_cmpR op_eq (pv 10) (pv 3) (nomark _)) (pe_and (pe_cmpR op_eq (pv 12) pe_str (nomark _)) (pe_one (pe_cmpR (in_seq K) (pv 11) (pv 6) (by rfl)))))))) pa_nil)) rfl)
      (pss_one (ps_fld (pv 0) (pe_tup (pa_cons (glob_ref G.X_WORDS) (pa_cons (glob_ref G.OWNERS) (pa_cons (glob_ref G.Y_WORDS) (pa_cons (glob_ref G.Z_WORDS) (pa_cons (own_call O__lists_of hr (by first | decide | omega) (pa_cons (pe_tup (pa_cons (pe_fld (pv 0) rfl) (pa_cons pe_str (pa_cons pe_str pa_nil)))) pa_nil)) pa_nil)))))) rfl)))))))))))))), ?_⟩
    have nob : ob ≠ o := fun e => by
      obtain ⟨d2, k, c, m, x, hi⟩ := hb.ins
      rw [e, ho] at hi
      cases hi
    have hbb : ∀ {H'}, But o H H' → BookS CB H' ob B ck := fun {H'} s => hb.but ho nob s
    have no : ∀ {k c m x : Addr} {fl : Str}, ¬ fl = "_checks" → ¬ fl = "_menu" → ¬ fl = "_columns" → ¬ fl = "_kinds" → (bookF k c m x).lookup fl = none := fun h1 h2 h3 h4 => bookF_no h1 h2 h3 h4
    have f0 := Fld.start ho
    obtain ⟨d2, kk, c0, m0, x0, hob⟩ := hb.ins
    walk_at "ls"
    refine ⟨ob, _, _, rfl, hob, no (by decide +kernel) (by decide +kernel) (by decide +kernel) (by decide +kernel), ?_⟩
    refine ⟨ob, _, _, _, rfl, hb, fun l cx hl hct => ?_⟩
    rw [csU_rows] at hct
    have s1 : Same H (upd H l (.lst cx)) := same_new hl
    have h1 := upd_same (H := H) (a := l) (o := .lst cx)
    replace hct := hct.keep (.same s1)
    generalize upd H l (.lst cx) = H1 at *
    refine ⟨l, rfl, ⟨_, .inl (.inl h1)⟩, fun D hD => ?_⟩
    have nlD : l ≠ D := ne_of_none h1 hD
    have lc : cx.length = B.cs.length := by rw [hct.len, List.length_map]
    have bc8 := hB.nc
    refine lc_it (walk_list (xs := cx)) (fun j H3 => ∃ ys : List V, H3 D = some (.lst ys) ∧ TupsAt H3 ys (((B.cs.take j).filter fun d => decide (d.1 = cl.1)).map tailV) ∧ Same H1 H3)
      ⟨[], upd_same, .nil, same_new hD⟩ (fun j H3 _ ⟨_, _, _, s3⟩ => .inl (.inl (s3 _ _ h1))) ?_ ?_
    · rintro j y Hy H3 hj ⟨ys, h3, h3t, s3⟩ ⟨rfl, hy⟩
      obtain ⟨zs, hzs, t, rfl, ht⟩ := TupsAt.get (hct.keep (.same s3)) hy
      obtain ⟨d, hd, rfl⟩ := map_get hzs
      have ly : ys.length ≤ 8 := by
        rw [h3t.len, List.length_map]
        refine Nat.le_trans (List.length_filter_le _ _) ?_
        rw [List.length_take]
        omega
      refine ⟨rfl, ?_⟩
      walk_at "ls"
      refine ite2 (fun e => ?_) (fun e => ?_)
      · have en : d.1 = cl.1 := by
          have z := of_decide_eq_true e
          injection z
        walk_at "ls"
        refine ⟨t, _, rfl, .inl (.inl ht), (fun z => absurd z.1 (show ¬ HT.sIx 4 0 (some 1) = 0 by decide +kernel)), fun sk hsk => ?_⟩
        have sk1 := same_new (o := .tup (cutV (colV d) (some 1) none)) hsk
        have nDs : D ≠ sk := ne_of_none h3 hsk
        refine ⟨ys, sk1 _ _ h3, small1000 (by omega), ys ++ [.ref sk], upd_same, ?_, Same.set (s3.trans sk1) hD⟩
        rw [List.take_add_one, hd, Option.toList_some, List.filter_append, List.map_append, List.filter_cons, if_pos (decide_eq_true en)]
        exact ((h3t.keep (.same sk1)).keep (.lst (sk1 _ _ h3))).snoc ⟨sk, rfl, by rw [upd_ne (Ne.symm nDs), upd_same]; exact congrArg (fun l => some (HO.tup l)) (cut_dropN (colV d) 1 (show 1 ≤ 4 by decide))⟩
      · have en : ¬ d.1 = cl.1 := fun z => e (decide_eq_true (by rw [z]))
        refine ⟨ys, h3, ?_, s3⟩
        rw [List.take_add_one, hd, Option.toList_some, List.filter_append, List.map_append, List.filter_cons, if_neg (by rw [decide_eq_false en]; exact fun z => nomatch z), List.filter_nil, List.map_nil, List.append_nil]
        exact h3t
    · rintro H3 ⟨ys, h3, h3t, s3⟩
      rw [lc, List.take_length, filter_name (cs_nd hB) hcl] at h3t
      obtain ⟨v, rfl, hv⟩ : ∃ v, ys = [v] ∧ TupOf H3 v (tailV cl) := by
        cases h3t with
        | cons a r => cases r; exact ⟨_, rfl, a⟩
      obtain ⟨tv, rfl, ht⟩ := hv
      have s4 := s1.trans s3
      refine ⟨D, _, ((0 : Nat) : Int), _, rfl, rfl, .inl (.inl h3), atI_nat rfl, ?_⟩
      refine ⟨tv, _, rfl, .inl (.inl ht), rfl, _, _, rfl, _, _, rfl, _, _, rfl, rfl, ?_⟩
      clear ht h3 h3t
      have f1 := f0.same s4
      generalize hσ : List.set (List.set (List.set (L2.start _ _) 3 _) 4 _) 5 _ = σ0
      have eσ : σ0 = [some (.ref o), some (.ref ob), some (.str cl.1), some (.str cl.2.1), some (.str cl.2.2.1), some (.str (ruleS cl.2.2.2)), none, none, none, none, none, none, none] := hσ.symm
      clear hσ
      subst eσ
      have hh := hB.home cl hcl
      have hg := hB.goal cl hcl
      have bk : ∀ {H' : Hp} {fs : List (Str × V)} {L : List (Addr × HO)}, Fld o C dx H fs L H' → ∃ dx k c m x, H' ob = some (.ins CB dx (bookF k c m x)) := fun f => (hbb f.but).ins
      walk_at "ls"
      obtain ⟨d4, kk, c0, m0, x0, hob⟩ := bk f1
      refine ⟨ob, _, _, rfl, hob, no (by decide +kernel) (by decide +kernel) (by decide +kernel) (by decide +kernel), ?_⟩
      refine ⟨ob, B, ck, rfl, hbb f1.but, hB, fun H4 mk hmk h4 s4 => ?_⟩
      have f2 := (f1.same s4).add h4 fun _ _ _ z => nomatch z
      clear f1 hob hmk s4
      walk_at "ls"
      obtain ⟨d4, kk, c0, m0, x0, hob⟩ := bk f2
      refine ⟨ob, _, _, rfl, hob, no (by decide +kernel) (by decide +kernel) (by decide +kernel) (by decide +kernel), ?_⟩
      refine ⟨ob, _, _, _, rfl, hbb f2.but, fun l2 kx hl2 hkx => ?_⟩
      rw [ksU_rows] at hkx
      have hkx2 := hkx.keep (.same (same_new (o := .lst kx) hl2))
      obtain ⟨ps, rfl, hps⟩ := tups_pairs (K := K) (kv := kdP) (fun _ => rfl) hkx2
      have f3 := f2.same (same_new (o := .lst (ps.map V.ref)) hl2)
      have h3 : (upd H4 l2 (.lst (ps.map V.ref))) l2 = some (.lst (ps.map V.ref)) := upd_same
      clear f2 hob hkx hkx2 h4
      generalize upd H4 l2 (.lst (ps.map V.ref)) = H5 at *
      refine ⟨l2, ps, B.ks.map kdP, rfl, .inl (.inl h3), hps, fun io hio => ?_⟩
      rw [kinds_merge (ks_nodup hB)]
      have f4 := f3.new (x := .dK (B.ks.map kdP)) hio fun _ _ _ z => nomatch z
      clear f3 h3 hps hl2
      refine ⟨(by show 5 ≤ sizeLine; decide), fun bg hbg => ?_⟩
      have f5 := f4.new (x := .tup [.str "new", .str "-", .str "new", .str "new", .str ""]) hbg fun _ _ _ z => nomatch z
      clear f4
      refine ⟨_, rfl, o, C, dx, _, rfl, f5.ins, TK.cl, TK.n1, (by show 0 < 1000; decide), ?_⟩
      have f6 := f5.set (fs2 := putF "begin" (.ref bg) [])
      clear f5
      generalize upd (upd (upd H5 io _) bg _) o _ = H6 at *
      refine ⟨_, rfl, _, rfl, o, C, dx, _, rfl, f6.ins, TK.cl, TK.n2, (by show 1 < 1000; decide), ?_⟩
      have f7 := f6.set (fs2 := putF "column" (.str cl.1) (putF "begin" (.ref bg) []))
      clear f6
      generalize upd H6 o _ = H7 at *
      intro kr hkr
      walk_at "ls"
      refine ⟨upd_same, [(.inr "x", .str cl.2.1), (.inr "y", .str cl.2.2.1), (.inr "z", .str cl.2.2.1)], rfl, (by show 3 ≤ 15; decide), ?_⟩
      rw [upd_upd, merge_nd (show ([((.inr "x", .str cl.2.1) : Key × V), (.inr "y", .str cl.2.2.1), (.inr "z", .str cl.2.2.1)].map (·.1)).Nodup from (by decide +kernel : ([.inr "x", .inr "y", .inr "z"] : List Key).Nodup))]
      have f8 := f7.new (x := .dK [(.inr "x", .str cl.2.1), (.inr "y", .str cl.2.2.1), (.inr "z", .str cl.2.2.1)]) hkr fun _ _ _ z => nomatch z
      refine ⟨_, rfl, o, C, dx, _, rfl, f8.ins, TK.cl, TK.n3, (by show 2 < 1000; decide), ?_⟩
      have f9 := f8.set (fs2 := putF "kinds_of_rows" (.ref kr) (putF "column" (.str cl.1) (putF "begin" (.ref bg) [])))
      clear f7 f8
      generalize upd (upd H7 kr _) o _ = H8 at *
      walk_at "ls"
      have nc : Nm cl.1 := hB.nm _ (List.mem_append_right _ (List.mem_map_of_mem (f := fun k : Col4 => k.1) hcl))
      refine ⟨ob, B, ck, cl.1, cl.2.1, cl.2.2.1, rfl, hbb f9.but, nc, hB.nm _ (List.mem_append_left _ hh), hB.nm _ (List.mem_append_left _ hg), fun H9 hs hhs h9 s9 => ?_⟩
      have f10 := (f9.same s9).add h9 fun _ _ _ z => nomatch z
      refine ⟨_, rfl, o, C, dx, _, rfl, f10.ins, TK.cl, TK.n4, (by show 3 < 1000; decide), ?_⟩
      have f11 := f10.set (fs2 := putF "has" (.ref hs) (putF "kinds_of_rows" (.ref kr) (putF "column" (.str cl.1) (putF "begin" (.ref bg) []))))
      clear f9 f10 h9 s9 hhs
      generalize upd H9 o _ = H10 at *
      dsimp only
      refine seq_go ?_
      show sFld _ _ _ _ _ _ _
      refine fld_if (.str (pieceS cl.2.2.2)) (fun Q' q' => ?_) ?_
      · walk_at "ls"
        rw [fall_eq]
        revert q'
        cases cl.2.2.2 <;> exact fun q' => q'
      refine ⟨_, rfl, o, C, dx, _, rfl, f11.ins, TK.cl, TK.n5, (by show 4 < 1000; decide), ?_⟩
      have f12 := f11.set (fs2 := putF "_piece" (.str (pieceS cl.2.2.2)) (putF "has" (.ref hs) (putF "kinds_of_rows" (.ref kr) (putF "column" (.str cl.1) (putF "begin" (.ref bg) [])))))
      clear f11
      generalize upd H10 o _ = H11 at *
      have hio2 : H11 io = some (.dK (B.ks.map kdP)) := f12.at_ (io, _) (by simp)
      walk_at "ls"
      refine ⟨io, _, rfl, .inl ⟨_, .inr cl.2.1, .inl hio2, rfl, (kinds_val (ks_nodup hB) hh).symm⟩, ?_⟩
      refine ⟨_, rfl, o, C, dx, _, rfl, f12.ins, TK.cl, TK.n6, (by show 5 < 1000; decide), ?_⟩
      have f13 := f12.set (fs2 := putF "_is_home_open" (.bl (openB B cl.2.1)) (putF "_piece" (.str (pieceS cl.2.2.2)) (putF "has" (.ref hs) (putF "kinds_of_rows" (.ref kr) (putF "column" (.str cl.1) (putF "begin" (.ref bg) []))))))
      clear f12 hio2
      show tSeq _ _ _ _ (upd H11 o (.ins C dx (putF "_is_home_open" (.bl (openB B cl.2.1)) (putF "_piece" (.str (pieceS cl.2.2.2)) (putF "has" (.ref hs) (putF "kinds_of_rows" (.ref kr) (putF "column" (.str cl.1) (putF "begin" (.ref bg) []))))))))
      generalize upd H11 o _ = H12 at *
      have hio2 : H12 io = some (.dK (B.ks.map kdP)) := f13.at_ (io, _) (by simp)
      walk_at "ls"
      refine ⟨io, _, rfl, .inl ⟨_, .inr cl.2.2.1, .inl hio2, rfl, (kinds_val (ks_nodup hB) hg).symm⟩, ?_⟩
      refine ⟨_, rfl, o, C, dx, _, rfl, f13.ins, TK.cl, TK.n7, (by show 6 < 1000; decide), ?_⟩
      have f14 := f13.set (fs2 := putF "_is_goal_open" (.bl (openB B cl.2.2.1)) (putF "_is_home_open" (.bl (openB B cl.2.1)) (putF "_piece" (.str (pieceS cl.2.2.2)) (putF "has" (.ref hs) (putF "kinds_of_rows" (.ref kr) (putF "column" (.str cl.1) (putF "begin" (.ref bg) [])))))))
      clear f13 hio2
      show tSeq _ _ _ _ (upd H12 o (.ins C dx (putF "_is_goal_open" (.bl (openB B cl.2.2.1)) (putF "_is_home_open" (.bl (openB B cl.2.1)) (putF "_piece" (.str (pieceS cl.2.2.2)) (putF "has" (.ref hs) (putF "kinds_of_rows" (.ref kr) (putF "column" (.str cl.1) (putF "begin" (.ref bg) [])))))))))
      generalize upd H12 o _ = H13 at *
      have hmk2 : H13 mk = some (.lst ((markList B).map V.str)) := f14.at_ (mk, _) (by simp)
      walk_at "ls"
      refine ⟨mk, _, rfl, .inl (.inl (.inl hmk2)), rfl, all_flat _, ?_⟩
      refine ⟨_, rfl, o, C, dx, _, rfl, f14.ins, TK.cl, TK.n8, (by show 7 < 1000; decide), ?_⟩
      rw [show (if (false : Bool) = true then !inV (V.str cl.2.2.1) ((markList B).map V.str) else inV (V.str cl.2.2.1) ((markList B).map V.str)) = decide (cl.2.2.1 ∈ markList B) from in_strs _ _]
      have f15 := f14.set (fs2 := putF "_is_goal_markable" (.bl (decide (cl.2.2.1 ∈ markList B))) (putF "_is_goal_open" (.bl (openB B cl.2.2.1)) (putF "_is_home_open" (.bl (openB B cl.2.1)) (putF "_piece" (.str (pieceS cl.2.2.2)) (putF "has" (.ref hs) (putF "kinds_of_rows" (.ref kr) (putF "column" (.str cl.1) (putF "begin" (.ref bg) []))))))))
      clear f14 hmk2
      show tSeq _ _ _ _ (upd H13 o (.ins C dx (putF "_is_goal_markable" (.bl (decide (cl.2.2.1 ∈ markList B))) (putF "_is_goal_open" (.bl (openB B cl.2.2.1)) (putF "_is_home_open" (.bl (openB B cl.2.1)) (putF "_piece" (.str (pieceS cl.2.2.2)) (putF "has" (.ref hs) (putF "kinds_of_rows" (.ref kr) (putF "column" (.str cl.1) (putF "begin" (.ref bg) []))))))))))
      generalize upd H13 o _ = H14 at *
      walk_at "ls"
      obtain ⟨d5, kk, c0, m0, x0, hob⟩ := bk f15
      refine ⟨ob, _, _, rfl, hob, no (by decide +kernel) (by decide +kernel) (by decide +kernel) (by decide +kernel), ?_⟩
      refine ⟨ob, _, _, _, rfl, hbb f15.but, fun l3 cy hl3 hcy => ?_⟩
      rw [csU_rows] at hcy
      have f16 := f15.same (same_new (o := .lst cy) hl3)
      have h16 := upd_same (H := H14) (a := l3) (o := .lst cy)
      replace hcy := hcy.keep (.same (same_new (o := .lst cy) hl3))
      clear f15 hob
      generalize upd H14 l3 (.lst cy) = H15 at *
      have hmk2 : H15 mk = some (.lst ((markList B).map V.str)) := f16.at_ (mk, _) (by simp)
      refine ⟨l3, rfl, ⟨_, .inl (.inl h16)⟩, fun D2 hD2 => ?_⟩
      have lcy : cy.length = B.cs.length := by rw [hcy.len, List.length_map]
      have lz : B.cs.length < sizeLine := Nat.lt_of_le_of_lt bc8 (by decide)
      refine lc_rows (walk_list (xs := cy)) cy B.cs (fun d => some (V.bl (!decide (d.1 = cl.1) && (decide (d.2.1 = cl.2.1) && (d.2.2.2 && decide (d.2.2.1 ∈ markList B)))))) lcy.symm (fun i H x H' hi hy => hy) (by rw [lcy]; exact lz) (fun acc => .inl (.inl (by rw [upd_ne (ne_of_none h16 hD2)]; exact h16))) (fun j y z hj hyj hz => ?_) ?_
      · rw [lcy] at hj
        obtain ⟨zs, hzs, t, rfl, ht⟩ := TupsAt.get (hcy.keep (.same (same_new (o := .lst (madeR B.cs (fun d => some (V.bl (!decide (d.1 = cl.1) && (decide (d.2.1 = cl.2.1) && (d.2.2.2 && decide (d.2.2.1 ∈ markList B)))))) j)) hD2))) hyj
        rw [List.getElem?_map, hz] at hzs
        cases hzs
        refine ⟨t, _, rfl, .inl (.inl ht), rfl, _, _, rfl, _, _, rfl, _, _, rfl, _, _, rfl, rfl, rfl, ?_⟩
        unfold tYes
        dsimp only
        rw [if_pos rfl]
        refine andV2 (!decide (z.1 = cl.1)) (decide (z.2.1 = cl.2.1) && (z.2.2.2 && decide (z.2.2.1 ∈ markList B))) (fun Q' q' => ?_) (fun Q' q' => andV2 _ _ (fun Q' q' => ?_) (fun Q' q' => andV2 _ _ (fun Q' q' => ?_) (fun Q' q' => ?_) q') q') ?_
        · refine ⟨_, rfl, _, rfl, rfl, ?_⟩
          rw [str_dec]
          exact q'
        · refine ⟨_, rfl, _, rfl, rfl, ?_⟩
          rw [str_dec]
          exact q'
        · refine ⟨_, rfl, rfl, ?_⟩
          rw [fall_eq]
          exact q'
        · walk_at "ls"
          refine ⟨mk, _, rfl, .inl (.inl (.inl (same_new hD2 _ _ hmk2))), rfl, all_flat _, ?_⟩
          rw [show (if (false : Bool) = true then !inV (V.str z.2.2.1) ((markList B).map V.str) else inV (V.str z.2.2.1) ((markList B).map V.str)) = decide (z.2.2.1 ∈ markList B) from in_strs _ _]
          exact q'
        · walk_at "ls"
          exact lr_yes hz hj lz rfl
      · rw [fm_somes]
        have f17 := f16.same (same_new (o := .lst (B.cs.map fun d => V.bl (!decide (d.1 = cl.1) && (decide (d.2.1 = cl.2.1) && (d.2.2.2 && decide (d.2.2.1 ∈ markList B)))))) hD2)
        walk_at "ls"
        refine ⟨D2, B.cs.map fun d => (!decide (d.1 = cl.1) && (decide (d.2.1 = cl.2.1) && (d.2.2.2 && decide (d.2.2.1 ∈ markList B)))), rfl, .inl (.inl (by rw [List.map_map]; exact upd_same)), ?_⟩
        rw [List.any_map, show (B.cs.any (id ∘ fun d : Col4 => (!decide (d.1 = cl.1) && (decide (d.2.1 = cl.2.1) && (d.2.2.2 && decide (d.2.2.1 ∈ markList B)))))) = otherB B cl from rfl]
        refine ⟨_, rfl, o, C, dx, _, rfl, f17.ins, TK.cl, TK.n9, (by show 8 < 1000; decide), ?_⟩
        have f18 := f17.set (fs2 := putF "_has_other_way" (.bl (otherB B cl)) (putF "_is_goal_markable" (.bl (decide (cl.2.2.1 ∈ markList B))) (putF "_is_goal_open" (.bl (openB B cl.2.2.1)) (putF "_is_home_open" (.bl (openB B cl.2.1)) (putF "_piece" (.str (pieceS cl.2.2.2)) (putF "has" (.ref hs) (putF "kinds_of_rows" (.ref kr) (putF "column" (.str cl.1) (putF "begin" (.ref bg) [])))))))))
        clear f16 f17 h16 hcy hD2 hl3 hmk2
        generalize upd (upd H15 D2 _) o _ = H16 at *
        refine ⟨_, rfl, ?_⟩
        refine ⟨o, C, dx, _, _, rfl, f18.ins, TK.cl, TK.n5, (by rw [lookup_putF, if_neg (by decide +kernel), lookup_putF, if_neg (by decide +kernel), lookup_putF, if_neg (by decide +kernel), lookup_putF, if_neg (by decide +kernel), lookup_putF, if_pos rfl] : _ = some (V.str (pieceS cl.2.2.2))), ?_⟩
        refine ⟨(by show 3 ≤ sizeLine; decide), fun t ht => ?_⟩
        refine ⟨t, [pieceS cl.2.2.2, "X", "Y"], rfl, .inl (.inl upd_same), (by show 3 ≤ 3; decide), (by cases cl.2.2.2 <;> decide +kernel), fun H17 ls hls h17 s17 => ?_⟩
        have f19 := f18.same ((same_new (o := .tup [.str (pieceS cl.2.2.2), .str "X", .str "Y"]) ht).trans s17)
        clear f18 s17
        refine ⟨(by show 5 ≤ sizeLine; decide), fun pt hpt => ?_⟩
        have f20 := (f19.add h17 fun _ _ _ z => nomatch z).new (x := .tup [.ref aX, .ref aO, .ref aY, .ref aZ, .ref ls]) hpt fun _ _ _ z => nomatch z
        clear f19 h17
        refine ⟨_, rfl, o, C, dx, _, rfl, f20.ins, TK.cl, TK.n10, (by show 9 < 1000; decide), ?_⟩
        have f21 := f20.set (fs2 := cwF bg kr hs pt cl.1 cl.2.2.2 (openB B cl.2.1) (openB B cl.2.2.1) (decide (cl.2.2.1 ∈ markList B)) (otherB B cl))
        refine q _ ⟨dx, bg, kr, hs, pt, ls, f21.ins, f21.at_ (bg, _) ?_, f21.at_ (kr, _) ?_, f21.at_ (hs, _) ?_, f21.at_ (pt, _) ?_, f21.at_ (ls, _) ?_⟩ f21.but
        all_goals simp
end
end Ls
namespace Ls
open PySem PySem.Spec PyProof.Rows L2
/-! ### short steps -/
local macro_rules | `(tactic| walk_at "ls_ne") => `(tactic| first | assumption | exact Ne.symm (by assumption) | exact ne_of_none (by assumption) (by assumption) | exact Ne.symm (ne_of_none (by assumption) (by assumption)))
local macro_rules | `(tactic| walk_at "ls_hp") => `(tactic| first
  | with_reducible assumption
  | exact upd_same
  | exact Eq.trans (upd_ne (by walk_at "ls_ne")) (by walk_at "ls_hp"))
local macro_rules | `(tactic| walk_at "ls_st") => `(tactic| first
  | with_reducible assumption
  | exact Stm.upd (by walk_at "ls_st") (by first | walk_at "ls_ne" | exact (Stm.noneS (by assumption) (by assumption)).1) (by first | walk_at "ls_ne" | exact (Stm.noneS (by assumption) (by assumption)).2))
local macro_rules | `(tactic| walk_at "ls1") => `(tactic| first
  | refine ⟨_, rfl, ?_⟩
  | refine ⟨_, _, rfl, rfl, ?_⟩
  | refine ⟨_, _, _, _, rfl, rfl, .inl (.inl (by walk_at "ls_hp")), rfl, ?_⟩
  | refine ⟨_, _, _, _, rfl, rfl, (by walk_at "ls_hp"), rfl, ?_⟩
  | refine ⟨rfl, _, rfl, ?_⟩
  | refine ⟨.inl ⟨rfl, _, .inl (.inl (by walk_at "ls_hp"))⟩, ?_⟩)
local macro_rules | `(tactic| walk_at "ls") => `(tactic| repeat (walk_at "ls1"))

/-! ### tight kinds and columns -/
def bareOf (z : Str) : Str := "bare " ++ z
def tightL (B : Shp) (ck : List Str) : List Str := (markList B).filter fun z => decide (bareOf z ∈ ck)
abbrev Cl := Str × Str × Str × Bool
def tightC (B : Shp) (ck : List Str) : List Cl := B.cs.filter fun c => c.2.2.2 && (decide (c.2.1 ∈ tightL B ck) && decide (c.2.2.1 ∈ tightL B ck))
theorem filterMap_if {α β : Type} (p : α → Bool) (g : α → β) : ∀ l : List α, l.filterMap (fun a => if p a = true then some (g a) else none) = (l.filter p).map g
  | [] => rfl
  | a :: l => by
    rw [List.filterMap_cons, List.filter_cons, filterMap_if p g l]
    cases p a <;> rfl
theorem mark_len {B : Shp} (hB : B.Ok) : (markList B).length ≤ 3 := by
  unfold markList
  rw [List.length_map]
  exact Nat.le_trans (List.length_filter_le _ _) hB.nk3
theorem tight_len {B : Shp} (hB : B.Ok) (ck : List Str) : (tightL B ck).length ≤ 3 := Nat.le_trans (List.length_filter_le _ _) (mark_len hB)
theorem mark_nm {B : Shp} (hB : B.Ok) : ∀ z ∈ markList B, Nm z := fun z hz => by
  unfold markList at hz
  obtain ⟨k, hk, rfl⟩ := List.mem_map.mp hz
  exact hB.nm _ (List.mem_append_left _ (List.mem_map_of_mem (List.mem_filter.mp hk).1))
theorem bare_ok {z : Str} (h : Nm z) : okB 100 (bareOf z) = true := okB_mono (okB_append (show okB 5 "bare " = true by decide +kernel) (nm_ok h)) (by decide)
end Ls
namespace Ls
open PySem PySem.Spec PyProof.Rows L2
/-! ### short steps -/
local macro_rules | `(tactic| walk_at "ls_ne") => `(tactic| first | assumption | exact Ne.symm (by assumption) | exact ne_of_none (by assumption) (by assumption) | exact Ne.symm (ne_of_none (by assumption) (by assumption)))
local macro_rules | `(tactic| walk_at "ls_hp") => `(tactic| first
  | with_reducible assumption
  | exact upd_same
  | exact Eq.trans (upd_ne (by walk_at "ls_ne")) (by walk_at "ls_hp"))
local macro_rules | `(tactic| walk_at "ls_st") => `(tactic| first
  | with_reducible assumption
  | exact Stm.upd (by walk_at "ls_st") (by first | walk_at "ls_ne" | exact (Stm.noneS (by assumption) (by assumption)).1) (by first | walk_at "ls_ne" | exact (Stm.noneS (by assumption) (by assumption)).2))
local macro_rules | `(tactic| walk_at "ls1") => `(tactic| first
  | refine ⟨_, rfl, ?_⟩
  | refine ⟨_, _, rfl, rfl, ?_⟩
  | refine ⟨_, _, _, _, rfl, rfl, .inl (.inl (by walk_at "ls_hp")), rfl, ?_⟩
  | refine ⟨_, _, _, _, rfl, rfl, (by walk_at "ls_hp"), rfl, ?_⟩
  | refine ⟨rfl, _, rfl, ?_⟩
  | refine ⟨.inl ⟨rfl, _, .inl (.inl (by walk_at "ls_hp"))⟩, ?_⟩)
local macro_rules | `(tactic| walk_at "ls") => `(tactic| repeat (walk_at "ls1"))

/-! ### the law's way to what can be marked -/
def comesL (B : Shp) (i : Nat) : List Str → Prop := fun l => l.length ≤ 3 + 8 * i ∧ ∀ z, decide (z ∈ l) = comesB B i z
def fallsTo (B : Shp) (l : List Str) : List Str := (B.cs.filter fun c => c.2.2.2 && decide (c.2.2.1 ∈ l)).map (·.2.1)
def opens (B : Shp) : List Str := (B.ks.filter (·.2)).map (·.1)
theorem comesL_0 {B : Shp} (hB : B.Ok) : comesL B 0 (opens B) := by
  refine ⟨?_, fun z => ?_⟩
  · unfold opens
    rw [List.length_map]
    exact Nat.le_trans (List.length_filter_le _ _) hB.nk3
  · show decide (z ∈ opens B) = openB B z
    unfold opens openB
    rw [Bool.eq_iff_iff, decide_eq_true_eq, List.any_eq_true, List.mem_map]
    constructor
    · rintro ⟨k, hk, rfl⟩
      obtain ⟨h1, h2⟩ := List.mem_filter.mp hk
      exact ⟨k, h1, by rw [h2]; simp⟩
    · rintro ⟨k, hk, h⟩
      rw [Bool.and_eq_true, decide_eq_true_eq] at h
      exact ⟨k, List.mem_filter.mpr ⟨hk, h.2⟩, h.1⟩
theorem comesL_snoc {B : Shp} (hB : B.Ok) {i : Nat} {l : List Str} (h : comesL B i l) : comesL B (i + 1) (l ++ fallsTo B l) := by
  refine ⟨?_, fun z => ?_⟩
  · have h1 : (fallsTo B l).length ≤ 8 := by
      unfold fallsTo
      rw [List.length_map]
      exact Nat.le_trans (List.length_filter_le _ _) hB.nc
    have := h.1
    rw [List.length_append]
    omega
  · show _ = (openB B z || B.cs.any fun c => (decide (c.2.1 = z) && c.2.2.2) && comesB B i c.2.2.1)
    rw [Bool.eq_iff_iff, decide_eq_true_eq, List.mem_append, Bool.or_eq_true, List.any_eq_true]
    constructor
    · rintro (h1 | h1)
      · have h2 : comesB B i z = true := by rw [← h.2 z]; exact decide_eq_true h1
        have h3 : comesB B (i + 1) z = true := comes_mono B i z h2
        have h3' : (openB B z || B.cs.any fun c => (decide (c.2.1 = z) && c.2.2.2) && comesB B i c.2.2.1) = true := h3
        rw [Bool.or_eq_true, List.any_eq_true] at h3'
        exact h3'
      · unfold fallsTo at h1
        obtain ⟨c, hc, rfl⟩ := List.mem_map.mp h1
        obtain ⟨h2, h3⟩ := List.mem_filter.mp hc
        rw [Bool.and_eq_true, decide_eq_true_eq] at h3
        refine .inr ⟨c, h2, ?_⟩
        rw [h3.1, ← h.2, decide_eq_true h3.2]
        simp
    · rintro (h1 | ⟨c, hc, h1⟩)
      · exact .inl (of_decide_eq_true (by rw [h.2 z]; exact comes_open B h1 i))
      · rw [Bool.and_eq_true, Bool.and_eq_true, decide_eq_true_eq] at h1
        refine .inr ?_
        unfold fallsTo
        exact List.mem_map.mpr ⟨c, List.mem_filter.mpr ⟨hc, by rw [h1.1.2, h.2, h1.2]; rfl⟩, h1.1.1⟩
theorem comesL_mark {B : Shp} (hB : B.Ok) {l : List Str} (h : comesL B B.ks.length l) : (B.ks.filter fun k => decide (k.1 ∈ l)).map (·.1) = markList B := by
  unfold markList
  congr 1
  refine List.filter_congr fun k hk => ?_
  have hz := List.mem_map_of_mem (f := (·.1)) hk
  rw [h.2, mark_is hB hz]
  exact comes_all hB (Nat.le_refl _) hB.nk3 hz
theorem fallsTo_fm (B : Shp) (l : List Str) : B.cs.filterMap (fun c => if (c.2.2.2 && decide (c.2.2.1 ∈ l)) = true then some (V.str c.2.1) else none) = (fallsTo B l).map V.str := by
  rw [filterMap_if (fun c : Cl => c.2.2.2 && decide (c.2.2.1 ∈ l)) (fun c => V.str c.2.1)]
  unfold fallsTo
  rw [List.map_map]
  rfl
section
variable {P : Program} {w : World} {K : PySem.W.Frag} {mg : Str → Option Value} {base : Heap}
abbrev s__law_markable : Stmt := topS 62
theorem sc__law_markable : FnScope ["_law_b", "_law_found", "_law_turn", "_law_kind", "_law_is_open", "_law_column"] ["_law_b"] (defScope s__law_markable) := ⟨rfl, rfl, rfl, by decide +kernel, rfl, by decide +kernel, by decide +kernel⟩
abbrev N__law_markable : List Str := ["_law_b", "_law_found", "_law_turn", "_law_kind", "_law_is_open", "_law_column"]
def spMarkL : Sp := fun vs H Q _ => ∃ (S L b : Addr) (B : Shp) (ck : List Str), vs = [.ref b] ∧ ShpAt S L H b B ck ∧ B.Ok ∧
  ∀ (H' : Hp) (p : Addr), H p = none → H' p = some (.lst ((markList B).map V.str)) → Same H H' → Q (.ref p) H'
theorem ok_markL {f : Addr} {fd : FuncData} (F : Fun K "_law_markable" "_law_markable" s__law_markable f fd) (T : Bt mg) : FnOk P w K mg base CX0 1 f fd ["_law_b"] spMarkL := by
  refine F.ok sc__law_markable (fun vs H Q E h => ?_) (fun cdv A outer s H vs Q E hr h => ?_)
  · obtain ⟨S, L, b, B, ck, rfl, _⟩ := h
    rfl
  · obtain ⟨S, L, b, B, ck, rfl, ⟨ka, ca, ea, kx, cx, hb, hk, hkt, hc, hct, he, n1, n2, n3⟩, hB, q⟩ := h
    have hu := hu_of hr
    refine ⟨_, (pss_cons (ps_set (i := 1) sc__law_markable.nd rfl (Or.inr rfl) (pe_lc (own := [("_law_kind", 3), ("_law_is_open", 4)]) (g := gTup K 2 (gCons (gName 3) (gCons (gName 4) gNil))) (by rfl) sc__law_markable.nd (pi_list (pe_dget hu (pv 0) pe_str (fun _ _ => rfl))) (blkOk_by (own := [("_law_kind", 3), ("_law_is_open", 4)]) (N := N__law_markable) (sc := defScope s__law_markable) (by decide +kernel)) (fun _ _ _ _ _ => (pg_tup rfl (pgs_cons (pg_name (i := 3) sc__law_markable.nd rfl (Or.inl rfl) (Or.inr rfl)) (pgs_cons (pg_name (i := 4) sc__law_markable.nd rfl (Or.inl rfl) (Or.inr rfl)) pgs_nil)))) (fun _ _ _ _ _ => (pts_one (pt_val (pv 4)))) (fun _ _ _ _ _ => (pv 3))))
      (pss_cons (ps_for PassesOwn.never rfl (pi_list (pe_dget hu (pv 0) pe_str (fun _ _ => rfl))) (pg_name (i := 2) sc__law_markable.nd rfl (Or.inl rfl)) (pss_one (ps_set (i := 1) sc__law_markable.nd rfl (Or.inr rfl) (pe_op op_cat (pv 1) (pe_lc (own := [("_law_column", 5)]) (g := gName 5) (by rfl) sc__law_markable.nd (pi_list (pe_dget hu (pv 0) pe_str (fun _ _ => rfl))) (blkOk_by (own := [("_law_column", 5)]) (N := N__law_markable) (sc := defScope s__law_markable) (by decide +kernel)) (fun _ _ _ _ _ => (pg_name (i := 5) sc__law_markable.nd rfl (Or.inl rfl) (Or.inr rfl))) (fun _ _ _ _ _ => (pts_one (PW.pt (pw_and (pt_cmpR op_eq (pe_ix (ixT K) (pv 5) pe_int (fun _ _ => rfl)) pe_str (nomark _)) (pw_and1 (pt_cmpR (in_seq K) (pe_ix (ixT K) (pv 5) pe_int (fun _ _ => rfl)) (pv 1) (by rfl))))))) (fun _ _ _ _ _ => (pe_ix (ixT K) (pv 5) pe_int (fun _ _ => rfl))))))))
      (pss_one (ps_ret (pe_lc (own := [("_law_kind", 3), ("_law_is_open", 4)]) (g := gTup K 2 (gCons (gName 3) (gCons (gName 4) gNil))) (by rfl) sc__law_markable.nd (pi_list (pe_dget hu (pv 0) pe_str (fun _ _ => rfl))) (blkOk_by (own := [("_law_kind", 3), ("_law_is_open", 4)]) (N := N__law_markable) (sc := defScope s__law_markable) (by decide +kernel)) (fun _ _ _ _ _ => (pg_tup rfl (pgs_cons (pg_name (i := 3) sc__law_markable.nd rfl (Or.inl rfl) (Or.inr rfl)) (pgs_cons (pg_name (i := 4) sc__law_markable.nd rfl (Or.inl rfl) (Or.inr rfl)) pgs_nil)))) (fun _ _ _ _ _ => (pts_one (pt_cmpR (in_seq K) (pv 3) (pv 1) (by rfl)))) (fun _ _ _ _ _ => (pv 3))))))), ?_⟩
    have lk : kx.length = B.ks.length := by rw [hkt.len, List.length_map]
    have lc : cx.length = B.cs.length := by rw [hct.len, List.length_map]
    have nk3 := hB.nk3
    have nc8 := hB.nc
    have lzk : B.ks.length < sizeLine := Nat.lt_of_le_of_lt nk3 (by decide)
    have lzc : B.cs.length < sizeLine := Nat.lt_of_le_of_lt nc8 (by decide)
    walk_at "ls"
    refine ⟨b, _, rfl, dg_kinds hb, ka, rfl, ⟨_, .inl (.inl hk)⟩, fun D hD => ?_⟩
    refine lc_rows (walk_list (xs := kx)) kx B.ks (fun k => if k.2 = true then some (V.str k.1) else none) lk.symm (fun i H x H' hi hy => hy) (by rw [lk]; exact lzk) (fun acc => .inl (.inl (by rw [upd_ne (ne_of_none hk hD)]; exact hk))) (fun j y z hj hyj hz => ?_) ?_
    · rw [lk] at hj
      obtain ⟨ys, hys, t, rfl, ht⟩ := TupsAt.get (hkt.keep (.new (o := .lst (madeR B.ks (fun k => if k.2 = true then some (V.str k.1) else none) j)) hD)) hyj
      rw [List.getElem?_map, hz] at hys
      cases hys
      refine ⟨t, _, rfl, .inl (.inl ht), rfl, _, _, rfl, _, _, rfl, rfl, rfl, ?_⟩
      walk_at "ls"
      refine ite2 (fun e => ?_) (fun e => ?_)
      · walk_at "ls"
        exact lr_yes hz hj lzk (if_pos e)
      · exact lr_no hz (if_neg e)
    rw [filterMap_if (fun k : Str × Bool => k.2) (fun k => V.str k.1)]
    walk_at "ls"
    have s0 : Same H (upd H D (.lst ((B.ks.filter (·.2)).map fun k => V.str k.1))) := same_new hD
    refine ⟨b, _, rfl, dg_kinds (s0 _ _ hb), ka, rfl, ⟨_, .inl (.inl (s0 _ _ hk))⟩, ?_⟩
    refine for_it (walk_list (xs := kx)) (fun i σ H1 => ∃ (v : Option V) (p : Addr) (l : List Str), σ = [some (.ref b), some (.ref p), v, none, none, none] ∧ comesL B i l ∧ H p = none ∧ H1 p = some (.lst (l.map V.str)) ∧ Same H H1)
      ⟨none, D, opens B, rfl, comesL_0 hB, hD, by rw [upd_same]; unfold opens; rw [List.map_map]; rfl, s0⟩ (fun i σ H1 _ ⟨_, _, _, _, _, _, _, s1⟩ => .inl (.inl (s1 _ _ hk))) ?_ ?_
    · rintro i y σ Hz H1 hi ⟨v, p, l, rfl, hl, hp, h1, s1⟩ ⟨rfl, hy⟩
      rw [lk] at hi
      have hlen := hl.1
      walk_at "ls"
      refine ⟨b, _, rfl, dg_columns (s1 _ _ hb), ca, rfl, ⟨_, .inl (.inl (s1 _ _ hc))⟩, fun D2 hD2 => ?_⟩
      have npD : p ≠ D2 := ne_of_none h1 hD2
      refine lc_rows (walk_list (xs := cx)) cx B.cs (fun c => if (c.2.2.2 && decide (c.2.2.1 ∈ l)) = true then some (V.str c.2.1) else none) lc.symm (fun i H x H' hi hy => hy) (by rw [lc]; exact lzc) (fun acc => .inl (.inl (by rw [upd_ne (ne_of_none (s1 _ _ hc) hD2)]; exact s1 _ _ hc))) (fun j yj cl hj hyj hz => ?_) ?_
      · rw [lc] at hj
        obtain ⟨ys, hys, t, rfl, ht⟩ := TupsAt.get (hct.keep (.same (s1.trans (same_new (o := .lst (madeR B.cs (fun c => if (c.2.2.2 && decide (c.2.2.1 ∈ l)) = true then some (V.str c.2.1) else none) j)) hD2)))) hyj
        rw [List.getElem?_map, hz] at hys
        cases hys
        have hp2 : (upd H1 D2 (.lst (madeR B.cs (fun c => if (c.2.2.2 && decide (c.2.2.1 ∈ l)) = true then some (V.str c.2.1) else none) j))) p = some (.lst (l.map V.str)) := by rw [upd_ne npD]; exact h1
        refine ⟨rfl, ?_⟩
        refine and2 cl.2.2.2 (decide (cl.2.2.1 ∈ l)) (fun Q' q' => ?_) (fun _ Q' q' => ?_) ?_
        · walk_at "ls"
          rw [fall_eq]
          exact q'
        · walk_at "ls"
          refine ⟨p, _, rfl, .inl (.inl (.inl hp2)), rfl, all_flat _, _, rfl, ?_⟩
          rw [in_strs]
          exact q'
        · refine ite2 (fun e => ?_) (fun e => ?_)
          · walk_at "ls"
            exact lr_yes hz hj lzc (if_pos e)
          · exact lr_no hz (if_neg e)
      rw [fallsTo_fm]
      have hl2 := comesL_snoc hB hl
      have hlen2 := hl2.1
      have s2 : Same H1 (upd H1 D2 (.lst ((fallsTo B l).map V.str))) := same_new hD2
      refine ⟨p, D2, _, _, rfl, rfl, s2 _ _ h1, upd_same, Nat.le_trans (show _ ≤ 1000 by rw [List.length_append] at hlen2; rw [List.length_map, List.length_map]; omega) (by decide), fun p2 hp2 => ?_⟩
      refine ⟨_, p2, l ++ fallsTo B l, rfl, hl2, (s1.trans s2).free hp2, by rw [upd_same, List.map_append], (s1.trans s2).trans (same_new hp2)⟩
    · rintro σ H1 ⟨v, p, l, rfl, hl, hp, h1, s1⟩
      rw [lk] at hl
      walk_at "ls"
      refine ⟨b, _, rfl, dg_kinds (s1 _ _ hb), ka, rfl, ⟨_, .inl (.inl (s1 _ _ hk))⟩, fun D2 hD2 => ?_⟩
      have npD : p ≠ D2 := ne_of_none h1 hD2
      refine lc_rows (walk_list (xs := kx)) kx B.ks (fun k => if decide (k.1 ∈ l) = true then some (V.str k.1) else none) lk.symm (fun i H x H' hi hy => hy) (by rw [lk]; exact lzk) (fun acc => .inl (.inl (by rw [upd_ne (ne_of_none (s1 _ _ hk) hD2)]; exact s1 _ _ hk))) (fun j yj z hj hyj hz => ?_) ?_
      · rw [lk] at hj
        obtain ⟨ys, hys, t, rfl, ht⟩ := TupsAt.get (hkt.keep (.same (s1.trans (same_new (o := .lst (madeR B.ks (fun k => if decide (k.1 ∈ l) = true then some (V.str k.1) else none) j)) hD2)))) hyj
        rw [List.getElem?_map, hz] at hys
        cases hys
        have hp2 : (upd H1 D2 (.lst (madeR B.ks (fun k => if decide (k.1 ∈ l) = true then some (V.str k.1) else none) j))) p = some (.lst (l.map V.str)) := by rw [upd_ne npD]; exact h1
        refine ⟨t, _, rfl, .inl (.inl ht), rfl, _, _, rfl, _, _, rfl, rfl, rfl, ?_⟩
        walk_at "ls"
        refine ⟨p, _, rfl, .inl (.inl (.inl hp2)), rfl, all_flat _, _, rfl, ?_⟩
        rw [in_strs]
        refine ite2 (fun e => ?_) (fun e => ?_)
        · walk_at "ls"
          exact lr_yes hz hj lzk (if_pos e)
        · exact lr_no hz (if_neg e)
      rw [filterMap_if (fun k : Str × Bool => decide (k.1 ∈ l)) (fun k => V.str k.1)]
      refine q _ D2 (s1.free hD2) ?_ (s1.trans (same_new hD2))
      rw [upd_same, ← comesL_mark hB hl, List.map_map]
      rfl
end
end Ls
namespace Ls
open PySem PySem.Spec PyProof.Rows L2
section
variable {X : Cx}
/-- repr(x): x data at an address, or None -/
def rReprN (K : PySem.W.Frag) : List V → Hp → VK → Prop := fun xs H Q => rReprX K xs H Q ∨ (xs = [.non] ∧ Q (.str "None") H)
theorem call_repr_dataN {k : Nat} (hgd : X.A.guards = some []) (hr : Room k X.A) : CallR X (.builtin "repr") (rReprN X.K) := by
  intro pins s σ H xs us Q I r h
  rcases h with h | ⟨rfl, q⟩
  · exact call_repr_dataX hgd hr pins s σ H xs us Q I r h
  · obtain ⟨u, rfl, ru⟩ := r.one
    cases ru
    refine PySem.P.repr_of_none ?_
    exact ⟨.str "None", H, I.kept (t' := s.toks + 1) (fun b o e => e), ⟨_, rfl⟩, q⟩
end
end Ls
namespace Ls
open PySem PySem.Spec PyProof.Rows L2
/-! ### short steps -/
local macro_rules | `(tactic| walk_at "ls_ne") => `(tactic| first | assumption | exact Ne.symm (by assumption) | exact ne_of_none (by assumption) (by assumption) | exact Ne.symm (ne_of_none (by assumption) (by assumption)))
local macro_rules | `(tactic| walk_at "ls_hp") => `(tactic| first
  | with_reducible assumption
  | exact upd_same
  | exact Eq.trans (upd_ne (by walk_at "ls_ne")) (by walk_at "ls_hp"))
local macro_rules | `(tactic| walk_at "ls_st") => `(tactic| first
  | with_reducible assumption
  | exact Stm.upd (by walk_at "ls_st") (by first | walk_at "ls_ne" | exact (Stm.noneS (by assumption) (by assumption)).1) (by first | walk_at "ls_ne" | exact (Stm.noneS (by assumption) (by assumption)).2))
local macro_rules | `(tactic| walk_at "ls1") => `(tactic| first
  | refine ⟨_, rfl, ?_⟩
  | refine ⟨_, _, rfl, rfl, ?_⟩
  | refine ⟨_, _, _, _, rfl, rfl, .inl (.inl (by walk_at "ls_hp")), rfl, ?_⟩
  | refine ⟨_, _, _, _, rfl, rfl, (by walk_at "ls_hp"), rfl, ?_⟩
  | refine ⟨rfl, _, rfl, ?_⟩
  | refine ⟨.inl ⟨rfl, _, .inl (.inl (by walk_at "ls_hp"))⟩, ?_⟩)
local macro_rules | `(tactic| walk_at "ls") => `(tactic| repeat (walk_at "ls1"))

theorem tups_rows {K : PySem.W.Frag} {H : Hp} : ∀ {xs : List V} {yss : List (List V)}, TupsAt H xs yss → RowsAt K H xs yss
  | _, _, .nil => .nil
  | _, _, .cons ⟨t, e, h⟩ r => .cons ⟨t, e, .inr (.inl (.inl h))⟩ (tups_rows r)
section
variable {P : Program} {w : World} {K : PySem.W.Frag} {mg : Str → Option Value} {base : Heap}
/-! ### _law_same of what may be None -/
def spSameN (K : PySem.W.Frag) : Sp := fun vs H Q _ => ((∃ (a b : Addr) (d : PyData), vs = [.ref a, .ref b] ∧ DpX K H (.ref a) d ∧ DpX K H (.ref b) d ∧ (d.showable = true ∧ d.depth ≤ 60 ∧ d.shown.length ≤ sizeLine)) ∨ vs = [.non, .non]) ∧ Q (.bl true) H
theorem ok_sameN {f : Addr} {fd : FuncData} (F : Fun K "_law_same" "_law_same" s__law_same f fd) (T : Bt mg) : FnG P w K mg base CX0 1 f fd ["_law_found", "_law_due_here"] (spSameN K) := by
  refine fun_okG F sc__law_same (fun vs H Q E h => ?_) (fun cdv A outer s H vs Q E hgd hr h => ?_)
  · obtain ⟨⟨a, b, d, rfl, _⟩ | rfl, _⟩ := h <;> rfl
  · obtain ⟨⟨a, b, d, rfl, ha, hb, ⟨h1, h3, h4⟩⟩ | rfl, q⟩ := h
    · have hu := hu_of hr
      refine ⟨_, (pss_one (ps_ret (pe_cmpR op_eq (pe_callB (call_repr_dataN hgd hr) (by rfl) T.m_repr (by decide +kernel) (pa_cons (pv 0) pa_nil)) (pe_callB (call_repr_dataN hgd hr) (by rfl) T.m_repr (by decide +kernel) (pa_cons (pv 1) pa_nil)) (nomark _)))), ?_⟩
      walk_at "ls"
      refine .inl ⟨a, d, rfl, ha, h1, h3, h4, ?_⟩
      walk_at "ls"
      refine .inl ⟨b, d, rfl, hb, h1, h3, h4, ?_⟩
      refine ⟨rfl, ?_⟩
      rw [decide_eq_true rfl]
      exact q
    · have hu := hu_of hr
      refine ⟨_, (pss_one (ps_ret (pe_cmpR op_eq (pe_callB (call_repr_dataN hgd hr) (by rfl) T.m_repr (by decide +kernel) (pa_cons (pv 0) pa_nil)) (pe_callB (call_repr_dataN hgd hr) (by rfl) T.m_repr (by decide +kernel) (pa_cons (pv 1) pa_nil)) (nomark _)))), ?_⟩
      walk_at "ls"
      refine .inr ⟨rfl, ?_⟩
      walk_at "ls"
      refine .inr ⟨rfl, ?_⟩
      refine ⟨rfl, ?_⟩
      rw [decide_eq_true rfl]
      exact q
/-! ### _law_made -/
abbrev s__law_made : Stmt := topS 61
theorem sc__law_made : FnScope ["_law_b"] ["_law_b"] (defScope s__law_made) := ⟨rfl, rfl, rfl, by decide +kernel, rfl, by decide +kernel, by decide +kernel⟩
abbrev N__law_made : List Str := ["_law_b"]
def spMadeL (C : Addr) : Sp := fun vs H Q _ => ∃ (S L b : Addr) (B : Shp) (ck : List Str), vs = [.ref b] ∧ ShpAt S L H b B ck ∧ B.Ok ∧ (∀ z ∈ ck, z ∈ menu B) ∧ ck.length ≤ 1000 ∧
  ∀ (H' : Hp) (o : Addr), BookS C H' o B ((menu B).filter fun z => decide (z ∈ ck)) → Same H H' → Q (.ref o) H'
theorem ok_madeL {C : Addr} {A : ErrA} {f : Addr} {fd : FuncData} (F : Fun K "_law_made" "_law_made" s__law_made f fd) (O_Book : OwnCR P w K mg base 5 C "Book" ["self", "kinds", "columns", "checks"] (spInit K C A)) : FnOk P w K mg base CX0 7 f fd ["_law_b"] (spMadeL C) := by
  refine F.ok sc__law_made (fun vs H Q E h => ?_) (fun cdv A' outer s H vs Q E hr h => ?_)
  · obtain ⟨S, L, b, B, ck, rfl, _⟩ := h
    rfl
  · obtain ⟨S, L, b, B, ck, rfl, ⟨ka, ca, ea, kx, cx, hb, hk, hkt, hc, hct, he, n1, n2, n3⟩, hB, hck, lck, q⟩ := h
    have hu := hu_of hr
    refine ⟨_, (pss_one (ps_ret (own_makeR O_Book hr (by first | decide | omega) L2.takes0 (pa_cons (pe_dget hu (pv 0) pe_str (fun _ _ => rfl)) (pa_cons (pe_dget hu (pv 0) pe_str (fun _ _ => rfl)) (pa_cons (pe_dget hu (pv 0) pe_str (fun _ _ => rfl)) pa_nil)))))), ?_⟩
    walk_at "ls"
    refine ⟨b, _, rfl, dg_kinds hb, ?_⟩
    walk_at "ls"
    refine ⟨b, _, rfl, dg_columns hb, ?_⟩
    walk_at "ls"
    refine ⟨b, _, rfl, dg_checks hb, ?_⟩
    intro o dx ho hdx hne
    have s0 : Same H (upd (upd H dx (.own o)) o (.ins C dx [])) := (same_new hdx).trans (same_new (by rw [upd_ne (Ne.symm hne)]; exact ho))
    have nk3 := hB.nk3
    have nc8 := hB.nc
    have berr : bookErr (ksU B) (csU B) (ck.map V.str) = none := book_fine hB.fine hck
    refine ⟨o, dx, ka, ca, ea, kx, cx, ck.map V.str, ksU B, csU B, rfl, upd_same, .inl (.inl (.inl (s0 _ _ hk))), ?_, .inl (.inl (.inl (s0 _ _ hc))), ?_, .inl (.inl (.inl (s0 _ _ he))), fun k hk => ?_, fun c hc => ?_, fun v hv => ?_, ?_, ?_, ?_, ?_⟩
    · rw [ksU_rows]
      exact RowsAt.same (tups_rows hkt) s0
    · rw [csU_rows]
      exact RowsAt.same (tups_rows hct) s0
    · obtain ⟨k0, hk0, rfl⟩ := List.mem_map.mp hk
      exact .inl ⟨_, rfl, Nat.le_trans (hB.nm _ (List.mem_append_left _ (List.mem_map_of_mem hk0))).1.2.1 (by decide)⟩
    · obtain ⟨c0, hc0, rfl⟩ := List.mem_map.mp hc
      refine ⟨.inl ⟨_, rfl, Nat.le_trans (hB.nm _ (List.mem_append_right _ (List.mem_map_of_mem hc0))).1.2.1 (by decide)⟩, .inl ⟨_, rfl, Nat.le_trans (hB.nm _ (List.mem_append_left _ (hB.home c0 hc0))).1.2.1 (by decide)⟩, .inl ⟨_, rfl, Nat.le_trans (hB.nm _ (List.mem_append_left _ (hB.goal c0 hc0))).1.2.1 (by decide)⟩, .inl ⟨_, rfl, ?_⟩⟩
      cases c0.2.2.2 <;> decide
    · obtain ⟨z, hz, rfl⟩ := List.mem_map.mp hv
      exact .inl ⟨_, rfl, Nat.le_trans (okB_len (menu_ok hB z (hck z hz))) (by decide)⟩
    · unfold ksU
      rw [List.length_map]
      omega
    · unfold csU
      rw [List.length_map]
      omega
    · rw [List.length_map]
      exact lck
    · rw [berr]
      intro H2 hb2 bt
      rw [menuU_is, show (ck.map V.str).map strOf = ck by rw [List.map_map]; exact List.map_id ck] at hb2
      exact ⟨rfl, q H2 o hb2 fun b u e => bt b u (ne_of_none e ho) (s0 _ _ e)⟩
end
end Ls
namespace Ls
open PySem PySem.Spec PyProof.Rows L2
/-! ### a dict display of one pair, its key a tuple -/
def tDisp1T (tk tv : TE) : TE := fun σ H Q => ∀ p, H p = none → tPairs [(tk, tv)] σ (upd H p (.dT [])) fun ps H2 => H2 p = some (.dT []) ∧ ∃ (b : Addr) (ks : List Key) (y : V), ps = [(.ref b, y)] ∧ H2 b = some (.tup (ks.map kV)) ∧ Q (.ref p) (upd H2 p (.dT [(ks, y)]))
theorem pe_disp1T {X : Cx} {k v : Expr} {tk tv : TE} {pos : Pos} (hu : X.A.units + 1 < cLine) (hk : PE X k tk) (hv : PE X v tv) : PE X (.Dict [some k] [v] pos) (tDisp1T tk tv) := by
  refine ⟨fun pins s σ H Q I q => ?_⟩
  have fr := I.hok.fresh (Nat.le_refl s.heap.objs.size)
  have J := Inv.laid (a := s.heap.objs.size) (o := .dT []) (h' := s.heap.push { cls := .type "dict", data := .dict #[] }) (t' := s.toks) I (fun _ _ e => Heap.get?_push_of_some _ e) (Nat.le_refl _) (dt_empty s.heap I.big)
  have P := (pps_cons (pos := pos) hk hv pps_nil).run pins _ σ _ _ J (q _ fr)
  have len : (pairTrees [some k] [v] X.env pos).length = 1 := pairTrees_length [some k] [v] X.env pos rfl rfl
  rw [arm_eval_Dict, zip_pairTrees [some k] [v] X.env pos rfl rfl, dictDisplay_pairs _ (fun e => by rw [e] at len; cases len) (by rw [len]; decide)]
  refine wpAny_bind (wpAny_standAt (wpAny_bind ?_))
  show wpAny _ _ (do
    let d ← alloc { cls := .type "dict", data := .dict #[] }
    _) _ _ s
  refine wpAny_bind (wpAny_alloc (wpAny_bind (wpAny_holding ?_)))
  rw [if_pos (show (pairTrees [some k] [v] X.env pos).length ≤ 15 by rw [len]; decide)]
  refine wpAny_bind (thn P fun vs s1 ⟨ps, H2, I2, rel, e, b, ks, y, ep, eb, q2⟩ => ?_)
  subst ep
  cases rel with
  | @cons _ z _ _ r0 rt =>
    cases rt
    obtain ⟨u, w2⟩ := z
    obtain ⟨ru, ry⟩ := r0
    obtain rfl : u = Value.ref b := ru
    refine wpAny_holding (wpAny_bind ?_)
    rw [List.forIn_cons]
    obtain ⟨_, hd, xs, rx, dd⟩ := dt_of I2.hok e
    have hx : xs.length ≤ sizeLine := by rw [← Paired.length rx]; exact Nat.zero_le _
    refine wpAny_bind (wpAny_bind (wpAny_dictSet_heap (hsz := hx) (show X.A.units < cLine by omega) (key_of I2.hok eb) dd fun h' dd' hs => wpAny_pure ?_))
    show wpAny _ _ (forIn [] _ _) _ _ _
    rw [List.forIn_nil]
    refine wpAny_pure (wpAny_pure (wpAny_pure ?_))
    obtain ⟨o, es, ep, ho, g2, g3, g4, _, g5⟩ := dd'
    refine wpAny_pure ⟨.ref s.heap.objs.size, _, d_write (ob := .dT [(ks, y)]) I2 (by rw [e]; exact True.intro) hs ⟨o, ho⟩ ⟨(by show 1 ≤ sizeLine; decide), hd, _, (rx.put ks eb ry).keeps fun c ys ec => ?_, o, es, ep, ho, g2, g3, g4, g5⟩, rfl, q2⟩
    rw [upd_ne (ne_of ec e (fun z => nomatch z))]
    exact ec
/-- rules that name K, for places where the context is bound -/
theorem pi_tupK {X : Cx} (K : PySem.W.Frag) {tg l : Expr} {tl : TE} (hl : PE X l tl) (h : X.K = K := by rfl) : PI X tg l (iTup K tl) := by
  subst h
  exact pi_tup hl
end Ls
namespace Ls
open PySem PySem.Spec PyProof.Rows L2
/-! ### short steps -/
local macro_rules | `(tactic| walk_at "ls_ne") => `(tactic| first | assumption | exact Ne.symm (by assumption) | exact ne_of_none (by assumption) (by assumption) | exact Ne.symm (ne_of_none (by assumption) (by assumption)))
local macro_rules | `(tactic| walk_at "ls_hp") => `(tactic| first
  | with_reducible assumption
  | exact upd_same
  | exact Eq.trans (upd_ne (by walk_at "ls_ne")) (by walk_at "ls_hp"))
local macro_rules | `(tactic| walk_at "ls_st") => `(tactic| first
  | with_reducible assumption
  | exact Stm.upd (by walk_at "ls_st") (by first | walk_at "ls_ne" | exact (Stm.noneS (by assumption) (by assumption)).1) (by first | walk_at "ls_ne" | exact (Stm.noneS (by assumption) (by assumption)).2))
local macro_rules | `(tactic| walk_at "ls1") => `(tactic| first
  | refine ⟨_, rfl, ?_⟩
  | refine ⟨_, _, rfl, rfl, ?_⟩
  | refine ⟨_, _, _, _, rfl, rfl, .inl (.inl (by walk_at "ls_hp")), rfl, ?_⟩
  | refine ⟨_, _, _, _, rfl, rfl, (by walk_at "ls_hp"), rfl, ?_⟩
  | refine ⟨rfl, _, rfl, ?_⟩
  | refine ⟨.inl ⟨rfl, _, .inl (.inl (by walk_at "ls_hp"))⟩, ?_⟩)
local macro_rules | `(tactic| walk_at "ls") => `(tactic| repeat (walk_at "ls1"))

/-! ### the lists of a watch's state, as texts -/
def hasRoomB (l : Str) (lone : Bool) : Bool := decide (l = "") || (decide (l.length = 1) && !lone)
def withL (l x : Str) : Str := if (!decide (x.cps.toList < l.cps.toList)) = true then l ++ x else x ++ l
def takenAt (l : Str) (i : Nat) : Option (Str × Str) := if (!decide (l.cps.toList.getD i 0 ∈ (cutS l none (some (i : Int))).cps.toList)) = true then some (one (l.cps.toList.getD i 0), cutS l none (some (i : Int)) ++ cutS l (some ((i : Int) + 1)) none) else none
def takenL (l : Str) : List (Str × Str) := (List.range l.cps.size).filterMap (takenAt l)
def ssV (p : Str × Str) : List V := [.str p.1, .str p.2]
section
variable {P : Program} {w : World} {K : PySem.W.Frag} {mg : Str → Option Value} {base : Heap}
abbrev s__has_room : Stmt := topS 45
theorem sc__has_room : FnScope ["lists", "is_lone"] ["lists", "is_lone"] (defScope s__has_room) := ⟨rfl, rfl, rfl, by decide +kernel, rfl, by decide +kernel, by decide +kernel⟩
abbrev N__has_room : List Str := ["lists", "is_lone"]
def spRoom : Sp := fun vs H Q _ => ∃ (l : Str) (b : Bool), vs = [.str l, .bl b] ∧ l.length ≤ 10 ∧ Q (.bl (hasRoomB l b)) H
theorem ok_room {f : Addr} {fd : FuncData} (F : Fun K "_has_room" "_has_room" s__has_room f fd) (T : Bt mg) : FnOk P w K mg base CX0 1 f fd ["lists", "is_lone"] spRoom := by
  refine F.ok sc__has_room (fun vs H Q E h => ?_) (fun cdv A outer s H vs Q E hr h => ?_)
  · obtain ⟨l, b, rfl, _⟩ := h
    rfl
  · obtain ⟨l, b, rfl, ll, q⟩ := h
    have hu := hu_of hr
    refine ⟨_, (pss_one (ps_ret (pe_or (pe_cmpR op_eq (pv 0) pe_str (nomark _)) (pe_one (pe_and (pe_cmpR op_eq (pe_callB call_len_str (by rfl) T.m_len (by decide +kernel) (pa_cons (pv 0) pa_nil)) pe_int (nomark _)) (pe_one (pe_not (pv 1)))))))), ?_⟩
    walk_at "ls"
    refine ite2 (fun e => ?_) (fun e => ?_)
    · have z : hasRoomB l b = true := by
        unfold hasRoomB
        rw [decide_eq_true (V.str.inj (of_decide_eq_true e))]
        rfl
      rw [z] at q
      exact q
    · have ne : ¬ l = "" := fun z => e (decide_eq_true (congrArg V.str z))
      walk_at "ls"
      refine ⟨Nat.le_trans ll (by decide), ?_⟩
      walk_at "ls"
      have z : hasRoomB l b = (decide (l.length = 1) && !b) := by
        unfold hasRoomB
        rw [decide_eq_false ne]
        rfl
      rw [z] at q
      rw [show decide (V.int (l.length : Int) = V.int 1) = decide (l.length = 1) by refine decide_eq_decide.mpr ⟨fun e => ?_, fun e => by rw [e]; rfl⟩; injection e with e; omega]
      refine ite2 (fun e2 => ?_) (fun e2 => ?_)
      · rw [e2] at q
        walk_at "ls"
        exact q
      · rw [eq_false_of_ne_true e2] at q
        exact q
abbrev s__with_letter : Stmt := topS 46
theorem sc__with_letter : FnScope ["lists", "letter"] ["lists", "letter"] (defScope s__with_letter) := ⟨rfl, rfl, rfl, by decide +kernel, rfl, by decide +kernel, by decide +kernel⟩
abbrev N__with_letter : List Str := ["lists", "letter"]
def spWithLt : Sp := fun vs H Q _ => ∃ (l x : Str), vs = [.str l, .str x] ∧ l.length ≤ 10 ∧ x.length ≤ 10 ∧ Q (.str (withL l x)) H
theorem ok_withLt {f : Addr} {fd : FuncData} (F : Fun K "_with_letter" "_with_letter" s__with_letter f fd) (T : Bt mg) : FnOk P w K mg base CX0 1 f fd ["lists", "letter"] spWithLt := by
  refine F.ok sc__with_letter (fun vs H Q E h => ?_) (fun cdv A outer s H vs Q E hr h => ?_)
  · obtain ⟨l, x, rfl, _⟩ := h
    rfl
  · obtain ⟨l, x, rfl, ll, lx, q⟩ := h
    have hu := hu_of hr
    refine ⟨_, (pss_one (ps_ret (pe_ifExp (pt_cmpR op_le_str (pv 0) (pv 1) (nomark _)) (pe_op op_add_str (pv 0) (pv 1)) (pe_op op_add_str (pv 1) (pv 0))))), ?_⟩
    walk_at "ls"
    have z : withL l x = if (!decide (x.cps.toList < l.cps.toList)) = true then l ++ x else x ++ l := rfl
    refine ite2 (fun e => ?_) (fun e => ?_)
    · rw [if_pos e] at z
      rw [z] at q
      walk_at "ls"
      exact ⟨Nat.le_trans (Nat.add_le_add ll lx) (by decide), q⟩
    · rw [if_neg e] at z
      rw [z] at q
      walk_at "ls"
      exact ⟨Nat.le_trans (Nat.add_le_add lx ll) (by decide), q⟩
abbrev s__letters_taken : Stmt := topS 47
theorem sc__letters_taken : FnScope ["lists", "at", "letter"] ["lists"] (defScope s__letters_taken) := ⟨rfl, rfl, rfl, by decide +kernel, rfl, by decide +kernel, by decide +kernel⟩
abbrev N__letters_taken : List Str := ["lists", "at", "letter"]
def spTaken : Sp := fun vs H Q _ => ∃ (l : Str), vs = [.str l] ∧ l.length ≤ 10 ∧ ∀ (H' : Hp) (p : Addr) (xs : List V), H p = none → H' p = some (.lst xs) → TupsAt H' xs ((takenL l).map ssV) → Same H H' → Q (.ref p) H'
theorem ok_taken {f : Addr} {fd : FuncData} (F : Fun K "_letters_taken" "_letters_taken" s__letters_taken f fd) (T : Bt mg) (T2 : Bt2 mg) : FnOk P w K mg base CX0 1 f fd ["lists"] spTaken := by
  refine F.ok sc__letters_taken (fun vs H Q E h => ?_) (fun cdv A outer s H vs Q E hr h => ?_)
  · obtain ⟨l, rfl, _⟩ := h
    rfl
  · obtain ⟨l, rfl, ll, q⟩ := h
    have hu := hu_of hr
    refine ⟨_, (pss_one (ps_ret (pe_lc (own := [("at", 1), ("letter", 2)]) (g := gTup K 2 (gCons (gName 1) (gCons (gName 2) gNil))) (by rfl) sc__letters_taken.nd (pi_enumS (by rfl) T2.m_enumerate (pa_cons (pv 0) pa_nil)) (blkOk_by (own := [("at", 1), ("letter", 2)]) (N := N__letters_taken) (sc := defScope s__letters_taken) (by decide +kernel)) (fun _ _ _ _ _ => (pg_tup rfl (pgs_cons (pg_name (i := 1) sc__letters_taken.nd rfl (Or.inl rfl) (Or.inr rfl)) (pgs_cons (pg_name (i := 2) sc__letters_taken.nd rfl (Or.inl rfl) (Or.inr rfl)) pgs_nil)))) (fun _ _ _ _ _ => (pts_one (pt_cmpR op_notIn_sign (pv 2) (pe_slice sl_str (pv 0) po_none (po_some (pv 1))) (by rfl)))) (fun _ _ _ _ _ => (pe_tup (pa_cons (pv 2) (pa_cons (pe_op op_add_str (pe_slice sl_str (pv 0) po_none (po_some (pv 1))) (pe_slice sl_str (pv 0) (po_some (pe_op op_add (pv 1) pe_int)) po_none)) pa_nil))))))), ?_⟩
    walk_at "ls"
    intro D hD
    refine lc_it walk_enumS (fun i H1 => ∃ xs : List V, H1 D = some (.lst xs) ∧ xs.length ≤ i ∧ TupsAt H1 xs (((List.range i).filterMap (takenAt l)).map ssV) ∧ Same H H1) ⟨[], upd_same, Nat.zero_le _, .nil, same_new hD⟩ (fun _ _ _ _ => trivial) (fun i x Hz H2 hi hP hy => ?_) (fun H2 hP => ?_)
    · obtain ⟨xs, h1, lx, t1, s1⟩ := hP
      obtain ⟨T0, ia, ib, rfl, hT, rfl, ha, hb⟩ := hy
      cases ha
      have hll : l.cps.size ≤ 10 := ll
      have hi2 : i < l.cps.toList.length := hi
      have hb : (signs l)[i]? = some ib := hb
      unfold signs at hb
      rw [List.getElem?_map, List.getElem?_eq_getElem hi2] at hb
      cases hb
      have gd : l.cps.toList.getD i 0 = l.cps.toList[i] := by rw [List.getD_eq_getElem?_getD, List.getElem?_eq_getElem hi2]; rfl
      have sT := same_new (o := .tup [.int (i : Nat), .str ⟨#[l.cps.toList[i]]⟩]) hT
      have s2 := s1.trans sT
      have h2 := sT _ _ h1
      have t2 := t1.keep (.same sT)
      refine ⟨T0, _, rfl, .inl (.inl upd_same), rfl, _, _, rfl, _, _, rfl, rfl, rfl, ?_⟩
      generalize upd Hz T0 (.tup [.int (i : Nat), .str ⟨#[l.cps.toList[i]]⟩]) = H3 at *
      have rn : (List.range (i + 1)).filterMap (takenAt l) = (List.range i).filterMap (takenAt l) ++ (takenAt l i).toList := by
        rw [List.range_succ, List.filterMap_append]
        congr 1
      have lsz : l.length ≤ sizeLine := Nat.le_trans ll (by decide)
      walk_at "ls"
      refine ⟨lsz, _, _, rfl, rfl, _, rfl, ?_⟩
      have tk : takenAt l i = if (!decide (l.cps.toList[i] ∈ (cutS l none (some (i : Int))).cps.toList)) = true then some (one l.cps.toList[i], cutS l none (some (i : Int)) ++ cutS l (some ((i : Int) + 1)) none) else none := by
        unfold takenAt
        rw [gd]
      refine ite2 (fun e => ?_) (fun e => ?_)
      · rw [if_pos e] at tk
        walk_at "ls"
        refine ⟨lsz, ?_⟩
        walk_at "ls"
        refine ⟨lsz, ?_⟩
        walk_at "ls"
        refine ⟨Nat.le_trans (Nat.add_le_add (Nat.le_trans (cutS_length _ _ _) ll) (Nat.le_trans (cutS_length _ _ _) ll)) (by decide), ?_⟩
        refine ⟨(by show 2 ≤ sizeLine; decide), fun t ht => ?_⟩
        have st := same_new (o := .tup (ssV (one l.cps.toList[i], cutS l none (some (i : Int)) ++ cutS l (some ((i : Int) + 1)) none))) ht
        refine ⟨xs, st _ _ h2, small1000 (by omega), xs ++ [.ref t], upd_same, by rw [List.length_append]; show _ + 1 ≤ _; omega, ?_, Same.set (s2.trans st) hD⟩
        rw [rn, tk, List.map_append]
        exact ((t2.keep (.same st)).snoc ⟨t, rfl, upd_same⟩).keep (.lst (st _ _ h2))
      · rw [if_neg e] at tk
        refine ⟨xs, h2, by omega, ?_, s2⟩
        rw [rn, tk]
        exact (congrArg (fun z => TupsAt H3 xs (z.map ssV)) (List.append_nil _)).mpr t2
    · obtain ⟨xs, h1, lx, t1, s1⟩ := hP
      exact q H2 D xs hD h1 t1 s1
end
end Ls
namespace Ls
open PySem PySem.Spec PyProof.Rows L2
/-! ### a walk inside a comprehension, at any depth -/
theorem walk_in {J : It} {n : Nat} {G : Hp → Prop} {Y : Nat → Hp → V → Hp → Prop} {H0 : Hp} {R : Hp → Prop} {Body : (Hp → Prop) → V → Hp → Prop} (w : Walk J n G Y) (φ : Nat → Hp → Prop) (h0 : φ 0 H0) (hg : ∀ i H, i ≤ n → φ i H → G H)
    (step : ∀ i x H H', i < n → φ i H → Y i H x H' → Body (φ (i + 1)) x H') (fin : ∀ H, φ n H → R H) :
    ∃ W : Nat → Nat → Hp → Prop, (∃ m, W 0 m H0) ∧ ∀ i m H, W i m H → (J.stop i H ∧ R H) ∨ (J.go i H ∧ ∃ Nx : Hp → Prop, (∀ H', Nx H' → ∃ m', m' < m ∧ W (i + 1) m' H') ∧ ∀ x H', J.yld i H x H' → Body Nx x H') := by
  refine ⟨fun i m H => i + m = n ∧ φ i H, ⟨n, Nat.zero_add n, h0⟩, ?_⟩
  rintro i m H ⟨e, h⟩
  have hi : i ≤ n := by omega
  have g := hg i H hi h
  by_cases hn : i < n
  · exact .inr ⟨w.goes i H hn g, φ (i + 1), fun H' h' => ⟨m - 1, by omega, by omega, h'⟩, fun x H' y => step i x H H' hn h (w.yields i H x H' hn g y)⟩
  · have e2 : i = n := by omega
    subst e2
    exact .inl ⟨w.stops H g, fin H h⟩
end Ls
namespace Ls
open PySem PySem.Spec PyProof.Rows L2
/-! ### short steps -/
local macro_rules | `(tactic| walk_at "ls_ne") => `(tactic| first | assumption | exact Ne.symm (by assumption) | exact ne_of_none (by assumption) (by assumption) | exact Ne.symm (ne_of_none (by assumption) (by assumption)))
local macro_rules | `(tactic| walk_at "ls_hp") => `(tactic| first
  | with_reducible assumption
  | exact upd_same
  | exact Eq.trans (upd_ne (by walk_at "ls_ne")) (by walk_at "ls_hp"))
local macro_rules | `(tactic| walk_at "ls_st") => `(tactic| first
  | with_reducible assumption
  | exact Stm.upd (by walk_at "ls_st") (by first | walk_at "ls_ne" | exact (Stm.noneS (by assumption) (by assumption)).1) (by first | walk_at "ls_ne" | exact (Stm.noneS (by assumption) (by assumption)).2))
local macro_rules | `(tactic| walk_at "ls1") => `(tactic| first
  | refine ⟨_, rfl, ?_⟩
  | refine ⟨_, _, rfl, rfl, ?_⟩
  | refine ⟨_, _, _, _, rfl, rfl, .inl (.inl (by walk_at "ls_hp")), rfl, ?_⟩
  | refine ⟨_, _, _, _, rfl, rfl, (by walk_at "ls_hp"), rfl, ?_⟩
  | refine ⟨rfl, _, rfl, ?_⟩
  | refine ⟨.inl ⟨rfl, _, .inl (.inl (by walk_at "ls_hp"))⟩, ?_⟩)
local macro_rules | `(tactic| walk_at "ls") => `(tactic| repeat (walk_at "ls1"))

/-! ### the steps of a watch: a move, the state that is reached, what is wrong -/
abbrev Stp := List Str × List Str × Str
def StepAt (H : Hp) (v : V) (p : Stp) : Prop := ∃ t m r : Addr, v = .ref t ∧ H t = some (.tup [.ref m, .ref r, .str p.2.2]) ∧ H m = some (.tup (p.1.map V.str)) ∧ H r = some (.tup (p.2.1.map V.str))
def StepsAt (H : Hp) (xs : List V) (ps : List Stp) : Prop := Paired (StepAt H) xs ps
theorem StepAt.keep {H H' : Hp} {v : V} {p : Stp} (h : StepAt H v p) (k : TK H H') : StepAt H' v p := by
  obtain ⟨t, m, r, e, h1, h2, h3⟩ := h
  exact ⟨t, m, r, e, k _ _ h1, k _ _ h2, k _ _ h3⟩
theorem StepsAt.keep {H H' : Hp} : ∀ {xs : List V} {ps : List Stp}, StepsAt H xs ps → TK H H' → StepsAt H' xs ps
  | _, _, .nil, _ => .nil
  | _, _, .cons r t, k => .cons (r.keep k) (StepsAt.keep t k)
theorem StepsAt.snoc {H : Hp} : ∀ {xs : List V} {ps : List Stp} {v : V} {p : Stp}, StepsAt H xs ps → StepAt H v p → StepsAt H (xs ++ [v]) (ps ++ [p])
  | _, _, _, _, .nil, r => .cons r .nil
  | _, _, _, _, .cons a t, r => .cons a (StepsAt.snoc t r)
theorem StepsAt.len {H : Hp} {xs : List V} {ps : List Stp} (h : StepsAt H xs ps) : xs.length = ps.length := Paired.length h
theorem StepsAt.get {H : Hp} : ∀ {xs : List V} {ps : List Stp} {i : Nat} {v : V}, StepsAt H xs ps → xs[i]? = some v → ∃ p, ps[i]? = some p ∧ StepAt H v p
  | _, _, 0, _, .cons a _, e => by cases e; exact ⟨_, rfl, a⟩
  | _, _, i + 1, _, .cons _ t, e => StepsAt.get (i := i) t e
/-- a new step at the end of a list at p -/
theorem steps_add {H H1 H2 H3 H4 : Hp} {p m r t : Addr} {xs : List V} {ps : List Stp} {mv st : List Str} {wr : Str} (h1 : H1 p = some (.lst xs)) (hs : StepsAt H1 xs ps) (s1 : Same H H1) (hp : H p = none)
    (hm : H1 m = none) (hr : H2 r = none) (ht : H3 t = none) (e2 : H2 = upd H1 m (.tup (mv.map V.str))) (e3 : H3 = upd H2 r (.tup (st.map V.str))) (e4 : H4 = upd H3 t (.tup [.ref m, .ref r, .str wr])) :
    H4 p = some (.lst xs) ∧ (upd H4 p (.lst (xs ++ [.ref t]))) p = some (.lst (xs ++ [.ref t])) ∧ StepsAt (upd H4 p (.lst (xs ++ [.ref t]))) (xs ++ [.ref t]) (ps ++ [(mv, st, wr)]) ∧ Same H (upd H4 p (.lst (xs ++ [.ref t]))) ∧ (∀ b o, b ≠ p → H1 b = some o → (upd H4 p (.lst (xs ++ [.ref t]))) b = some o) ∧ TK H1 (upd H4 p (.lst (xs ++ [.ref t]))) := by
  subst e2 e3 e4
  have a1 := same_new (o := .tup (mv.map V.str)) hm
  have a2 := same_new (o := .tup (st.map V.str)) hr
  have a3 := same_new (o := .tup [.ref m, .ref r, .str wr]) ht
  have s14 := (a1.trans a2).trans a3
  have h4 := s14 _ _ h1
  have k : TK _ (upd (upd (upd (upd H1 m (.tup (mv.map V.str))) r (.tup (st.map V.str))) t (.tup [.ref m, .ref r, .str wr])) p (.lst (xs ++ [.ref t]))) := .lst h4
  refine ⟨h4, upd_same, ((hs.keep (.same s14)).snoc ⟨t, m, r, rfl, upd_same, ?_, ?_⟩).keep k, Same.set (s1.trans s14) hp, fun b o hb e => (upd_ne hb).trans (s14 _ _ e), (TK.same s14).trans k⟩
  · exact a3 _ _ (a2 _ _ upd_same)
  · exact a3 _ _ upd_same
theorem flatL_len {α β : Type} (f : α → List β) (k : Nat) (h : ∀ a, (f a).length = k) : ∀ l : List α, (l.flatMap f).length = k * l.length
  | [] => rfl
  | a :: l => by
    rw [List.flatMap_cons, List.length_append, h, flatL_len f k h l, List.length_cons, Nat.mul_succ]
    omega
theorem flatL_snoc {α β : Type} {f : α → List β} {l : List α} {i : Nat} {z : α} (h : l[i]? = some z) : (l.take (i + 1)).flatMap f = (l.take i).flatMap f ++ f z := by
  rw [List.take_add_one, h, List.flatMap_append]
  simp
theorem decS (a b : Str) : decide (V.str a = V.str b) = decide (a = b) := decide_eq_decide.mpr ⟨V.str.inj, congrArg V.str⟩
/-! ### the watch of a kind -/
structure KFl where
  kop : Bool
  kmk : Bool
  kag : Bool
  klo : Bool
  kfr : Bool
  deriving DecidableEq
def kfl (B : Shp) (ck : List Str) (kd : Str) : KFl := ⟨openB B kd, decide (kd ∈ markList B), decide ("again " ++ kd ∈ ck), decide (("lone" : Str) ∈ ck), decide (("fresh" : Str) ∈ ck)⟩
def kFell (f : KFl) (x : Str) : Bool := decide (x = "marked") || (decide (x = "plain") && !f.kag)
def kPuts (f : KFl) (x l : Str) : List Stp := if (decide (x = "new") || (decide (x = "gone") && !f.kfr)) = true then [(["put", "x", "-"], ["plain", l], "")] else []
def kMarks (f : KFl) (x l : Str) : List Stp := if (decide (x = "plain") && (f.kmk && (decide (l = "") || (!f.klo || f.kop)))) = true then [(["mark", "x"], ["marked", l], "")] else []
def kLooks (f : KFl) (x l : Str) : List Stp := if (decide (x = "marked") && hasRoomB l f.klo) = true then [(["look", "X"], [x, withL l "X"], "")] else []
def kTaken (f : KFl) (x : Str) (p : Str × Str) : List Stp := [(["do", p.1], [if kFell f x = true then "gone" else x, p.2], if (kFell f x && decide (x = "plain")) = true then "undue" else ""), (["stop", p.1], [x, p.2], "")]
def kSteps (f : KFl) (x l : Str) : List Stp := ((kPuts f x l ++ kMarks f x l) ++ kLooks f x l) ++ (takenL l).flatMap (kTaken f x)
section
variable {bg kr hs pt : Addr} {io im : Bool}
theorem kwF_begin : (kwF bg kr hs pt io im).lookup ("begin" : Str) = some (.ref bg) := by kernel_rfl
theorem kwF_has : (kwF bg kr hs pt io im).lookup ("has" : Str) = some (.ref hs) := by kernel_rfl
theorem kwF_open : (kwF bg kr hs pt io im).lookup ("_is_open" : Str) = some (.bl io) := by kernel_rfl
theorem kwF_mark : (kwF bg kr hs pt io im).lookup ("_is_markable" : Str) = some (.bl im) := by kernel_rfl
theorem kwF_parts : (kwF bg kr hs pt io im).lookup ("_parts" : Str) = some (.ref pt) := by kernel_rfl
end
section
variable {H : Hp} {a : Addr} {ck : List Str} {kd : Str}
theorem kd_again (h : H a = some (.dK (hasQ ck (kindQ kd)))) : DGet H a (.str "again") (some (.bl (decide ("again " ++ kd ∈ ck)))) := dg (k := .inr "again") h (by kernel_rfl)
theorem kd_lone (h : H a = some (.dK (hasQ ck (kindQ kd)))) : DGet H a (.str "lone") (some (.bl (decide (("lone" : Str) ∈ ck)))) := dg (k := .inr "lone") h (by kernel_rfl)
theorem kd_fresh (h : H a = some (.dK (hasQ ck (kindQ kd)))) : DGet H a (.str "fresh") (some (.bl (decide (("fresh" : Str) ∈ ck)))) := dg (k := .inr "fresh") h (by kernel_rfl)
end
section
variable {P : Program} {w : World} {K : PySem.W.Frag} {mg : Str → Option Value} {base : Heap}
abbrev s_KindWatch_is_fault : Stmt := inClass (topS 39) 3
theorem sc_KindWatch_is_fault : FnScope ["self", "state", "word"] ["self", "state", "word"] (defScope s_KindWatch_is_fault) := ⟨rfl, rfl, rfl, by decide +kernel, rfl, by decide +kernel, by decide +kernel⟩
abbrev N_KindWatch_is_fault : List Str := ["self", "state", "word"]
def spKwFault (C : Addr) : Sp := fun vs H Q _ => ∃ (o : Addr) (v u : V), vs = [.ref o, v, u] ∧ Q (.bl false) H
theorem ok_kwFault {C : Addr} {f : Addr} {fd : FuncData} (F : Fun K "is_fault" "KindWatch.is_fault" s_KindWatch_is_fault f fd) : FnOk P w K mg base CX0 1 f fd ["self", "state", "word"] (spKwFault C) := by
  refine F.ok sc_KindWatch_is_fault (fun vs H Q E h => ?_) (fun cdv A outer s H vs Q E hr h => ?_)
  · obtain ⟨o, v, u, rfl, _⟩ := h
    rfl
  · obtain ⟨o, v, u, rfl, q⟩ := h
    have hu := hu_of hr
    refine ⟨_, (pss_one (ps_ret pe_bl)), ?_⟩
    exact q
abbrev s_KindWatch_states : Stmt := inClass (topS 39) 1
theorem sc_KindWatch_states : FnScope ["self", "x_words", "all_lists", "x", "lists"] ["self"] (defScope s_KindWatch_states) := ⟨rfl, rfl, rfl, by decide +kernel, rfl, by decide +kernel, by decide +kernel⟩
abbrev N_KindWatch_states : List Str := ["self", "x_words", "all_lists", "x", "lists"]
def kWords : List Str := ["gone", "marked", "new", "plain"]
def kLists : List Str := ["", "X", "XX"]
def kStates : List (Str × Str) := kWords.flatMap fun x => kLists.map fun l => (x, l)
def spKwStates (C aY : Addr) : Sp := fun vs H Q _ => ∃ (o : Addr) (B : Shp) (ck : List Str) (kd : Str), vs = [.ref o] ∧ KwS C aY H o B ck kd ∧ ∀ (H' : Hp) (p : Addr) (xs : List V), H p = none → H' p = some (.lst xs) → TupsAt H' xs (kStates.map ssV) → Same H H' → Q (.ref p) H'
theorem ok_kwStates {C aX aO aY aZ : Addr} {f : Addr} {fd : FuncData} (F : Fun K "states" "KindWatch.states" s_KindWatch_states f fd) (T : Bt mg) (TK : KwT K C) (G : Gw K mg aX aO aY aZ) : FnOk P w K mg base CX0 1 f fd ["self"] (spKwStates C aY) := by
  refine F.ok sc_KindWatch_states (fun vs H Q E h => ?_) (fun cdv A outer s H vs Q E hr h => ?_)
  · obtain ⟨o, B, ck, kd, rfl, _⟩ := h
    rfl
  · obtain ⟨o, B, ck, kd, rfl, ⟨dx, bg, kr, hs, pt, ls, hi, hbg, hkr, hhs, hpt, hls⟩, q⟩ := h
    have hu := hu_of hr
    refine ⟨_, (pss_cons (ps_asg (pe_fld (pv 0) rfl) (pg_tup rfl (pgs_cons (pg_name (i := 1) sc_KindWatch_states.nd rfl (Or.inl rfl)) (pgs_cons (pg_name (i := 2) sc_KindWatch_states.nd rfl (Or.inr rfl)) pgs_nil))))
      (pss_one (ps_ret (pe_lc2 (own := [("x", 3), ("lists", 4)]) (vs1 := [4]) (g := gName 3) (g1 := gName 4) (by rfl) sc_KindWatch_states.nd (pi_tup (pv 1)) (blkOk_by (own := [("x", 3), ("lists", 4)]) (N := N_KindWatch_states) (sc := defScope s_KindWatch_states) (by decide +kernel)) (by decide) (fun _ _ _ _ _ => (pg_name (i := 3) sc_KindWatch_states.nd rfl (Or.inl rfl) (Or.inr rfl))) (fun _ _ _ _ _ => pts_nil) (fun _ _ _ _ _ => (pi_tupK K (pv 2))) (fun _ _ _ _ _ => (pg_name (i := 4) sc_KindWatch_states.nd rfl (Or.inl rfl) (Or.inr rfl))) (fun _ _ _ _ _ => pts_nil) (fun _ _ _ _ _ => (pe_tup (pa_cons (pv 3) (pa_cons (pv 4) pa_nil)))))))), ?_⟩
    walk_at "ls"
    refine ⟨o, C, dx, _, _, rfl, hi, TK.cl, TK.n7, kwF_parts, ?_⟩
    refine ⟨pt, _, rfl, .inl (.inl hpt), rfl, _, _, rfl, _, _, rfl, rfl, ?_⟩
    walk_at "ls"
    refine ⟨⟨_, G.kY.sq _⟩, fun D hD => ?_⟩
    have sD : ∀ u, Same H (upd H D u) := fun u => same_new hD
    refine walk_in (walk_tup (xs := kWords.map V.str)) (fun i H1 => ∃ xs : List V, H1 D = some (.lst xs) ∧ TupsAt H1 xs (((kWords.take i).flatMap fun x => kLists.map fun l => (x, l)).map ssV) ∧ Same H H1) ⟨[], upd_same, .nil, sD _⟩ (fun i H1 _ _ => G.kY.sq _) ?_ ?_
    · rintro i y Hz H1 hi ⟨xs, h1, t1, s1⟩ ⟨rfl, hy⟩
      obtain ⟨z, hz, rfl⟩ := map_get hy
      refine ⟨rfl, ?_⟩
      walk_at "ls"
      have lsl : ∀ {H2 : Hp}, Same H H2 → SqT K H2 ls (kLists.map V.str) := fun s2 => .inl (.inl (s2 _ _ hls))
      refine ⟨⟨_, lsl s1⟩, ?_⟩
      refine walk_in (walk_tup (xs := kLists.map V.str)) (fun j H2 => ∃ xs2 : List V, H2 D = some (.lst xs2) ∧ TupsAt H2 xs2 ((((kWords.take i).flatMap fun x => kLists.map fun l => (x, l)) ++ (kLists.take j).map fun l => (z, l)).map ssV) ∧ Same H H2) ⟨xs, h1, by rw [List.take_zero, List.map_nil, List.append_nil]; exact t1, s1⟩ (fun j H2 _ ⟨_, _, _, s2⟩ => lsl s2) ?_ ?_
      · rintro j y Hy H2 hj ⟨xs2, h2, t2, s2⟩ ⟨rfl, hy⟩
        obtain ⟨l, hl, rfl⟩ := map_get hy
        refine ⟨rfl, ?_⟩
        walk_at "ls"
        refine ⟨(by show 2 ≤ sizeLine; decide), fun t ht => ?_⟩
        have st := same_new (o := .tup (ssV (z, l))) ht
        have lx := t2.len
        have hi4 : i < 4 := hi
        have hj3 : j < 3 := hj
        refine ⟨xs2, st _ _ h2, small1000 ?_, xs2 ++ [.ref t], upd_same, ?_, Same.set (s2.trans st) hD⟩
        · rw [lx, List.length_map, List.length_append, List.length_map, List.length_take, flatL_len _ 3 (fun _ => by rw [List.length_map]; rfl), List.length_take]
          have e9 : kWords.length = 4 := rfl
          have e8 : kLists.length = 3 := rfl
          omega
        · have e1 : (kLists.take (j + 1)).map (fun l => (z, l)) = (kLists.take j).map (fun l => (z, l)) ++ [(z, l)] := by rw [List.take_add_one, hl, List.map_append]; rfl
          rw [e1, ← List.append_assoc, List.map_append]
          exact ((t2.keep (.same st)).snoc ⟨t, rfl, upd_same⟩).keep (.lst (st _ _ h2))
      · rintro H2 ⟨xs2, h2, t2, s2⟩
        refine ⟨xs2, h2, ?_, s2⟩
        have e1 : (kWords.take (i + 1)).flatMap (fun x => kLists.map fun l => (x, l)) = (kWords.take i).flatMap (fun x => kLists.map fun l => (x, l)) ++ kLists.map fun l => (z, l) := flatL_snoc hz
        rw [e1]
        exact t2
    · rintro H1 ⟨xs, h1, t1, s1⟩
      exact q H1 D xs hD h1 t1 s1
abbrev s_KindWatch_steps : Stmt := inClass (topS 39) 4
theorem sc_KindWatch_steps : FnScope ["self", "state", "x", "lists", "found", "is_free", "letter", "others", "is_felled", "wrong"] ["self", "state"] (defScope s_KindWatch_steps) := ⟨rfl, rfl, rfl, by decide +kernel, rfl, by decide +kernel, by decide +kernel⟩
abbrev N_KindWatch_steps : List Str := ["self", "state", "x", "lists", "found", "is_free", "letter", "others", "is_felled", "wrong"]
def spKwSteps (C aY : Addr) : Sp := fun vs H Q _ => ∃ (o t : Addr) (B : Shp) (ck : List Str) (kd x l : Str), vs = [.ref o, .ref t] ∧ KwS C aY H o B ck kd ∧ H t = some (.tup [.str x, .str l]) ∧ x.length ≤ 10 ∧ l.length ≤ 9 ∧
  ∀ (H' : Hp) (p : Addr) (xs : List V), H p = none → H' p = some (.lst xs) → StepsAt H' xs (kSteps (kfl B ck kd) x l) → Same H H' → Q (.ref p) H'
theorem ok_kwSteps {C aY : Addr} {f : Addr} {fd : FuncData} (F : Fun K "steps" "KindWatch.steps" s_KindWatch_steps f fd) (T : Bt mg) (TK : KwT K C) (O__has_room : Own P w K mg base CX0 1 "_has_room" ["lists", "is_lone"] spRoom) (O__with_letter : Own P w K mg base CX0 1 "_with_letter" ["lists", "letter"] spWithLt)
    (O__letters_taken : Own P w K mg base CX0 1 "_letters_taken" ["lists"] spTaken) : FnOk P w K mg base CX0 2 f fd ["self", "state"] (spKwSteps C aY) := by
  refine F.ok sc_KindWatch_steps (fun vs H Q E h => ?_) (fun cdv A outer s H vs Q E hr h => ?_)
  · obtain ⟨o, t, B, ck, kd, x, l, rfl, _⟩ := h
    rfl
  · obtain ⟨o, t, B, ck, kd, x, l, rfl, ⟨dx, bg, kr, hs, pt, ls, hi, hbg, hkr, hhs, hpt, hls⟩, ht, lx, ll, q⟩ := h
    have hu := hu_of hr
    refine ⟨_, (pss_cons (ps_asg (pv 1) (pg_tup rfl (pgs_cons (pg_name (i := 2) sc_KindWatch_steps.nd rfl (Or.inl rfl)) (pgs_cons (pg_name (i := 3) sc_KindWatch_steps.nd rfl (Or.inl rfl)) pgs_nil))))
      (pss_cons (ps_set (i := 4) sc_KindWatch_steps.nd rfl (Or.inl rfl) (pe_lst pa_nil))
      (C8.pss_cut (ps_if (PW.pt (pw_or (pt_cmpR op_eq (pv 2) pe_str (nomark _)) (pw_or1 (PW.pt (pw_and (pt_cmpR op_eq (pv 2) pe_str (nomark _)) (pw_and1 (pt_not (pt_val (pe_dget hu (pe_fld (pv 0) rfl) pe_str (fun _ _ => rfl)))))))))) (pss_one (ps_expr (pe_bm PySem.F.plainAttrs_list PySem.F.slot_list_append PySem.F.type_list_append mt_append (pv 4) (pa_cons (pe_tup (pa_cons (pe_tup (pa_cons pe_str (pa_cons pe_str (pa_cons pe_str pa_nil)))) (pa_cons (pe_tup (pa_cons pe_str (pa_cons (pv 3) pa_nil))) (pa_cons pe_str pa_nil)))) pa_nil)))) pss_nil)
      (C8.pss_cut (ps_set (i := 5) sc_KindWatch_steps.nd rfl (Or.inl rfl) (pe_or (pe_cmpR op_eq (pv 3) pe_str (nomark _)) (pe_or (pe_not (pe_dget hu (pe_fld (pv 0) rfl) pe_str (fun _ _ => rfl))) (pe_one (pe_fld (pv 0) rfl)))))
      (C8.pss_cut (ps_if (PW.pt (pw_and (pt_cmpR op_eq (pv 2) pe_str (nomark _)) (pw_and (pt_val (pe_fld (pv 0) rfl)) (pw_and1 (pt_val (pv 5)))))) (pss_one (ps_expr (pe_bm PySem.F.plainAttrs_list PySem.F.slot_list_append PySem.F.type_list_append mt_append (pv 4) (pa_cons (pe_tup (pa_cons (pe_tup (pa_cons pe_str (pa_cons pe_str pa_nil))) (pa_cons (pe_tup (pa_cons pe_str (pa_cons (pv 3) pa_nil))) (pa_cons pe_str pa_nil)))) pa_nil)))) pss_nil)
      (C8.pss_cut (ps_if (PW.pt (pw_and (pt_cmpR op_eq (pv 2) pe_str (nomark _)) (pw_and1 (pt_val (own_call O__has_room hr (by first | decide | omega) (pa_cons (pv 3) (pa_cons (pe_dget hu (pe_fld (pv 0) rfl) pe_str (fun _ _ => rfl)) pa_nil))))))) (pss_one (ps_expr (pe_bm PySem.F.plainAttrs_list PySem.F.slot_list_append PySem.F.type_list_append mt_append (pv 4) (pa_cons (pe_tup (pa_cons (pe_tup (pa_cons pe_str (pa_cons pe_str pa_nil))) (pa_cons (pe_tup (pa_cons (pv 2) (pa_cons (own_call O__with_letter hr (by first | decide | omega) (pa_cons (pv 3) (pa_cons pe_str pa_nil))) pa_nil))) (pa_cons pe_str pa_nil)))) pa_nil)))) pss_nil)
      (pss_cons (ps_for PassesOwn.never rfl (pi_list (own_call O__letters_taken hr (by first | decide | omega) (pa_cons (pv 3) pa_nil))) (pg_tup rfl (pgs_cons (pg_name (i := 6) sc_KindWatch_steps.nd rfl (Or.inl rfl)) (pgs_cons (pg_name (i := 7) sc_KindWatch_steps.nd rfl (Or.inl rfl)) pgs_nil))) (C8.pss_cut (ps_set (i := 8) sc_KindWatch_steps.nd rfl (Or.inl rfl) (pe_or (pe_cmpR op_eq (pv 2) pe_str (nomark _)) (pe_one (pe_and (pe_cmpR op_eq (pv 2) pe_str (nomark _)) (pe_one (pe_not (pe_dget hu (pe_fld (pv 0) rfl) pe_str (fun _ _ => rfl))))))))
      (C8.pss_cut (ps_set (i := 9) sc_KindWatch_steps.nd rfl (Or.inl rfl) (pe_ifExp (PW.pt (pw_and (pt_val (pv 8)) (pw_and1 (pt_cmpR op_eq (pv 2) pe_str (nomark _))))) pe_str pe_str))
      (pss_cons (ps_expr (pe_bm PySem.F.plainAttrs_list PySem.F.slot_list_append PySem.F.type_list_append mt_append (pv 4) (pa_cons (pe_tup (pa_cons (pe_tup (pa_cons pe_str (pa_cons (pv 6) pa_nil))) (pa_cons (pe_tup (pa_cons (pe_ifExp (pt_val (pv 8)) pe_str (pv 2)) (pa_cons (pv 7) pa_nil))) (pa_cons (pv 9) pa_nil)))) pa_nil)))
      (pss_one (ps_expr (pe_bm PySem.F.plainAttrs_list PySem.F.slot_list_append PySem.F.type_list_append mt_append (pv 4) (pa_cons (pe_tup (pa_cons (pe_tup (pa_cons pe_str (pa_cons (pv 6) pa_nil))) (pa_cons (pe_tup (pa_cons (pv 2) (pa_cons (pv 7) pa_nil))) (pa_cons pe_str pa_nil)))) pa_nil))))))))
      (pss_one (ps_ret (pv 4)))))))))), ?_⟩
    walk_at "ls"
    refine ⟨t, _, rfl, .inl (.inl ht), rfl, _, _, rfl, _, _, rfl, rfl, ?_⟩
    refine ⟨Nat.zero_le _, fun p hp => ?_⟩
    have s0 := same_new (o := .lst []) hp
    refine ⟨fun σ' H' => σ' = [some (.ref o), some (.ref t), some (.str x), some (.str l), some (.ref p), none, none, none, none, none] ∧ ∃ xs, H' p = some (.lst xs) ∧ StepsAt H' xs (kPuts (kfl B ck kd) x l) ∧ Same H H', ?_, ?_⟩
    · refine or2 (decide (x = "new")) (decide (x = "gone") && !(kfl B ck kd).kfr) (fun Q' q' => ?_) (fun ne Q' q' => ?_) ?_
      · walk_at "ls"
        rw [decS]
        exact q'
      · refine and2 (decide (x = "gone")) (!(kfl B ck kd).kfr) (fun Q2 q2 => ?_) (fun eg Q2 q2 => ?_) q'
        · walk_at "ls"
          rw [decS]
          exact q2
        · walk_at "ls"
          refine ⟨o, C, dx, _, _, rfl, s0 _ _ hi, TK.cl, TK.n4, kwF_has, ?_⟩
          exact ⟨hs, _, rfl, kd_fresh (s0 _ _ hhs), _, rfl, q2⟩
      · have e0 : kPuts (kfl B ck kd) x l = if (decide (x = "new") || (decide (x = "gone") && !(kfl B ck kd).kfr)) = true then [((["put", "x", "-"] : List Str), (["plain", l] : List Str), ("" : Str))] else [] := rfl
        refine ite2 (fun e => ?_) (fun e => ?_)
        · rw [if_pos e] at e0
          rw [e0]
          walk_at "ls"
          refine ⟨(by show 3 ≤ sizeLine; decide), fun m hm => ?_⟩
          walk_at "ls"
          refine ⟨(by show 2 ≤ sizeLine; decide), fun r hr2 => ?_⟩
          walk_at "ls"
          refine ⟨(by show 3 ≤ sizeLine; decide), fun t3 ht3 => ?_⟩
          obtain ⟨g1, g2, g3, g4, _⟩ := steps_add (mv := ["put", "x", "-"]) (st := ["plain", l]) (wr := "") upd_same (.nil : StepsAt _ [] []) s0 hp hm hr2 ht3 rfl rfl rfl
          exact ⟨p, _, _, rfl, rfl, g1, (by show 0 < sizeLine; decide), rfl, _, g2, g3, g4⟩
        · rw [if_neg e] at e0
          rw [e0]
          exact ⟨rfl, [], upd_same, .nil, s0⟩
    · rintro σ1 H1 ⟨rfl, xs1, h1, t1, s1⟩
      refine ⟨fun σ' H' => σ' = [some (.ref o), some (.ref t), some (.str x), some (.str l), some (.ref p), some (.bl (decide (l = "") || (!(kfl B ck kd).klo || (kfl B ck kd).kop))), none, none, none, none] ∧ H' = H1, ?_, ?_⟩
      · walk_at "ls"
        rw [decS]
        refine ite2 (fun e => ?_) (fun e => ?_)
        · rw [e]
          exact ⟨rfl, rfl⟩
        · rw [eq_false_of_ne_true e]
          walk_at "ls"
          refine ⟨o, C, dx, _, _, rfl, s1 _ _ hi, TK.cl, TK.n4, kwF_has, ?_⟩
          walk_at "ls"
          refine ⟨hs, _, rfl, kd_lone (s1 _ _ hhs), _, rfl, _, rfl, ?_⟩
          refine ite2 (fun e2 => ?_) (fun e2 => ?_)
          · rw [show (!(kfl B ck kd).klo) = true from e2]
            exact ⟨rfl, rfl⟩
          · rw [show (!(kfl B ck kd).klo) = false from eq_false_of_ne_true e2]
            walk_at "ls"
            refine ⟨o, C, dx, _, _, rfl, s1 _ _ hi, TK.cl, TK.n5, kwF_open, ?_⟩
            exact ⟨rfl, rfl⟩
      · rintro σ2 H2 ⟨rfl, rfl⟩
        refine ⟨fun σ' H' => σ' = [some (.ref o), some (.ref t), some (.str x), some (.str l), some (.ref p), some (.bl (decide (l = "") || (!(kfl B ck kd).klo || (kfl B ck kd).kop))), none, none, none, none] ∧ ∃ xs, H' p = some (.lst xs) ∧ StepsAt H' xs (kPuts (kfl B ck kd) x l ++ kMarks (kfl B ck kd) x l) ∧ Same H H', ?_, ?_⟩
        · refine and2 (decide (x = "plain")) ((kfl B ck kd).kmk && (decide (l = "") || (!(kfl B ck kd).klo || (kfl B ck kd).kop))) (fun Q' q' => ?_) (fun ne Q' q' => ?_) ?_
          · walk_at "ls"
            rw [decS]
            exact q'
          · refine and2 (kfl B ck kd).kmk (decide (l = "") || (!(kfl B ck kd).klo || (kfl B ck kd).kop)) (fun Q2 q2 => ?_) (fun eg Q2 q2 => ?_) q'
            · walk_at "ls"
              refine ⟨o, C, dx, _, _, rfl, s1 _ _ hi, TK.cl, TK.n6, kwF_mark, _, rfl, ?_⟩
              exact q2
            · walk_at "ls"
              exact q2
          · have e0 : kMarks (kfl B ck kd) x l = if (decide (x = "plain") && ((kfl B ck kd).kmk && (decide (l = "") || (!(kfl B ck kd).klo || (kfl B ck kd).kop)))) = true then [((["mark", "x"] : List Str), (["marked", l] : List Str), ("" : Str))] else [] := rfl
            have lp : (kPuts (kfl B ck kd) x l).length ≤ 1 := by unfold kPuts; split <;> simp
            refine ite2 (fun e => ?_) (fun e => ?_)
            · rw [if_pos e] at e0
              rw [e0]
              walk_at "ls"
              refine ⟨(by show 2 ≤ sizeLine; decide), fun m hm => ?_⟩
              walk_at "ls"
              refine ⟨(by show 2 ≤ sizeLine; decide), fun r hr2 => ?_⟩
              walk_at "ls"
              refine ⟨(by show 3 ≤ sizeLine; decide), fun t3 ht3 => ?_⟩
              obtain ⟨g1, g2, g3, g4, _⟩ := steps_add (mv := ["mark", "x"]) (st := ["marked", l]) (wr := "") h1 t1 s1 hp hm hr2 ht3 rfl rfl rfl
              exact ⟨p, _, _, rfl, rfl, g1, small1000 (by rw [t1.len]; omega), rfl, _, g2, g3, g4⟩
            · rw [if_neg e] at e0
              rw [e0, List.append_nil]
              exact ⟨rfl, xs1, h1, t1, s1⟩
        · rintro σ3 H3 ⟨rfl, xs3, h3, t3', s3⟩
          refine ⟨fun σ' H' => σ' = [some (.ref o), some (.ref t), some (.str x), some (.str l), some (.ref p), some (.bl (decide (l = "") || (!(kfl B ck kd).klo || (kfl B ck kd).kop))), none, none, none, none] ∧ ∃ xs, H' p = some (.lst xs) ∧ StepsAt H' xs ((kPuts (kfl B ck kd) x l ++ kMarks (kfl B ck kd) x l) ++ kLooks (kfl B ck kd) x l) ∧ Same H H', ?_, ?_⟩
          · refine and2 (decide (x = "marked")) (hasRoomB l (kfl B ck kd).klo) (fun Q' q' => ?_) (fun ne Q' q' => ?_) ?_
            · walk_at "ls"
              rw [decS]
              exact q'
            · walk_at "ls"
              refine ⟨o, C, dx, _, _, rfl, s3 _ _ hi, TK.cl, TK.n4, kwF_has, ?_⟩
              walk_at "ls"
              refine ⟨hs, _, rfl, kd_lone (s3 _ _ hhs), ?_⟩
              exact ⟨l, _, rfl, by omega, _, rfl, q'⟩
            · have e0 : kLooks (kfl B ck kd) x l = if (decide (x = "marked") && hasRoomB l (kfl B ck kd).klo) = true then [((["look", "X"] : List Str), ([x, withL l "X"] : List Str), ("" : Str))] else [] := rfl
              have lp : (kPuts (kfl B ck kd) x l).length ≤ 1 := by unfold kPuts; split <;> simp
              have lm : (kMarks (kfl B ck kd) x l).length ≤ 1 := by unfold kMarks; split <;> simp
              refine ite2 (fun e => ?_) (fun e => ?_)
              · rw [if_pos e] at e0
                rw [e0]
                walk_at "ls"
                refine ⟨(by show 2 ≤ sizeLine; decide), fun m hm => ?_⟩
                walk_at "ls"
                refine ⟨l, "X", rfl, by omega, (by decide +kernel), ?_⟩
                refine ⟨(by show 2 ≤ sizeLine; decide), fun r hr2 => ?_⟩
                walk_at "ls"
                refine ⟨(by show 3 ≤ sizeLine; decide), fun t3 ht3 => ?_⟩
                obtain ⟨g1, g2, g3, g4, _⟩ := steps_add (mv := ["look", "X"]) (st := [x, withL l "X"]) (wr := "") h3 t3' s3 hp hm hr2 ht3 rfl rfl rfl
                exact ⟨p, _, _, rfl, rfl, g1, small1000 (by rw [t3'.len, List.length_append]; omega), rfl, _, g2, g3, g4⟩
              · rw [if_neg e] at e0
                rw [e0, List.append_nil]
                exact ⟨rfl, xs3, h3, t3', s3⟩
          · rintro σ4 H4 ⟨rfl, xs4, h4, t4, s4⟩
            walk_at "ls"
            refine ⟨by omega, fun H5 a ys ha h5 t5 s5 => ?_⟩
            have hpa : p ≠ a := ne_of_none h4 ha
            refine ⟨a, rfl, ⟨_, .inl (.inl h5)⟩, ?_⟩
            have lt : (takenL l).length ≤ 9 := by
              unfold takenL
              refine Nat.le_trans (List.length_filterMap_le _ _) ?_
              rw [List.length_range]
              exact ll
            have ly := t5.len
            rw [List.length_map] at ly
            refine for_it (walk_list (xs := ys)) (fun i σ H6 => ∃ v6 v7 v8 v9 : Option V, σ = [some (.ref o), some (.ref t), some (.str x), some (.str l), some (.ref p), some (.bl (decide (l = "") || (!(kfl B ck kd).klo || (kfl B ck kd).kop))), v6, v7, v8, v9] ∧
              (∃ xs, H6 p = some (.lst xs) ∧ StepsAt H6 xs (((kPuts (kfl B ck kd) x l ++ kMarks (kfl B ck kd) x l) ++ kLooks (kfl B ck kd) x l) ++ ((takenL l).take i).flatMap (kTaken (kfl B ck kd) x))) ∧ Same H H6 ∧ H6 a = some (.lst ys) ∧ TupsAt H6 ys ((takenL l).map ssV)) ?_ (fun i σ H6 _ ⟨_, _, _, _, _, _, _, h, _⟩ => .inl (.inl h)) ?_ ?_
            · refine ⟨none, none, none, none, rfl, ⟨xs4, s5 _ _ h4, ?_⟩, s4.trans s5, h5, t5⟩
              rw [List.take_zero, List.flatMap_nil, List.append_nil]
              exact t4.keep (.same s5)
            · rintro i y σ Hz H6 hi6 ⟨v6, v7, v8, v9, rfl, ⟨xs6, h6, t6⟩, s6, ha6, ty6⟩ ⟨rfl, hy⟩
              obtain ⟨zs, hys, t0, rfl, ht0⟩ := TupsAt.get ty6 hy
              obtain ⟨lo, hlo, rfl⟩ := map_get hys
              obtain ⟨lt1, ot⟩ := lo
              refine ⟨t0, _, rfl, .inl (.inl ht0), rfl, _, _, rfl, _, _, rfl, rfl, ?_⟩
              refine ⟨fun σ' H' => σ' = [some (.ref o), some (.ref t), some (.str x), some (.str l), some (.ref p), some (.bl (decide (l = "") || (!(kfl B ck kd).klo || (kfl B ck kd).kop))), some (.str lt1), some (.str ot), some (.bl (kFell (kfl B ck kd) x)), v9] ∧ H' = H6, ?_, ?_⟩
              · have ef : kFell (kfl B ck kd) x = (decide (x = "marked") || (decide (x = "plain") && !(kfl B ck kd).kag)) := rfl
                walk_at "ls"
                rw [decS]
                refine ite2 (fun e => ?_) (fun e => ?_)
                · rw [ef, e]
                  exact ⟨rfl, rfl⟩
                · rw [ef, eq_false_of_ne_true e]
                  walk_at "ls"
                  rw [decS]
                  refine ite2 (fun e2 => ?_) (fun e2 => ?_)
                  · rw [e2]
                    walk_at "ls"
                    refine ⟨o, C, dx, _, _, rfl, s6 _ _ hi, TK.cl, TK.n4, kwF_has, ?_⟩
                    walk_at "ls"
                    exact ⟨hs, _, rfl, kd_again (s6 _ _ hhs), _, rfl, rfl, rfl⟩
                  · rw [eq_false_of_ne_true e2]
                    exact ⟨rfl, rfl⟩
              · rintro σ7 H7 ⟨rfl, rfl⟩
                refine ⟨fun σ' H' => σ' = [some (.ref o), some (.ref t), some (.str x), some (.str l), some (.ref p), some (.bl (decide (l = "") || (!(kfl B ck kd).klo || (kfl B ck kd).kop))), some (.str lt1), some (.str ot), some (.bl (kFell (kfl B ck kd) x)), some (.str (if (kFell (kfl B ck kd) x && decide (x = "plain")) = true then "undue" else ""))] ∧ H' = H7, ?_, ?_⟩
                · walk_at "ls"
                  refine ite2 (fun e => ?_) (fun e => ?_)
                  · rw [e]
                    walk_at "ls"
                    rw [decS]
                    refine ite2 (fun e2 => ?_) (fun e2 => ?_)
                    · rw [e2]
                      exact ⟨rfl, rfl⟩
                    · rw [eq_false_of_ne_true e2]
                      exact ⟨rfl, rfl⟩
                  · rw [eq_false_of_ne_true e]
                    exact ⟨rfl, rfl⟩
                · rintro σ8 H8 ⟨rfl, rfl⟩
                  walk_at "ls"
                  refine ⟨(by show 2 ≤ sizeLine; decide), fun m hm => ?_⟩
                  walk_at "ls"
                  have l6 : xs6.length ≤ 30 := by
                    rw [t6.len, List.length_append, List.length_append, List.length_append, flatL_len _ 2 (fun _ => rfl), List.length_take]
                    have q1 : (kPuts (kfl B ck kd) x l).length ≤ 1 := by unfold kPuts; split <;> simp
                    have q2 : (kMarks (kfl B ck kd) x l).length ≤ 1 := by unfold kMarks; split <;> simp
                    have q3 : (kLooks (kfl B ck kd) x l).length ≤ 1 := by unfold kLooks; split <;> simp
                    omega
                  refine ite2 (fun e => ?_) (fun e => ?_)
                  · have ez : ("gone" : Str) = (if kFell (kfl B ck kd) x = true then ("gone" : Str) else x) := (if_pos e).symm
                    walk_at "ls"
                    refine ⟨(by show 2 ≤ sizeLine; decide), fun r hr2 => ?_⟩
                    walk_at "ls"
                    refine ⟨(by show 3 ≤ sizeLine; decide), fun t3 ht3 => ?_⟩
                    obtain ⟨g1, g2, g3, g4, g5, g6⟩ := steps_add (mv := ["do", lt1]) (st := ["gone", ot]) (wr := if (kFell (kfl B ck kd) x && decide (x = "plain")) = true then "undue" else "") h6 t6 s6 hp hm hr2 ht3 rfl rfl rfl
                    refine ⟨p, _, _, rfl, rfl, g1, small1000 (by omega), ?_⟩
                    have ha8 := g5 _ _ (Ne.symm hpa) ha6
                    have ty8 := ty6.keep g6
                    generalize upd _ p (.lst (xs6 ++ [.ref t3])) = H9 at *
                    walk_at "ls"
                    refine ⟨(by show 2 ≤ sizeLine; decide), fun m2 hm2 => ?_⟩
                    walk_at "ls"
                    refine ⟨(by show 2 ≤ sizeLine; decide), fun r2 hr3 => ?_⟩
                    walk_at "ls"
                    refine ⟨(by show 3 ≤ sizeLine; decide), fun t4 ht4 => ?_⟩
                    obtain ⟨k1, k2, k3, k4, k5, k6⟩ := steps_add (mv := ["stop", lt1]) (st := [x, ot]) (wr := "") g2 g3 g4 hp hm2 hr3 ht4 rfl rfl rfl
                    refine ⟨p, _, _, rfl, rfl, k1, small1000 (by rw [List.length_append]; show _ + 1 ≤ 1000; omega), _, _, _, _, rfl, ⟨_, k2, ?_⟩, k4, k5 _ _ (Ne.symm hpa) ha8, ty8.keep k6⟩
                    rw [flatL_snoc hlo, ← List.append_assoc]
                    have e9 : kTaken (kfl B ck kd) x (lt1, ot) = ([((["do", lt1] : List Str), ([if kFell (kfl B ck kd) x = true then ("gone" : Str) else x, ot] : List Str), (if (kFell (kfl B ck kd) x && decide (x = "plain")) = true then "undue" else "" : Str))] : List Stp) ++ ([((["stop", lt1] : List Str), ([x, ot] : List Str), ("" : Str))] : List Stp) := rfl
                    rw [e9, ← List.append_assoc, ← ez]
                    exact k3
                  · have ez : x = (if kFell (kfl B ck kd) x = true then ("gone" : Str) else x) := (if_neg e).symm
                    walk_at "ls"
                    refine ⟨(by show 2 ≤ sizeLine; decide), fun r hr2 => ?_⟩
                    walk_at "ls"
                    refine ⟨(by show 3 ≤ sizeLine; decide), fun t3 ht3 => ?_⟩
                    obtain ⟨g1, g2, g3, g4, g5, g6⟩ := steps_add (mv := ["do", lt1]) (st := [x, ot]) (wr := if (kFell (kfl B ck kd) x && decide (x = "plain")) = true then "undue" else "") h6 t6 s6 hp hm hr2 ht3 rfl rfl rfl
                    refine ⟨p, _, _, rfl, rfl, g1, small1000 (by omega), ?_⟩
                    have ha8 := g5 _ _ (Ne.symm hpa) ha6
                    have ty8 := ty6.keep g6
                    generalize upd _ p (.lst (xs6 ++ [.ref t3])) = H9 at *
                    walk_at "ls"
                    refine ⟨(by show 2 ≤ sizeLine; decide), fun m2 hm2 => ?_⟩
                    walk_at "ls"
                    refine ⟨(by show 2 ≤ sizeLine; decide), fun r2 hr3 => ?_⟩
                    walk_at "ls"
                    refine ⟨(by show 3 ≤ sizeLine; decide), fun t4 ht4 => ?_⟩
                    obtain ⟨k1, k2, k3, k4, k5, k6⟩ := steps_add (mv := ["stop", lt1]) (st := [x, ot]) (wr := "") g2 g3 g4 hp hm2 hr3 ht4 rfl rfl rfl
                    refine ⟨p, _, _, rfl, rfl, k1, small1000 (by rw [List.length_append]; show _ + 1 ≤ 1000; omega), _, _, _, _, rfl, ⟨_, k2, ?_⟩, k4, k5 _ _ (Ne.symm hpa) ha8, ty8.keep k6⟩
                    rw [flatL_snoc hlo, ← List.append_assoc]
                    have e9 : kTaken (kfl B ck kd) x (lt1, ot) = ([((["do", lt1] : List Str), ([if kFell (kfl B ck kd) x = true then ("gone" : Str) else x, ot] : List Str), (if (kFell (kfl B ck kd) x && decide (x = "plain")) = true then "undue" else "" : Str))] : List Stp) ++ ([((["stop", lt1] : List Str), ([x, ot] : List Str), ("" : Str))] : List Stp) := rfl
                    rw [e9, ← List.append_assoc, ← ez]
                    exact k3
            · rintro σ H6 ⟨v6, v7, v8, v9, rfl, ⟨xs6, h6, t6⟩, s6, _, _⟩
              rw [ly, List.take_length] at t6
              walk_at "ls"
              exact q H6 p xs6 hp h6 t6 s6
end
end Ls
namespace Ls
open PySem PySem.Spec PyProof.Rows L2
/-! ### short steps -/
local macro_rules | `(tactic| walk_at "ls_ne") => `(tactic| first | assumption | exact Ne.symm (by assumption) | exact ne_of_none (by assumption) (by assumption) | exact Ne.symm (ne_of_none (by assumption) (by assumption)))
local macro_rules | `(tactic| walk_at "ls_hp") => `(tactic| first
  | with_reducible assumption
  | exact upd_same
  | exact Eq.trans (upd_ne (by walk_at "ls_ne")) (by walk_at "ls_hp"))
local macro_rules | `(tactic| walk_at "ls_st") => `(tactic| first
  | with_reducible assumption
  | exact Stm.upd (by walk_at "ls_st") (by first | walk_at "ls_ne" | exact (Stm.noneS (by assumption) (by assumption)).1) (by first | walk_at "ls_ne" | exact (Stm.noneS (by assumption) (by assumption)).2))
local macro_rules | `(tactic| walk_at "ls1") => `(tactic| first
  | refine ⟨_, rfl, ?_⟩
  | refine ⟨_, _, rfl, rfl, ?_⟩
  | refine ⟨_, _, _, _, rfl, rfl, .inl (.inl (by walk_at "ls_hp")), rfl, ?_⟩
  | refine ⟨_, _, _, _, rfl, rfl, (by walk_at "ls_hp"), rfl, ?_⟩
  | refine ⟨rfl, _, rfl, ?_⟩
  | refine ⟨.inl ⟨rfl, _, .inl (.inl (by walk_at "ls_hp"))⟩, ?_⟩)
local macro_rules | `(tactic| walk_at "ls") => `(tactic| repeat (walk_at "ls1"))

/-! ### what is reached -/
inductive ReachS (stp : List Str → List Stp) (bg : List Str) : List Str → Prop
  | base : ReachS stp bg bg
  | step {s : List Str} {p : Stp} (h : ReachS stp bg s) (hp : p ∈ stp s) : ReachS stp bg p.2.1
structure ClosedS (stp : List Str → List Stp) (bg : List Str) (ks : List (List Str)) : Prop where
  base : bg ∈ ks
  reach : ∀ s ∈ ks, ReachS stp bg s
  next : ∀ s ∈ ks, ∀ p ∈ stp s, p.2.1 ∈ ks
theorem ClosedS.all {stp : List Str → List Stp} {bg : List Str} {ks : List (List Str)} (c : ClosedS stp bg ks) {s : List Str} (h : ReachS stp bg s) : s ∈ ks := by
  induction h with
  | base => exact c.base
  | step _ hp ih => exact c.next _ ih _ hp
theorem ClosedS.iff {stp : List Str → List Stp} {bg : List Str} {ks : List (List Str)} (c : ClosedS stp bg ks) (s : List Str) : s ∈ ks ↔ ReachS stp bg s := ⟨c.reach s, c.all⟩
/-- a state as a key -/
def kT (st : List Str) : List Key := st.map Sum.inr
theorem kT_kV (st : List Str) : (kT st).map kV = st.map V.str := by unfold kT; rw [List.map_map]; rfl
theorem kT_inj {a b : List Str} (h : kT a = kT b) : a = b := by
  have := congrArg (fun l => l.map fun k : Key => match k with | .inr z => z | .inl _ => ("" : Str)) h
  unfold kT at this
  simp only [List.map_map] at this
  exact (List.map_id a).symm.trans (this.trans (List.map_id b))
theorem valT {kvs : List (List Key × V)} {ks : List (List Str)} (h : kvs.map (·.1) = ks.map kT) (s : List Str) : (valV kvs (kT s)).isSome = decide (s ∈ ks) := by
  rw [← valV_any]
  refine Bool.eq_iff_iff.mpr ⟨fun e => ?_, fun e => ?_⟩
  · obtain ⟨p, hp, e⟩ := List.any_eq_true.mp e
    have m := List.mem_map_of_mem (f := fun p : List Key × V => p.1) hp
    rw [h] at m
    obtain ⟨s2, hs2, e2⟩ := List.mem_map.mp m
    have e3 : kT s2 = kT s := e2.trans (of_decide_eq_true e)
    rw [← kT_inj e3]
    exact decide_eq_true hs2
  · have m := List.mem_map_of_mem (f := kT) (of_decide_eq_true e)
    rw [← h] at m
    obtain ⟨p, hp, e2⟩ := List.mem_map.mp m
    exact List.any_eq_true.mpr ⟨p, hp, decide_eq_true e2⟩
def stV (st : List Str) : List V := st.map V.str
/-- what is asked of a watch's class: ι tells its instances apart -/
structure WatchI (ι : Type) (C : Addr) (spS : Sp) (Wt : ι → Hp → Addr → Prop) (bg : ι → List Str) (stp : ι → List Str → List Stp) (U : ι → List (List Str)) : Prop where
  ins : ∀ i H o, Wt i H o → ∃ dx fs bga, H o = some (.ins C dx fs) ∧ fs.lookup ("begin" : Str) = some (.ref bga) ∧ H bga = some (.tup (stV (bg i))) ∧ fs.lookup ("steps" : Str) = none ∧ fs.lookup ("is_fault" : Str) = none
  same : ∀ i H H' o, Wt i H o → Same H H' → Wt i H' o
  steps : ∀ i H o t st Q E, Wt i H o → st ∈ U i → H t = some (.tup (stV st)) → (∀ (H' : Hp) (p : Addr) (xs : List V), H p = none → H' p = some (.lst xs) → StepsAt H' xs (stp i st) → Same H H' → Q (.ref p) H') → spS [.ref o, .ref t] H Q E
  inU : ∀ i, bg i ∈ U i
  clU : ∀ i, ∀ st ∈ U i, ∀ p ∈ stp i st, p.2.1 ∈ U i
  small : ∀ i, (U i).length ≤ 100000
theorem TK.dT {H : Hp} {p : Addr} {o : HO} {xs : List (List Key × V)} (h : H p = some (.dT xs)) : TK H (upd H p o) := fun t ys e => by
  rw [upd_ne (ne_of e h fun z => nomatch z)]
  exact e
/-- how far a turn of the walk has come: Fl is what is new -/
structure WkAt (stp : List Str → List Stp) (bg : List Str) (U ks Ly : List (List Str)) (H0 : Hp) (cm ly fl : Addr) (lx : List V) (Fl : List (List Str)) (H6 : Hp) : Prop where
  came : ∃ kvs, H6 cm = some (.dT kvs) ∧ kvs.map (·.1) = (ks ++ Fl).map kT
  foll : ∃ fx, H6 fl = some (.lst fx) ∧ TupsAt H6 fx (Fl.map stV)
  nd : (ks ++ Fl).Nodup
  sub : ∀ s ∈ ks ++ Fl, s ∈ U
  reach : ∀ s ∈ ks ++ Fl, ReachS stp bg s
  same : Same H0 H6
  lay : H6 ly = some (.lst lx)
  layT : TupsAt H6 lx (Ly.map stV)
theorem WkAt.keep {stp : List Str → List Stp} {bg : List Str} {U ks Ly : List (List Str)} {H0 : Hp} {cm ly fl : Addr} {lx : List V} {Fl : List (List Str)} {H6 H7 : Hp} (a : WkAt stp bg U ks Ly H0 cm ly fl lx Fl H6) (s : Same H6 H7) : WkAt stp bg U ks Ly H0 cm ly fl lx Fl H7 := by
  obtain ⟨⟨kvs, h1, h2⟩, ⟨fx, h3, h4⟩, h5, h6, h7, h8, h9, h10⟩ := a
  exact ⟨⟨kvs, s _ _ h1, h2⟩, ⟨fx, s _ _ h3, h4.keep (.same s)⟩, h5, h6, h7, h8.trans s, s _ _ h9, h10.keep (.same s)⟩
/-- a state that is met for the first time -/
theorem WkAt.add {stp : List Str → List Stp} {bg : List Str} {U ks Ly : List (List Str)} {H0 : Hp} {cm ly fl ra : Addr} {lx fx : List V} {Fl : List (List Str)} {H6 : Hp} {kvs : List (List Key × V)} {v : V} {st r : List Str} {p : Stp} (a : WkAt stp bg U ks Ly H0 cm ly fl lx Fl H6) (nlf : ly ≠ fl) (h0c : H0 cm = none) (h0f : H0 fl = none)
    (hc : H6 cm = some (.dT kvs)) (hf : H6 fl = some (.lst fx)) (hr : H6 ra = some (.tup (stV r))) (hst : st ∈ ks ++ Fl) (hp : p ∈ stp st) (er : p.2.1 = r) (hU : r ∈ U) (hn : r ∉ ks ++ Fl) :
    WkAt stp bg U ks Ly H0 cm ly fl lx (Fl ++ [r]) (upd (upd H6 cm (.dT (putK kvs (kT r) v))) fl (.lst (fx ++ [.ref ra]))) ∧ TK H6 (upd (upd H6 cm (.dT (putK kvs (kT r) v))) fl (.lst (fx ++ [.ref ra]))) ∧
    (∀ b o, b ≠ cm → b ≠ fl → H6 b = some o → (upd (upd H6 cm (.dT (putK kvs (kT r) v))) fl (.lst (fx ++ [.ref ra]))) b = some o) := by
  obtain ⟨⟨kvs', h1, h2⟩, ⟨fx', h3, h4⟩, h5, h6, h7, h8, h9, h10⟩ := a
  rw [hc] at h1
  cases h1
  rw [hf] at h3
  cases h3
  have ncf : cm ≠ fl := ne_of hc hf fun z => nomatch z
  have hf2 : (upd H6 cm (.dT (putK kvs (kT r) v))) fl = some (.lst fx) := by rw [upd_ne (Ne.symm ncf)]; exact hf
  have k1 : TK H6 (upd H6 cm (.dT (putK kvs (kT r) v))) := .dT hc
  have k2 : TK H6 (upd (upd H6 cm (.dT (putK kvs (kT r) v))) fl (.lst (fx ++ [.ref ra]))) := k1.trans (.lst hf2)
  have but : ∀ b o, b ≠ cm → b ≠ fl → H6 b = some o → (upd (upd H6 cm (.dT (putK kvs (kT r) v))) fl (.lst (fx ++ [.ref ra]))) b = some o := fun b o n1 n2 e => by
    rw [upd_ne n2, upd_ne n1]
    exact e
  have new : valV kvs (kT r) = none := by
    have := valT h2 r
    rw [decide_eq_false hn] at this
    exact Option.not_isSome_iff_eq_none.mp (by rw [this]; decide)
  refine ⟨⟨⟨_, by rw [upd_ne ncf]; exact upd_same, ?_⟩, ⟨_, upd_same, ?_⟩, ?_, ?_, ?_, Same.set (Same.set h8 h0c) h0f, but _ _ (ne_of h9 hc fun z => nomatch z) nlf h9, h10.keep k2⟩, k2, but⟩
  · rw [putK_new _ new, List.map_append, h2, ← List.append_assoc, List.map_append (l₂ := [r])]
    rfl
  · rw [List.map_append]
    exact (h4.keep k2).snoc ⟨ra, rfl, k2 _ _ hr⟩
  · rw [← List.append_assoc]
    exact nodup_snoc h5 hn
  · rw [← List.append_assoc]
    exact all_snoc h6 hU
  · rw [← List.append_assoc]
    exact all_snoc h7 (er ▸ .step (h7 _ hst) hp)
/-- between the turns -/
structure WkS (stp : List Str → List Stp) (bg : List Str) (U ks Ly : List (List Str)) : Prop where
  nd : ks.Nodup
  sub : ∀ s ∈ ks, s ∈ U
  lay : ∀ s ∈ Ly, s ∈ ks
  base : bg ∈ ks
  reach : ∀ s ∈ ks, ReachS stp bg s
  next : ∀ s ∈ ks, s ∉ Ly → ∀ p ∈ stp s, p.2.1 ∈ ks
def wkN (U ks Ly : List (List Str)) : Nat := (U.length - ks.length) + (if Ly = [] then 0 else 1)
section
variable {P : Program} {w : World} {K : PySem.W.Frag} {mg : Str → Option Value} {base : Heap}
abbrev s_walk : Stmt := topS 17
theorem sc_walk : FnScope ["watch", "word", "came", "layer", "following", "state", "move", "reached", "wrong"] ["watch", "word"] (defScope s_walk) := ⟨rfl, rfl, rfl, by decide +kernel, rfl, by decide +kernel, by decide +kernel⟩
abbrev N_walk : List Str := ["watch", "word", "came", "layer", "following", "state", "move", "reached", "wrong"]
def spWalk {ι : Type} (Wt : ι → Hp → Addr → Prop) (bg : ι → List Str) (stp : ι → List Str → List Stp) : Sp := fun vs H Q _ => ∃ (o : Addr) (i : ι), vs = [.ref o, .non] ∧ Wt i H o ∧
  ∀ (H' : Hp) (tp cm : Addr) (kvs : List (List Key × V)) (ks : List (List Str)), H tp = none → H' tp = some (.tup [.non, .ref cm]) → H' cm = some (.dT kvs) → kvs.map (·.1) = ks.map kT → ClosedS (stp i) (bg i) ks → Same H H' → Q (.ref tp) H'
theorem ok_walk {ι : Type} {C : Addr} {spS : Sp} {Wt : ι → Hp → Addr → Prop} {bg : ι → List Str} {stp : ι → List Str → List Stp} {U : ι → List (List Str)} {ns nf : Nat} (hns : ns ≤ 9) (hnf : nf ≤ 9) {f : Addr} {fd : FuncData} (F : Fun K "walk" "walk" s_walk f fd) (T : Bt mg) (WI : WatchI ι C spS Wt bg stp U) (nb : NoAttr K C "begin")
    (O_KindWatch_steps : OwnM P w K mg base CX0 ns C "steps" ["self", "state"] spS) (O_KindWatch_is_fault : OwnM P w K mg base CX0 nf C "is_fault" ["self", "state", "word"] (spKwFault C)) : FnOk P w K mg base CX0 10 f fd ["watch", "word"] (spWalk Wt bg stp) := by
  refine F.ok sc_walk (fun vs H Q E h => ?_) (fun cdv A outer s H vs Q E hr h => ?_)
  · obtain ⟨o, i, rfl, _⟩ := h
    rfl
  · obtain ⟨o, i, rfl, hw, q⟩ := h
    have hu := hu_of hr
    refine ⟨_, (pss_cons (ps_set (i := 2) sc_walk.nd rfl (Or.inl rfl) (pe_disp1T hu (pe_fld (pv 0) rfl) pe_non))
      (pss_cons (ps_set (i := 3) sc_walk.nd rfl (Or.inl rfl) (pe_lst (pa_cons (pe_fld (pv 0) rfl) pa_nil)))
      (pss_cons (ps_while PassesOwn.never (pt_truth (pv 3) (by intro _; rfl)) (pss_cons (ps_set (i := 4) sc_walk.nd rfl (Or.inl rfl) (pe_lst pa_nil))
      (pss_cons (ps_for PassesOwn.never rfl (pi_list (pv 3)) (pg_name (i := 5) sc_walk.nd rfl (Or.inl rfl)) (pss_one (ps_for PassesOwn.never rfl (pi_list (own_meth O_KindWatch_steps hr (by first | decide | omega) (pv 0) (pa_cons (pv 5) pa_nil))) (pg_tup rfl (pgs_cons (pg_name (i := 6) sc_walk.nd rfl (Or.inl rfl)) (pgs_cons (pg_name (i := 7) sc_walk.nd rfl (Or.inl rfl)) (pgs_cons (pg_name (i := 8) sc_walk.nd rfl (Or.inl rfl)) pgs_nil)))) (pss_cons (ps_if (pt_cmpR op_eq (pv 8) (pv 1) (nomark _)) (pss_one ps_dead) pss_nil)
      (pss_one (ps_if (pt_cmp (pc_dnotin hu (pv 7) (pv 2))) (pss_cons (ps_dput hu (pv 2) (pv 7) (pe_tup (pa_cons (pv 5) (pa_cons (pv 6) pa_nil))) rfl)
      (pss_cons (ps_expr (pe_bm PySem.F.plainAttrs_list PySem.F.slot_list_append PySem.F.type_list_append mt_append (pv 4) (pa_cons (pv 7) pa_nil)))
      (pss_one (ps_if (pt_val (own_meth O_KindWatch_is_fault hr (by first | decide | omega) (pv 0) (pa_cons (pv 7) (pa_cons (pv 1) pa_nil)))) (pss_one ps_dead) pss_nil)))) pss_nil))))))
      (pss_one (ps_set (i := 3) sc_walk.nd rfl (Or.inl rfl) (pv 4))))))
      (pss_one (ps_ret (pe_tup (pa_cons pe_non (pa_cons (pv 2) pa_nil)))))))), ?_⟩
    obtain ⟨dx, fs, bga, hi, lb, hbg, lst1, lst2⟩ := WI.ins i H o hw
    have cl := O_KindWatch_steps.cl
    intro cm hcm
    have s0 := same_new (o := .dT []) hcm
    walk_at "ls"
    refine ⟨o, C, dx, fs, _, rfl, s0 _ _ hi, cl, nb, lb, ?_⟩
    walk_at "ls"
    refine ⟨upd_same, bga, kT (bg i), .non, rfl, by rw [kT_kV]; exact s0 _ _ hbg, ?_⟩
    rw [upd_upd]
    have s1 := same_new (o := .dT [(kT (bg i), .non)]) hcm
    have h1 : (upd H cm (.dT [(kT (bg i), .non)])) cm = some (.dT [(kT (bg i), .non)]) := upd_same
    generalize upd H cm (.dT [(kT (bg i), .non)]) = H1 at *
    walk_at "ls"
    refine ⟨o, C, dx, fs, _, rfl, s1 _ _ hi, cl, nb, lb, ?_⟩
    refine ⟨(by show 1 ≤ sizeLine; decide), fun l0 hl0 => ?_⟩
    have s2 := s1.trans (same_new (o := .lst [.ref bga]) hl0)
    have h2 := same_new (o := .lst [.ref bga]) hl0 _ _ h1
    have h2l : (upd H1 l0 (.lst [.ref bga])) l0 = some (.lst [.ref bga]) := upd_same
    generalize upd H1 l0 (.lst [.ref bga]) = H2 at *
    refine ⟨fun m σ H' => ∃ (ks Ly : List (List Str)) (kvs : List (List Key × V)) (ly : Addr) (lx : List V) (v4 v5 v6 v7 v8 : Option V), σ = [some (.ref o), some .non, some (.ref cm), some (.ref ly), v4, v5, v6, v7, v8] ∧ H' cm = some (.dT kvs) ∧ kvs.map (·.1) = ks.map kT ∧ H' ly = some (.lst lx) ∧ TupsAt H' lx (Ly.map stV) ∧ WkS (stp i) (bg i) (U i) ks Ly ∧ Same H H' ∧ wkN (U i) ks Ly ≤ m,
      ⟨_, [bg i], [bg i], [(kT (bg i), .non)], l0, [.ref bga], none, none, none, none, none, rfl, h2, rfl, h2l, .cons ⟨bga, rfl, s2 _ _ hbg⟩ .nil, ⟨by simp, fun s hs => ?_, fun s hs => hs, .head _, fun s hs => ?_, fun s h1 h2 => absurd h1 h2⟩, s2, Nat.le_refl _⟩, ?_⟩
    · rw [List.mem_singleton.mp hs]
      exact WI.inU i
    · rw [List.mem_singleton.mp hs]
      exact .base
    rintro m σ H3 ⟨ks, Ly, kvs, ly, lx, v4, v5, v6, v7, v8, rfl, h3, hk, h3l, t3, wk, s3, hm⟩
    walk_at "ls"
    refine ⟨!lx.isEmpty, .inl ⟨lx, .inl (.inl h3l), rfl⟩, ?_⟩
    have ll := t3.len
    rw [List.length_map] at ll
    have lks : ks.length ≤ (U i).length := wk.nd.length_le_of_subset wk.sub
    have smU := WI.small i
    refine ite2 (fun e => ?_) (fun e => ?_)
    · have hne : Ly ≠ [] := by
        rintro rfl
        rw [List.length_nil, List.length_eq_zero_iff] at ll
        rw [ll] at e
        exact absurd e (by decide)
      refine ⟨fun σ' H' => ∃ m', m' < m ∧ _, fun σ' H' h => h, ?_⟩
      walk_at "ls"
      refine ⟨Nat.zero_le _, fun fl hfl => ?_⟩
      have nlf : ly ≠ fl := ne_of_none h3l hfl
      have h0f : H fl = none := s3.free hfl
      have s4 := same_new (o := .lst []) hfl
      have a0 : WkAt (stp i) (bg i) (U i) ks Ly H cm ly fl lx [] (upd H3 fl (.lst [])) := by
        refine WkAt.keep (H6 := upd H3 fl (.lst [])) ⟨⟨kvs, s4 _ _ h3, by rw [List.append_nil]; exact hk⟩, ⟨[], upd_same, .nil⟩, by rw [List.append_nil]; exact wk.nd, by rw [List.append_nil]; exact wk.sub, by rw [List.append_nil]; exact wk.reach, s3.trans s4, s4 _ _ h3l, t3.keep (.same s4)⟩ (Same.refl _)
      generalize upd H3 fl (.lst []) = H4 at *
      walk_at "ls"
      refine ⟨⟨_, .inl (.inl a0.lay)⟩, ?_⟩
      refine for_it (walk_list (xs := lx)) (fun j σ H6 => ∃ (Fl : List (List Str)) (v5 v6 v7 v8 : Option V), σ = [some (.ref o), some .non, some (.ref cm), some (.ref ly), some (.ref fl), v5, v6, v7, v8] ∧ WkAt (stp i) (bg i) (U i) ks Ly H cm ly fl lx Fl H6 ∧ ∀ s ∈ Ly.take j, ∀ p ∈ stp i s, p.2.1 ∈ ks ++ Fl)
        ⟨[], v5, v6, v7, v8, rfl, a0, fun s hs => by rw [List.take_zero] at hs; cases hs⟩ (fun j σ H6 _ ⟨_, _, _, _, _, _, a, _⟩ => .inl (.inl a.lay)) ?_ ?_
      · rintro j y σ Hz H6 hj ⟨Fl, v5, v6, v7, v8, rfl, a6, n6⟩ ⟨rfl, hy⟩
        obtain ⟨zs, hys, ta, rfl, hta⟩ := TupsAt.get a6.layT hy
        obtain ⟨st, hst, rfl⟩ := map_get hys
        have stL : st ∈ ks := wk.lay st (List.mem_of_getElem? hst)
        walk_at "ls"
        refine ⟨o, dx, fs, rfl, a6.same _ _ hi, lst1, ?_⟩
        walk_at "ls"
        refine WI.steps i _ o ta st _ _ (WI.same i _ _ _ hw a6.same) (wk.sub st stL) hta fun H7 sp sx hsp h7 t7 s7 => ?_
        have a7 := a6.keep s7
        have nfs : fl ≠ sp := by
          obtain ⟨fx, hfx, _⟩ := a6.foll
          exact ne_of_none hfx hsp
        have lsx := t7.len
        refine ⟨sp, rfl, ⟨_, .inl (.inl h7)⟩, ?_⟩
        refine for_it (walk_list (xs := sx)) (fun k σ H8 => ∃ (Fl2 : List (List Str)) (v6 v7 v8 : Option V), σ = [some (.ref o), some .non, some (.ref cm), some (.ref ly), some (.ref fl), some (.ref ta), v6, v7, v8] ∧ WkAt (stp i) (bg i) (U i) ks Ly H cm ly fl lx Fl2 H8 ∧
          (∀ s ∈ Ly.take j, ∀ p ∈ stp i s, p.2.1 ∈ ks ++ Fl2) ∧ (∀ p ∈ (stp i st).take k, p.2.1 ∈ ks ++ Fl2) ∧ H8 sp = some (.lst sx) ∧ StepsAt H8 sx (stp i st) ∧ H8 ta = some (.tup (stV st)))
          ⟨Fl, v6, v7, v8, rfl, a7, n6, (fun p hp => by rw [List.take_zero] at hp; cases hp), h7, t7, s7 _ _ hta⟩ (fun k σ H8 _ ⟨_, _, _, _, _, _, _, _, h, _⟩ => .inl (.inl h)) ?_ ?_
        · rintro k y2 σ Hz H8 hk8 ⟨Fl2, v6, v7, v8, rfl, a8, n8, m8, hs8, t8, hta8⟩ ⟨rfl, hy2⟩
          obtain ⟨p, hp, t, mv, ra, rfl, ht1, hmv, hra⟩ := StepsAt.get t8 hy2
          have hpm : p ∈ stp i st := List.mem_of_getElem? hp
          refine ⟨t, _, rfl, .inl (.inl ht1), rfl, _, _, rfl, _, _, rfl, _, _, rfl, rfl, ?_⟩
          walk_at "ls"
          obtain ⟨kvs8, hc8, ek8⟩ := a8.came
          obtain ⟨fx8, hf8, tf8⟩ := a8.foll
          refine ⟨cm, _, rfl, DGet.t (k := kT p.2.1) hc8 (by rw [kT_kV]; exact hra), _, rfl, ?_⟩
          rw [valT ek8]
          have tk1 : (stp i st).take (k + 1) = (stp i st).take k ++ [p] := by rw [List.take_add_one, hp]; rfl
          have lkvs : kvs8.length ≤ 100000 := by
            have h9 := congrArg List.length ek8
            rw [List.length_map, List.length_map] at h9
            rw [h9]
            exact Nat.le_trans (a8.nd.length_le_of_subset a8.sub) smU
          have lfx : fx8.length ≤ 100000 := by
            rw [tf8.len, List.length_map]
            have h9 := Nat.le_trans (a8.nd.length_le_of_subset a8.sub) smU
            rw [List.length_append] at h9
            omega
          refine ite2 (fun e9 => ?_) (fun e9 => ?_)
          · have hn : p.2.1 ∉ ks ++ Fl2 := by simpa using e9
            walk_at "ls"
            refine ⟨(by show 2 ≤ sizeLine; decide), fun tv htv => ?_⟩
            have sv := same_new (o := .tup [.ref ta, .ref mv]) htv
            have a9 := a8.keep sv
            have hc9 := sv _ _ hc8
            have hf9 := sv _ _ hf8
            have hr9 := sv _ _ hra
            have hs9 := sv _ _ hs8
            have t9 := t8.keep (.same sv)
            have hta9 := sv _ _ hta8
            generalize upd H8 tv (.tup [.ref ta, .ref mv]) = H9 at *
            obtain ⟨b1, b2, b3⟩ := a9.add (v := .ref tv) nlf hcm h0f hc9 hf9 hr9 (List.mem_append_left _ stL) hpm rfl (WI.clU i st (wk.sub st stL) p hpm) hn
            have ncf : fl ≠ cm := ne_of hf9 hc9 fun z => nomatch z
            walk_at "ls"
            refine ⟨cm, _, rfl, DPut.t (k := kT p.2.1) hc9 (by rw [kT_kV]; exact hr9) (Nat.lt_of_le_of_lt lkvs (by decide)), ?_⟩
            walk_at "ls"
            refine ⟨fl, fx8, _, rfl, rfl, by rw [upd_ne ncf]; exact hf9, Nat.lt_of_le_of_lt lfx (by decide), ?_⟩
            walk_at "ls"
            refine ⟨o, dx, fs, rfl, b1.same _ _ hi, lst2, ?_⟩
            walk_at "ls"
            refine ⟨o, _, _, rfl, ⟨false, rfl, iteF ?_⟩⟩
            have nsp : sp ≠ cm := ne_of hs9 hc9 fun z => nomatch z
            refine ⟨Fl2 ++ [p.2.1], _, _, _, rfl, b1, fun s hs p2 hp2 => ?_, fun p2 hp2 => ?_, b3 _ _ nsp (Ne.symm nfs) hs9, t9.keep b2, b2 _ _ hta9⟩
            · rw [← List.append_assoc]
              exact List.mem_append_left _ (n8 s hs p2 hp2)
            · rw [tk1] at hp2
              rw [← List.append_assoc]
              rcases List.mem_append.mp hp2 with h | h
              · exact List.mem_append_left _ (m8 p2 h)
              · rw [List.mem_singleton.mp h]
                exact List.mem_append_right _ (.head _)
          · have hin : p.2.1 ∈ ks ++ Fl2 := by
              by_cases h : p.2.1 ∈ ks ++ Fl2
              · exact h
              · rw [decide_eq_false h] at e9
                exact absurd rfl e9
            refine ⟨Fl2, _, _, _, rfl, a8, n8, ?_, hs8, t8, hta8⟩
            rw [tk1]
            exact all_snoc m8 hin
        · rintro σ H8 ⟨Fl2, v6, v7, v8, rfl, a8, n8, m8, _, _, _⟩
          rw [lsx, List.take_length] at m8
          refine ⟨Fl2, _, _, _, _, rfl, a8, fun s hs => ?_⟩
          rw [List.take_add_one, hst] at hs
          rcases List.mem_append.mp hs with h | h
          · exact n8 s h
          · rw [List.mem_singleton.mp h]
            exact m8
      · rintro σ H6 ⟨Fl, v5, v6, v7, v8, rfl, a6, n6⟩
        obtain ⟨kvs6, hk6, ek6⟩ := a6.came
        obtain ⟨fx, hfx, tfx⟩ := a6.foll
        walk_at "ls"
        refine ⟨wkN (U i) (ks ++ Fl) Fl, ?_, ks ++ Fl, Fl, kvs6, fl, fx, _, _, _, _, _, rfl, hk6, ek6, hfx, tfx, ⟨a6.nd, a6.sub, fun s hs => List.mem_append_right _ hs, List.mem_append_left _ wk.base, a6.reach, fun s hs hn p hp => ?_⟩, a6.same, Nat.le_refl _⟩
        · have h9 : (ks ++ Fl).length ≤ (U i).length := a6.nd.length_le_of_subset a6.sub
          rw [List.length_append] at h9
          have hm2 : (U i).length - ks.length + 1 ≤ m := by
            have := hm
            unfold wkN at this
            rw [if_neg hne] at this
            exact this
          unfold wkN
          rw [List.length_append]
          by_cases hF : Fl = []
          · rw [if_pos hF, hF, List.length_nil]
            omega
          · rw [if_neg hF]
            have : 0 < Fl.length := List.length_pos_iff.mpr hF
            omega
        · rcases List.mem_append.mp hs with h | h
          · by_cases hl : s ∈ Ly
            · refine n6 s ?_ p hp
              rw [List.take_of_length_le (Nat.le_of_eq ll.symm)]
              exact hl
            · exact List.mem_append_left _ (wk.next s h hl p hp)
          · exact absurd h hn
    · have hLy : Ly = [] := by
        have : lx = [] := by
          cases lx with
          | nil => rfl
          | cons a b => exact absurd rfl e
        rw [this] at ll
        exact List.eq_nil_of_length_eq_zero ll.symm
      walk_at "ls"
      refine ⟨(by show 2 ≤ sizeLine; decide), fun tp htp => ?_⟩
      have s9 := same_new (o := .tup [.non, .ref cm]) htp
      refine q _ tp cm kvs ks (s3.free htp) upd_same (s9 _ _ h3) hk ⟨wk.base, wk.reach, fun s hs p hp => wk.next s hs ?_ p hp⟩ (s3.trans s9)
      rw [hLy]
      exact fun h => nomatch h
end
end Ls
namespace Ls
open PySem PySem.Spec PyProof.Rows L2
/-! ### short steps -/
local macro_rules | `(tactic| walk_at "ls_ne") => `(tactic| first | assumption | exact Ne.symm (by assumption) | exact ne_of_none (by assumption) (by assumption) | exact Ne.symm (ne_of_none (by assumption) (by assumption)))
local macro_rules | `(tactic| walk_at "ls_hp") => `(tactic| first
  | with_reducible assumption
  | exact upd_same
  | exact Eq.trans (upd_ne (by walk_at "ls_ne")) (by walk_at "ls_hp"))
local macro_rules | `(tactic| walk_at "ls_st") => `(tactic| first
  | with_reducible assumption
  | exact Stm.upd (by walk_at "ls_st") (by first | walk_at "ls_ne" | exact (Stm.noneS (by assumption) (by assumption)).1) (by first | walk_at "ls_ne" | exact (Stm.noneS (by assumption) (by assumption)).2))
local macro_rules | `(tactic| walk_at "ls1") => `(tactic| first
  | refine ⟨_, rfl, ?_⟩
  | refine ⟨_, _, rfl, rfl, ?_⟩
  | refine ⟨_, _, _, _, rfl, rfl, .inl (.inl (by walk_at "ls_hp")), rfl, ?_⟩
  | refine ⟨_, _, _, _, rfl, rfl, (by walk_at "ls_hp"), rfl, ?_⟩
  | refine ⟨rfl, _, rfl, ?_⟩
  | refine ⟨.inl ⟨rfl, _, .inl (.inl (by walk_at "ls_hp"))⟩, ?_⟩)
local macro_rules | `(tactic| walk_at "ls") => `(tactic| repeat (walk_at "ls1"))

/-! ### the states of a kind's watch that are reached -/
def kStp (f : KFl) : List Str → List Stp
  | [x, l] => kSteps f x l
  | _ => []
def kBg : List Str := ["new", ""]
def kU : List (List Str) := kStates.map fun s => [s.1, s.2]
def kDue (f : KFl) : List (Str × Str) := if f.kmk = false then [("new", ""), ("plain", "")] else if f.klo = true then [("gone", ""), ("marked", ""), ("marked", "X"), ("new", ""), ("plain", "")] else
  if f.kfr = true then [("gone", ""), ("gone", "X"), ("marked", ""), ("marked", "X"), ("marked", "XX"), ("new", ""), ("plain", "")] else ([("gone", ""), ("gone", "X"), ("marked", ""), ("marked", "X"), ("marked", "XX"), ("new", ""), ("plain", "")] : List (Str × Str)) ++ ([("plain", "X")] : List (Str × Str))
def allFl : List KFl := [true, false].flatMap fun a => [true, false].flatMap fun b => [true, false].flatMap fun c => [true, false].flatMap fun d => [true, false].map fun e => ⟨a, b, c, d, e⟩
theorem all_fl (f : KFl) : f ∈ allFl := by
  obtain ⟨a, b, c, d, e⟩ := f
  cases a <;> cases b <;> cases c <;> cases d <;> cases e <;> decide
/-- what n steps lead to -/
def cloS (stp : List Str → List Stp) (bg : List Str) : Nat → List (List Str)
  | 0 => [bg]
  | n + 1 => ((cloS stp bg n) ++ (cloS stp bg n).flatMap fun s => (stp s).map fun p => p.2.1).eraseDups
theorem clo_reach {stp : List Str → List Stp} {bg : List Str} : ∀ {n : Nat} {s : List Str}, s ∈ cloS stp bg n → ReachS stp bg s
  | 0, s, h => by
    rw [List.mem_singleton.mp h]
    exact .base
  | n + 1, s, h => by
    have h2 := List.mem_eraseDups.mp h
    rcases List.mem_append.mp h2 with h2 | h2
    · exact clo_reach h2
    · obtain ⟨s0, h3, h4⟩ := List.mem_flatMap.mp h2
      obtain ⟨p, hp, rfl⟩ := List.mem_map.mp h4
      exact .step (clo_reach h3) hp
theorem reach_in {stp : List Str → List Stp} {bg : List Str} {ds : List (List Str)} (h0 : bg ∈ ds) (h1 : ∀ s ∈ ds, ∀ p ∈ stp s, p.2.1 ∈ ds) {s : List Str} (h : ReachS stp bg s) : s ∈ ds := by
  induction h with
  | base => exact h0
  | step _ hp ih => exact h1 _ ih _ hp
def dueT (f : KFl) : List (List Str) := (kDue f).map fun s => [s.1, s.2]
def kOk (f : KFl) : Bool := decide (kBg ∈ dueT f) && ((dueT f).all (fun s => (kStp f s).all fun p => decide (p.2.1 ∈ dueT f)) && ((dueT f).all (fun s => decide (s ∈ cloS (kStp f) kBg 6)) && (decide ((kStates.filter fun s => decide ([s.1, s.2] ∈ dueT f)) = kDue f) && kU.all fun s => (kStp f s).all fun p => decide (p.2.1 ∈ kU))))
theorem k_ok : allFl.all kOk = true := by decide +kernel
theorem ba2 {a b : Bool} (h : (a && b) = true) : a = true ∧ b = true := Bool.and_eq_true_iff.mp h
theorem kU_mem {s : Str × Str} (h : s ∈ kStates) : [s.1, s.2] ∈ kU := List.mem_map_of_mem (f := fun s : Str × Str => [s.1, s.2]) h
theorem k_due (f : KFl) {ks : List (List Str)} (c : ClosedS (kStp f) kBg ks) : (kStates.filter fun s => decide ([s.1, s.2] ∈ ks)) = kDue f := by
  have h := List.all_eq_true.mp k_ok f (all_fl f)
  unfold kOk at h
  obtain ⟨h1, h⟩ := ba2 h
  obtain ⟨h2, h⟩ := ba2 h
  obtain ⟨h3, h⟩ := ba2 h
  obtain ⟨h4, _⟩ := ba2 h
  refine Eq.trans (List.filter_congr fun s _ => decide_eq_decide.mpr ?_) (of_decide_eq_true h4)
  rw [c.iff]
  refine ⟨fun r => reach_in (of_decide_eq_true h1) (fun s hs p hp => ?_) r, fun m => clo_reach (n := 6) ?_⟩
  · exact of_decide_eq_true (List.all_eq_true.mp (List.all_eq_true.mp h2 s hs) p hp)
  · exact of_decide_eq_true (List.all_eq_true.mp h3 _ m)
theorem kU_closed (f : KFl) : ∀ st ∈ kU, ∀ p ∈ kStp f st, p.2.1 ∈ kU := fun st hs p hp => by
  have h := List.all_eq_true.mp k_ok f (all_fl f)
  unfold kOk at h
  obtain ⟨_, h⟩ := ba2 h
  obtain ⟨_, h⟩ := ba2 h
  obtain ⟨_, h⟩ := ba2 h
  obtain ⟨_, h⟩ := ba2 h
  exact of_decide_eq_true (List.all_eq_true.mp (List.all_eq_true.mp h st hs) p hp)
abbrev KIx := Shp × List Str × Str
theorem kw_watch {C aY : Addr} : WatchI KIx C (spKwSteps C aY) (fun i H o => KwS C aY H o i.1 i.2.1 i.2.2) (fun _ => kBg) (fun i => kStp (kfl i.1 i.2.1 i.2.2)) (fun _ => kU) where
  ins := fun i H o h => by
    obtain ⟨dx, bg, kr, hs, pt, ls, hi, hbg, _⟩ := h
    exact ⟨dx, _, bg, hi, kwF_begin, hbg, by kernel_rfl, by kernel_rfl⟩
  same := fun i H H' o h s => by
    obtain ⟨dx, bg, kr, hs, pt, ls, h1, h2, h3, h4, h5, h6⟩ := h
    exact ⟨dx, bg, kr, hs, pt, ls, s _ _ h1, s _ _ h2, s _ _ h3, s _ _ h4, s _ _ h5, s _ _ h6⟩
  steps := fun i H o t st Q E h hst ht q => by
    obtain ⟨s, hs, rfl⟩ := List.mem_map.mp hst
    have hl : s.1.length ≤ 10 ∧ s.2.length ≤ 9 := by
      have : ∀ s ∈ kStates, s.1.length ≤ 10 ∧ s.2.length ≤ 9 := by decide +kernel
      exact this s hs
    exact ⟨o, t, i.1, i.2.1, i.2.2, s.1, s.2, rfl, h, ht, hl.1, hl.2, q⟩
  inU := fun i => by
    show kBg ∈ kU
    decide +kernel
  clU := fun i => kU_closed _
  small := fun i => (by decide +kernel : kU.length ≤ 100000)
section
variable {P : Program} {w : World} {K : PySem.W.Frag} {mg : Str → Option Value} {base : Heap}
abbrev s_want_question : Stmt := topS 50
theorem sc_want_question : FnScope ["book", "question"] ["book", "question"] (defScope s_want_question) := ⟨rfl, rfl, rfl, by decide +kernel, rfl, by decide +kernel, by decide +kernel⟩
abbrev N_want_question : List Str := ["book", "question"]
def spWantQ (C : Addr) : Sp := fun vs H Q _ => ∃ (o : Addr) (z : Str) (B : Shp) (ck : List Str), vs = [.ref o, .str z] ∧ BookS C H o B ck ∧ B.Ok ∧ z ∈ questB B ∧ z.length ≤ 1000 ∧ ∀ H', Same H H' → Q .non H'
theorem ok_wantQ {C : Addr} {f : Addr} {fd : FuncData} (F : Fun K "want_question" "want_question" s_want_question f fd) (T : Bt mg) (O_Book_questions : OwnM P w K mg base CX0 1 C "questions" ["self"] (spQuest C)) (O_is_word_of : Own P w K mg base CX0 1 "is_word_of" ["thing", "words"] (spWord K)) : FnOk P w K mg base CX0 2 f fd ["book", "question"] (spWantQ C) := by
  refine F.ok sc_want_question (fun vs H Q E h => ?_) (fun cdv A outer s H vs Q E hr h => ?_)
  · obtain ⟨o, z, B, ck, rfl, _⟩ := h
    rfl
  · obtain ⟨o, z, B, ck, rfl, hb, hB, hz, lz, q⟩ := h
    have hu := hu_of hr
    refine ⟨_, (pss_one (ps_if (pt_not (pt_val (own_call O_is_word_of hr (by first | decide | omega) (pa_cons (pv 1) (pa_cons (own_meth0 O_Book_questions hr (by first | decide | omega) (pv 0)) pa_nil))))) (pss_one ps_dead) pss_nil)), ?_⟩
    walk_at "ls"
    have no : ∀ {k c m x : Addr} {fl : Str}, ¬ fl = "_checks" → ¬ fl = "_menu" → ¬ fl = "_columns" → ¬ fl = "_kinds" → (bookF k c m x).lookup fl = none := fun h1 h2 h3 h4 => bookF_no h1 h2 h3 h4
    obtain ⟨dx, kk, c0, m0, x0, ho⟩ := hb.ins
    refine ⟨o, _, _, rfl, ho, no (by decide +kernel) (by decide +kernel) (by decide +kernel) (by decide +kernel), ?_⟩
    refine ⟨o, B, ck, rfl, hb, hB, fun H1 p hp h1 s1 => ?_⟩
    refine ⟨_, p, _, rfl, .inl ⟨_, rfl, lz⟩, .inl (.inl (.inl h1)), _, rfl, ?_⟩
    rw [show isWordV (questB B) (.str z) = true from decide_eq_true hz]
    refine iteF ?_
    exact q _ s1
abbrev s_watch_of : Stmt := topS 40
theorem sc_watch_of : FnScope ["book", "question", "word", "name"] ["book", "question"] (defScope s_watch_of) := ⟨rfl, rfl, rfl, by decide +kernel, rfl, by decide +kernel, by decide +kernel⟩
abbrev N_watch_of : List Str := ["book", "question", "word", "name"]
theorem split_wordsK {ws : List Str} (hne : ws ≠ []) (h : ∀ p ∈ ws, 32 ∉ p.cps.toList) : Txt.split (Txt.join " " ws) " " = ws := TL.split_join (s := 32) (S := []) (by decide +kernel) (by decide +kernel) hne h
theorem split2 {a b : Str} (ha : 32 ∉ a.cps.toList) (hb : 32 ∉ b.cps.toList) : Txt.split (a ++ " " ++ b) " " = [a, b] := by
  have h := split_wordsK (ws := [a, b]) (fun e => by cases e) fun p hp => by
    simp only [List.mem_cons, List.not_mem_nil, or_false] at hp
    rcases hp with rfl | rfl
    · exact ha
    · exact hb
  have e : Txt.join " " [a, b] = a ++ " " ++ b := by
    rw [TL.join_eq]
    rfl
  rw [e] at h
  exact h
theorem nm_no32 {z : Str} (h : Nm z) : 32 ∉ z.cps.toList := fun m => absurd (h.1.2.2 32 m).1 (by omega)
def undueQ (kd : Str) : Str := "undue " ++ kd
theorem undue_ne {kd : Str} : undueQ kd ≠ "stuck" := fun e => by
  have h := congrArg (fun z : Str => (TL.tl z).head?) e
  unfold undueQ at h
  have h2 : (TL.tl ("undue " ++ kd : Str)).head? = some 117 := by
    rw [TL.tl_append]
    kernel_rfl
  have h3 : (TL.tl ("stuck" : Str)).head? = some 115 := by kernel_rfl
  have h4 := h2.symm.trans (h.trans h3)
  cases h4
theorem undue_in {B : Shp} {kd : Str} (h : kd ∈ B.ks.map (·.1)) : undueQ kd ∈ questB B := by
  unfold questB
  refine List.mem_append_left _ (List.mem_append_right _ ?_)
  obtain ⟨k, hk, rfl⟩ := List.mem_map.mp h
  exact List.mem_map_of_mem (f := fun k : Str × Bool => ("undue " : Str) ++ k.1) hk
theorem undue_split {kd : Str} (h : Nm kd) : Txt.split (undueQ kd) " " = [("undue" : Str), kd] := by
  unfold undueQ
  rw [show ("undue " : Str) = "undue" ++ " " by decide +kernel]
  exact split2 (by decide +kernel) (nm_no32 h)
def spWatchK (CB CK aY : Addr) : Sp := fun vs H Q _ => ∃ (ob : Addr) (B : Shp) (ck : List Str) (kd : Str), vs = [.ref ob, .str (undueQ kd)] ∧ BookS CB H ob B ck ∧ B.Ok ∧ kd ∈ B.ks.map (·.1) ∧ ∀ (H' : Hp) (o : Addr), KwS CK aY H' o B ck kd → Same H H' → Q (.ref o) H'
theorem ok_watchK {CB CK CC aY : Addr} {spC : Sp} {f : Addr} {fd : FuncData} (F : Fun K "watch_of" "watch_of" s_watch_of f fd) (T : Bt mg) (O_KindWatch : OwnC P w K mg base CX0 3 CK "KindWatch" ["self", "book", "kind"] (spKwInit CB CK aY)) (O_ColumnWatch : OwnC P w K mg base CX0 4 CC "ColumnWatch" ["self", "book", "column"] spC) :
    FnOk P w K mg base CX0 6 f fd ["book", "question"] (spWatchK CB CK aY) := by
  refine F.ok sc_watch_of (fun vs H Q E h => ?_) (fun cdv A outer s H vs Q E hr h => ?_)
  · obtain ⟨ob, B, ck, kd, rfl, _⟩ := h
    rfl
  · obtain ⟨ob, B, ck, kd, rfl, hb, hB, hkd, q⟩ := h
    have hu := hu_of hr
    refine ⟨_, (pss_cons (ps_asg (pe_split (pv 1) pe_str) (pg_lst rfl (pgs_cons (pg_name (i := 2) sc_watch_of.nd rfl (Or.inl rfl)) (pgs_cons (pg_name (i := 3) sc_watch_of.nd rfl (Or.inl rfl)) pgs_nil))))
      (pss_one (ps_ret (pe_ifExp (pt_cmpR op_eq (pv 2) pe_str (nomark _)) (own_make O_KindWatch hr (by first | decide | omega) (pa_cons (pv 0) (pa_cons (pv 3) pa_nil))) (own_make O_ColumnWatch hr (by first | decide | omega) (pa_cons (pv 0) (pa_cons (pv 3) pa_nil))))))), ?_⟩
    walk_at "ls"
    have nkd : Nm kd := hB.nm _ (List.mem_append_left _ hkd)
    refine ⟨⟨_, rfl⟩, _, " ", rfl, rfl, (by decide +kernel), ?_, fun p hp => ?_⟩
    · exact Nat.le_trans (Nat.add_le_add_right (okB_len (okB_append (show okB 6 "undue " = true by decide +kernel) (nm_ok nkd))) 2) (by decide)
    rw [undue_split nkd]
    have s1 := same_new (o := .lst (([("undue" : Str), kd] : List Str).map V.str)) hp
    have h1 : (upd H p (.lst (([("undue" : Str), kd] : List Str).map V.str))) p = some (.lst (([("undue" : Str), kd] : List Str).map V.str)) := upd_same
    generalize upd H p (.lst (([("undue" : Str), kd] : List Str).map V.str)) = H1 at *
    refine ⟨p, _, rfl, .inl (.inl h1), rfl, _, _, rfl, _, _, rfl, rfl, ?_⟩
    walk_at "ls"
    intro o dx ho hdx hne
    have sn : Same H1 (upd (upd H1 dx (.own o)) o (.ins CK dx [])) := (same_new hdx).trans (same_new (by rw [upd_ne (Ne.symm hne)]; exact ho))
    refine ⟨o, dx, ob, B, ck, kd, rfl, upd_same, BookS.same hb (s1.trans sn), hB, hkd, fun H2 hk bt => ⟨rfl, q H2 o hk fun b u e => bt b u (ne_of_none (s1 _ _ e) ho) (sn _ _ (s1 _ _ e))⟩⟩
abbrev s_table : Stmt := topS 49
theorem sc_table : FnScope ["book", "question", "watch", "moves", "reached", "state"] ["book", "question"] (defScope s_table) := ⟨rfl, rfl, rfl, by decide +kernel, rfl, by decide +kernel, by decide +kernel⟩
abbrev N_table : List Str := ["book", "question", "watch", "moves", "reached", "state"]
def spTableK (CB : Addr) : Sp := fun vs H Q _ => ∃ (ob : Addr) (B : Shp) (ck : List Str) (kd : Str), vs = [.ref ob, .str (undueQ kd)] ∧ BookS CB H ob B ck ∧ B.Ok ∧ kd ∈ B.ks.map (·.1) ∧ ∀ (H' : Hp) (p : Addr) (xs : List V), H' p = some (.lst xs) → TupsAt H' xs ((kDue (kfl B ck kd)).map ssV) → Same H H' → Q (.ref p) H'
theorem ok_tableK {CB CK aY : Addr} {f : Addr} {fd : FuncData} (F : Fun K "table" "table" s_table f fd) (T : Bt mg) (O_want_question : Own P w K mg base CX0 2 "want_question" ["book", "question"] (spWantQ CB)) (O_watch_of : Own P w K mg base CX0 6 "watch_of" ["book", "question"] (spWatchK CB CK aY))
    (O_walk : Own P w K mg base CX0 10 "walk" ["watch", "word"] (spWalk (fun (i : KIx) H o => KwS CK aY H o i.1 i.2.1 i.2.2) (fun _ => kBg) (fun i => kStp (kfl i.1 i.2.1 i.2.2)))) (O_KindWatch_states : OwnM P w K mg base CX0 1 CK "states" ["self"] (spKwStates CK aY)) : FnOk P w K mg base CX0 11 f fd ["book", "question"] (spTableK CB) := by
  refine F.ok sc_table (fun vs H Q E h => ?_) (fun cdv A outer s H vs Q E hr h => ?_)
  · obtain ⟨ob, B, ck, kd, rfl, _⟩ := h
    rfl
  · obtain ⟨ob, B, ck, kd, rfl, hb, hB, hkd, q⟩ := h
    have hu := hu_of hr
    refine ⟨_, (pss_cons (ps_expr (own_call O_want_question hr (by first | decide | omega) (pa_cons (pv 0) (pa_cons (pv 1) pa_nil))))
      (pss_cons (ps_if (pt_cmpR op_eq (pv 1) pe_str (nomark _)) (pss_one ps_dead) pss_nil)
      (pss_cons (ps_set (i := 2) sc_table.nd rfl (Or.inl rfl) (own_call O_watch_of hr (by first | decide | omega) (pa_cons (pv 0) (pa_cons (pv 1) pa_nil))))
      (pss_cons (ps_asg (own_call O_walk hr (by first | decide | omega) (pa_cons (pv 2) (pa_cons pe_non pa_nil))) (pg_tup rfl (pgs_cons (pg_name (i := 3) sc_table.nd rfl (Or.inl rfl)) (pgs_cons (pg_name (i := 4) sc_table.nd rfl (Or.inr rfl)) pgs_nil))))
      (pss_one (ps_ret (pe_lc (own := [("state", 5)]) (g := gName 5) (by rfl) sc_table.nd (pi_list (own_meth0 O_KindWatch_states hr (by first | decide | omega) (pv 2))) (blkOk_by (own := [("state", 5)]) (N := N_table) (sc := defScope s_table) (by decide +kernel)) (fun _ _ _ _ _ => (pg_name (i := 5) sc_table.nd rfl (Or.inl rfl) (Or.inr rfl))) (fun _ _ _ _ _ => (pts_one (pt_cmp (pc_din hu (pv 5) (pv 4))))) (fun _ _ _ _ _ => (pv 5))))))))), ?_⟩
    walk_at "ls"
    have nkd : Nm kd := hB.nm _ (List.mem_append_left _ hkd)
    refine ⟨ob, _, B, ck, rfl, hb, hB, undue_in hkd, ?_, fun H1 s1 => ?_⟩
    · exact Nat.le_trans (okB_len (okB_append (show okB 6 "undue " = true by decide +kernel) (nm_ok nkd))) (by decide)
    walk_at "ls"
    rw [show decide (V.str (undueQ kd) = V.str "stuck") = false from decide_eq_false fun e => undue_ne (V.str.inj e)]
    refine iteF ?_
    walk_at "ls"
    refine ⟨ob, B, ck, kd, rfl, hb.same s1, hB, hkd, fun H2 o hk s2 => ?_⟩
    walk_at "ls"
    refine ⟨o, (B, ck, kd), rfl, hk, fun H3 tp cm kvs ks htp h3 hcm hk3 hcl s3 => ?_⟩
    refine ⟨tp, _, rfl, .inl (.inl h3), rfl, _, _, rfl, _, _, rfl, rfl, ?_⟩
    have hkw3 := (kw_watch (C := CK) (aY := aY)).same (B, ck, kd) _ _ _ hk s3
    obtain ⟨dx, bg, kr, hs, pt, ls, hi, _⟩ := id hkw3
    walk_at "ls"
    refine ⟨o, _, _, rfl, hi, by kernel_rfl, ?_⟩
    refine ⟨o, B, ck, kd, rfl, hkw3, fun H4 sp sx hsp h4 t4 s4 => ?_⟩
    have hcm4 := s4 _ _ hcm
    have lsx := t4.len
    rw [List.length_map] at lsx
    refine ⟨sp, rfl, ⟨_, .inl (.inl h4)⟩, fun D hD => ?_⟩
    have s14 := ((s1.trans s2).trans s3).trans s4
    refine lc_it (walk_list (xs := sx)) (fun j H5 => ∃ xs : List V, H5 D = some (.lst xs) ∧ xs.length ≤ j ∧ TupsAt H5 xs (((kStates.take j).filter fun s => decide ([s.1, s.2] ∈ ks)).map ssV) ∧ Same H4 H5) ⟨[], upd_same, Nat.zero_le _, .nil, same_new hD⟩ (fun j H5 _ ⟨_, _, _, _, s5⟩ => .inl (.inl (s5 _ _ h4))) ?_ ?_
    · rintro j y Hy H5 hj ⟨xs, h5, l5, t5, s5⟩ ⟨rfl, hy⟩
      obtain ⟨zs, hzs, t, rfl, ht⟩ := TupsAt.get (t4.keep (.same s5)) hy
      obtain ⟨z, hz, rfl⟩ := map_get hzs
      have tk1 : (kStates.take (j + 1)).filter (fun s => decide ([s.1, s.2] ∈ ks)) = (kStates.take j).filter (fun s => decide ([s.1, s.2] ∈ ks)) ++ (if [z.1, z.2] ∈ ks then [z] else []) := by
        rw [List.take_add_one, hz, List.filter_append]
        congr 1
        by_cases hm : [z.1, z.2] ∈ ks
        · rw [if_pos hm]
          simp [hm]
        · rw [if_neg hm]
          simp [hm]
      refine ⟨rfl, ?_⟩
      walk_at "ls"
      refine ⟨cm, _, rfl, DGet.t (k := kT [z.1, z.2]) (s5 _ _ hcm4) (by rw [kT_kV]; exact ht), _, rfl, ?_⟩
      rw [valT hk3]
      refine ite2 (fun e => ?_) (fun e => ?_)
      · walk_at "ls"
        have l12 : kStates.length = 12 := rfl
        refine ⟨xs, h5, small1000 (by omega), xs ++ [.ref t], upd_same, by rw [List.length_append]; show _ + 1 ≤ _; omega, ?_, Same.set s5 hD⟩
        rw [tk1, if_pos (of_decide_eq_true e), List.map_append]
        exact (t5.snoc ⟨t, rfl, ht⟩).keep (.lst h5)
      · refine ⟨xs, h5, by omega, ?_, s5⟩
        rw [tk1, if_neg (fun m => e (decide_eq_true m)), List.append_nil]
        exact t5
    · rintro H5 ⟨xs, h5, l5, t5, s5⟩
      rw [lsx, List.take_length, k_due (kfl B ck kd) hcl] at t5
      exact q H5 D xs h5 t5 (s14.trans s5)
end
end Ls
namespace Ls
open PySem PySem.Spec PyProof.Rows L2
/-! ### short steps -/
local macro_rules | `(tactic| walk_at "ls_ne") => `(tactic| first | assumption | exact Ne.symm (by assumption) | exact ne_of_none (by assumption) (by assumption) | exact Ne.symm (ne_of_none (by assumption) (by assumption)))
local macro_rules | `(tactic| walk_at "ls_hp") => `(tactic| first
  | with_reducible assumption
  | exact upd_same
  | exact Eq.trans (upd_ne (by walk_at "ls_ne")) (by walk_at "ls_hp"))
local macro_rules | `(tactic| walk_at "ls_st") => `(tactic| first
  | with_reducible assumption
  | exact Stm.upd (by walk_at "ls_st") (by first | walk_at "ls_ne" | exact (Stm.noneS (by assumption) (by assumption)).1) (by first | walk_at "ls_ne" | exact (Stm.noneS (by assumption) (by assumption)).2))
local macro_rules | `(tactic| walk_at "ls1") => `(tactic| first
  | refine ⟨_, rfl, ?_⟩
  | refine ⟨_, _, rfl, rfl, ?_⟩
  | refine ⟨_, _, _, _, rfl, rfl, .inl (.inl (by walk_at "ls_hp")), rfl, ?_⟩
  | refine ⟨_, _, _, _, rfl, rfl, (by walk_at "ls_hp"), rfl, ?_⟩
  | refine ⟨rfl, _, rfl, ?_⟩
  | refine ⟨.inl ⟨rfl, _, .inl (.inl (by walk_at "ls_hp"))⟩, ?_⟩)
local macro_rules | `(tactic| walk_at "ls") => `(tactic| repeat (walk_at "ls1"))

theorem kDue_fl {f g : KFl} (h1 : f.kmk = g.kmk) (h2 : f.klo = g.klo) (h3 : f.kfr = g.kfr) : kDue f = kDue g := by
  unfold kDue
  rw [h1, h2, h3]
def ssD (p : Str × Str) : PyData := .tuple [.str p.1, .str p.2]
section
variable {P : Program} {w : World} {K : PySem.W.Frag} {mg : Str → Option Value} {base : Heap}
theorem ss_dps {H : Hp} : ∀ {xs : List V} {l : List (Str × Str)}, TupsAt H xs (l.map ssV) → DpAll K H xs (l.map ssD)
  | [], [], _ => .nil
  | x :: xs, p :: l, h => by
    cases h with
    | cons h1 h2 =>
      obtain ⟨t, rfl, ht⟩ := h1
      exact .cons (.tup (.inl (.inl ht)) (.cons (.str _) (.cons (.str _) .nil))) (ss_dps h2)
  | [], _ :: _, h => by cases h
  | _ :: _, [], h => by cases h
theorem ss_step {H0 H H1 : Hp} {t : Addr} {xs : List V} {l : List (Str × Str)} {z : Str × Str} (h : TupsAt H xs (l.map ssV)) (s : Same H0 H) (ht : H t = none) (e : H1 = upd H t (.tup (ssV z))) : TupsAt H1 (xs ++ [.ref t]) ((l ++ [z]).map ssV) ∧ Same H0 H1 := by
  subst e
  have st := same_new (o := .tup (ssV z)) ht
  refine ⟨?_, s.trans st⟩
  rw [List.map_append]
  exact (h.keep (.same st)).snoc ⟨t, rfl, upd_same⟩
theorem ss_ok (f : KFl) : DOk 2 200 (.list ((kDue f).map ssD)) := by
  have h : ∀ f ∈ allFl, ((kDue f).all fun p => okB 10 p.1 && okB 10 p.2) = true ∧ (kDue f).length ≤ 8 := by decide +kernel
  obtain ⟨h1, h2⟩ := h f (all_fl f)
  refine (DOk.list' (k := 1) (m := 22) (n := 8) (fun d hd => ?_) (by rw [List.length_map]; exact h2)).mono (Nat.le_refl _) (by decide)
  obtain ⟨p, hp, rfl⟩ := List.mem_map.mp hd
  obtain ⟨a, b⟩ := ba2 (List.all_eq_true.mp h1 p hp)
  exact DOk.tuple' (k := 0) (m := 10) (n := 2) (fun d hd => by
    simp only [List.mem_cons, List.not_mem_nil, or_false] at hd
    rcases hd with rfl | rfl
    · exact .str a
    · exact .str b) (by simp)
abbrev s__law_due : Stmt := topS 63
theorem sc__law_due : FnScope ["_law_b", "_law_kind", "_law_found"] ["_law_b", "_law_kind"] (defScope s__law_due) := ⟨rfl, rfl, rfl, by decide +kernel, rfl, by decide +kernel, by decide +kernel⟩
abbrev N__law_due : List Str := ["_law_b", "_law_kind", "_law_found"]
def spDueK : Sp := fun vs H Q _ => ∃ (S L b : Addr) (B : Shp) (ck : List Str) (kd : Str), vs = [.ref b, .str kd] ∧ ShpAt S L H b B ck ∧ B.Ok ∧ kd ∈ B.ks.map (·.1) ∧ ck.length ≤ 1000 ∧ ∀ (H' : Hp) (p : Addr) (xs : List V), H' p = some (.lst xs) → TupsAt H' xs ((kDue (kfl B ck kd)).map ssV) → Same H H' → Q (.ref p) H'
theorem ok_dueK {f : Addr} {fd : FuncData} (F : Fun K "_law_due" "_law_due" s__law_due f fd) (T : Bt mg) (O__law_markable : Own P w K mg base CX0 1 "_law_markable" ["_law_b"] spMarkL) : FnOk P w K mg base CX0 2 f fd ["_law_b", "_law_kind"] spDueK := by
  refine F.ok sc__law_due (fun vs H Q E h => ?_) (fun cdv A outer s H vs Q E hr h => ?_)
  · obtain ⟨S, L, b, B, ck, kd, rfl, _⟩ := h
    rfl
  · obtain ⟨S, L, b, B, ck, kd, rfl, hs, hB, hkd, lck, q⟩ := h
    have hu := hu_of hr
    refine ⟨_, (pss_cons (ps_if (pt_cmpR (notIn_seq K) (pv 1) (own_call O__law_markable hr (by first | decide | omega) (pa_cons (pv 0) pa_nil)) (by rfl)) (pss_one (ps_ret (pe_lst (pa_cons (pe_tup (pa_cons pe_str (pa_cons pe_str pa_nil))) (pa_cons (pe_tup (pa_cons pe_str (pa_cons pe_str pa_nil))) pa_nil))))) pss_nil)
      (pss_cons (ps_if (pt_cmpR (in_seq K) pe_str (pe_dget hu (pv 0) pe_str (fun _ _ => rfl)) (by rfl)) (pss_one (ps_ret (pe_lst (pa_cons (pe_tup (pa_cons pe_str (pa_cons pe_str pa_nil))) (pa_cons (pe_tup (pa_cons pe_str (pa_cons pe_str pa_nil))) (pa_cons (pe_tup (pa_cons pe_str (pa_cons pe_str pa_nil))) (pa_cons (pe_tup (pa_cons pe_str (pa_cons pe_str pa_nil))) (pa_cons (pe_tup (pa_cons pe_str (pa_cons pe_str pa_nil))) pa_nil)))))))) pss_nil)
      (pss_cons (ps_set (i := 2) sc__law_due.nd rfl (Or.inl rfl) (pe_lst (pa_cons (pe_tup (pa_cons pe_str (pa_cons pe_str pa_nil))) (pa_cons (pe_tup (pa_cons pe_str (pa_cons pe_str pa_nil))) (pa_cons (pe_tup (pa_cons pe_str (pa_cons pe_str pa_nil))) (pa_cons (pe_tup (pa_cons pe_str (pa_cons pe_str pa_nil))) (pa_cons (pe_tup (pa_cons pe_str (pa_cons pe_str pa_nil))) (pa_cons (pe_tup (pa_cons pe_str (pa_cons pe_str pa_nil))) (pa_cons (pe_tup (pa_cons pe_str (pa_cons pe_str pa_nil))) pa_nil)))))))))
      (pss_one (ps_ret (pe_ifExp (pt_cmpR (in_seq K) pe_str (pe_dget hu (pv 0) pe_str (fun _ _ => rfl)) (by rfl)) (pv 2) (pe_op op_cat (pv 2) (pe_lst (pa_cons (pe_tup (pa_cons pe_str (pa_cons pe_str pa_nil))) pa_nil))))))))), ?_⟩
    walk_at "ls"
    refine ⟨S, L, b, B, ck, rfl, hs, hB, fun H1 p1 hp1 h1 s1 => ?_⟩
    refine ⟨_, _, rfl, .inl (.inl (.inl h1)), rfl, all_flat _, _, rfl, ?_⟩
    rw [show (if true = true then !inV (V.str kd) ((markList B).map V.str) else inV (V.str kd) ((markList B).map V.str)) = !inV (V.str kd) ((markList B).map V.str) from rfl, in_strs]
    refine ite2 (fun e => ?_) (fun e => ?_)
    · have e0 : kDue (kfl B ck kd) = ([("new", ""), ("plain", "")] : List (Str × Str)) := by
        unfold kDue
        rw [if_pos (show (kfl B ck kd).kmk = false from (Bool.not_eq_true' _).mp e)]
      walk_at "ls"
      have t0 : TupsAt H1 [] (([] : List (Str × Str)).map ssV) := .nil
      refine ⟨(by show 2 ≤ sizeLine; decide), fun a0 ha0 => ?_⟩
      obtain ⟨t1, s1⟩ := ss_step (H1 := upd _ a0 (.tup [.str "new", .str ""])) (z := ("new", "")) t0 s1 ha0 rfl
      generalize upd _ a0 (.tup [.str "new", .str ""]) = G1 at *
      walk_at "ls"
      refine ⟨(by show 2 ≤ sizeLine; decide), fun a1 ha1 => ?_⟩
      obtain ⟨t2, s1⟩ := ss_step (H1 := upd _ a1 (.tup [.str "plain", .str ""])) (z := ("plain", "")) t1 s1 ha1 rfl
      generalize upd _ a1 (.tup [.str "plain", .str ""]) = G2 at *
      walk_at "ls"
      refine ⟨(by show 2 ≤ sizeLine; decide), fun p hp => ?_⟩
      exact q _ p _ upd_same (by rw [e0]; exact t2.keep (.new hp)) (s1.trans (same_new hp))
    · have e1 : ¬ (kfl B ck kd).kmk = false := fun z => e (by
        show (!(kfl B ck kd).kmk) = true
        rw [z]
        rfl)
      obtain ⟨ka, ca, ea, kx, cx, hb, hk, hkt, hc, hct, he, n1, n2, n3⟩ := hs
      walk_at "ls"
      refine ⟨b, _, rfl, dg_checks (s1 _ _ hb), ?_⟩
      refine ⟨_, _, rfl, .inl (.inl (.inl (s1 _ _ he))), rfl, all_flat _, _, rfl, ?_⟩
      rw [show (if false = true then !inV (V.str "lone") (ck.map V.str) else inV (V.str "lone") (ck.map V.str)) = inV (V.str "lone") (ck.map V.str) from rfl, in_strs]
      refine ite2 (fun e2 => ?_) (fun e2 => ?_)
      · have e0 : kDue (kfl B ck kd) = ([("gone", ""), ("marked", ""), ("marked", "X"), ("new", ""), ("plain", "")] : List (Str × Str)) := by
          unfold kDue
          rw [if_neg e1, if_pos (show (kfl B ck kd).klo = true from e2)]
        walk_at "ls"
        have t0 : TupsAt H1 [] (([] : List (Str × Str)).map ssV) := .nil
        refine ⟨(by show 2 ≤ sizeLine; decide), fun a0 ha0 => ?_⟩
        obtain ⟨t1, s1⟩ := ss_step (H1 := upd _ a0 (.tup [.str "gone", .str ""])) (z := ("gone", "")) t0 s1 ha0 rfl
        generalize upd _ a0 (.tup [.str "gone", .str ""]) = G1 at *
        walk_at "ls"
        refine ⟨(by show 2 ≤ sizeLine; decide), fun a1 ha1 => ?_⟩
        obtain ⟨t2, s1⟩ := ss_step (H1 := upd _ a1 (.tup [.str "marked", .str ""])) (z := ("marked", "")) t1 s1 ha1 rfl
        generalize upd _ a1 (.tup [.str "marked", .str ""]) = G2 at *
        walk_at "ls"
        refine ⟨(by show 2 ≤ sizeLine; decide), fun a2 ha2 => ?_⟩
        obtain ⟨t3, s1⟩ := ss_step (H1 := upd _ a2 (.tup [.str "marked", .str "X"])) (z := ("marked", "X")) t2 s1 ha2 rfl
        generalize upd _ a2 (.tup [.str "marked", .str "X"]) = G3 at *
        walk_at "ls"
        refine ⟨(by show 2 ≤ sizeLine; decide), fun a3 ha3 => ?_⟩
        obtain ⟨t4, s1⟩ := ss_step (H1 := upd _ a3 (.tup [.str "new", .str ""])) (z := ("new", "")) t3 s1 ha3 rfl
        generalize upd _ a3 (.tup [.str "new", .str ""]) = G4 at *
        walk_at "ls"
        refine ⟨(by show 2 ≤ sizeLine; decide), fun a4 ha4 => ?_⟩
        obtain ⟨t5, s1⟩ := ss_step (H1 := upd _ a4 (.tup [.str "plain", .str ""])) (z := ("plain", "")) t4 s1 ha4 rfl
        generalize upd _ a4 (.tup [.str "plain", .str ""]) = G5 at *
        walk_at "ls"
        refine ⟨(by show 5 ≤ sizeLine; decide), fun p hp => ?_⟩
        exact q _ p _ upd_same (by rw [e0]; exact t5.keep (.new hp)) (s1.trans (same_new hp))
      · walk_at "ls"
        have t0 : TupsAt H1 [] (([] : List (Str × Str)).map ssV) := .nil
        refine ⟨(by show 2 ≤ sizeLine; decide), fun a0 ha0 => ?_⟩
        obtain ⟨t1, s1⟩ := ss_step (H1 := upd _ a0 (.tup [.str "gone", .str ""])) (z := ("gone", "")) t0 s1 ha0 rfl
        generalize upd _ a0 (.tup [.str "gone", .str ""]) = G1 at *
        walk_at "ls"
        refine ⟨(by show 2 ≤ sizeLine; decide), fun a1 ha1 => ?_⟩
        obtain ⟨t2, s1⟩ := ss_step (H1 := upd _ a1 (.tup [.str "gone", .str "X"])) (z := ("gone", "X")) t1 s1 ha1 rfl
        generalize upd _ a1 (.tup [.str "gone", .str "X"]) = G2 at *
        walk_at "ls"
        refine ⟨(by show 2 ≤ sizeLine; decide), fun a2 ha2 => ?_⟩
        obtain ⟨t3, s1⟩ := ss_step (H1 := upd _ a2 (.tup [.str "marked", .str ""])) (z := ("marked", "")) t2 s1 ha2 rfl
        generalize upd _ a2 (.tup [.str "marked", .str ""]) = G3 at *
        walk_at "ls"
        refine ⟨(by show 2 ≤ sizeLine; decide), fun a3 ha3 => ?_⟩
        obtain ⟨t4, s1⟩ := ss_step (H1 := upd _ a3 (.tup [.str "marked", .str "X"])) (z := ("marked", "X")) t3 s1 ha3 rfl
        generalize upd _ a3 (.tup [.str "marked", .str "X"]) = G4 at *
        walk_at "ls"
        refine ⟨(by show 2 ≤ sizeLine; decide), fun a4 ha4 => ?_⟩
        obtain ⟨t5, s1⟩ := ss_step (H1 := upd _ a4 (.tup [.str "marked", .str "XX"])) (z := ("marked", "XX")) t4 s1 ha4 rfl
        generalize upd _ a4 (.tup [.str "marked", .str "XX"]) = G5 at *
        walk_at "ls"
        refine ⟨(by show 2 ≤ sizeLine; decide), fun a5 ha5 => ?_⟩
        obtain ⟨t6, s1⟩ := ss_step (H1 := upd _ a5 (.tup [.str "new", .str ""])) (z := ("new", "")) t5 s1 ha5 rfl
        generalize upd _ a5 (.tup [.str "new", .str ""]) = G6 at *
        walk_at "ls"
        refine ⟨(by show 2 ≤ sizeLine; decide), fun a6 ha6 => ?_⟩
        obtain ⟨t7, s1⟩ := ss_step (H1 := upd _ a6 (.tup [.str "plain", .str ""])) (z := ("plain", "")) t6 s1 ha6 rfl
        generalize upd _ a6 (.tup [.str "plain", .str ""]) = G7 at *
        walk_at "ls"
        refine ⟨(by show 7 ≤ sizeLine; decide), fun p hp => ?_⟩
        have s2 := s1.trans (same_new (o := .lst [.ref a0, .ref a1, .ref a2, .ref a3, .ref a4, .ref a5, .ref a6]) hp)
        walk_at "ls"
        refine ⟨b, _, rfl, dg_checks (s2 _ _ hb), ?_⟩
        refine ⟨_, _, rfl, .inl (.inl (.inl (s2 _ _ he))), rfl, all_flat _, _, rfl, ?_⟩
        rw [show (if false = true then !inV (V.str "fresh") (ck.map V.str) else inV (V.str "fresh") (ck.map V.str)) = inV (V.str "fresh") (ck.map V.str) from rfl, in_strs]
        have t8 : TupsAt (upd G7 p (.lst [.ref a0, .ref a1, .ref a2, .ref a3, .ref a4, .ref a5, .ref a6])) _ _ := t7.keep (.new hp)
        have hpp : (upd G7 p (.lst [.ref a0, .ref a1, .ref a2, .ref a3, .ref a4, .ref a5, .ref a6])) p = some (.lst [.ref a0, .ref a1, .ref a2, .ref a3, .ref a4, .ref a5, .ref a6]) := upd_same
        generalize upd G7 p (.lst [.ref a0, .ref a1, .ref a2, .ref a3, .ref a4, .ref a5, .ref a6]) = G8 at *
        refine ite2 (fun e3 => ?_) (fun e3 => ?_)
        · have e0 : kDue (kfl B ck kd) = ([("gone", ""), ("gone", "X"), ("marked", ""), ("marked", "X"), ("marked", "XX"), ("new", ""), ("plain", "")] : List (Str × Str)) := by
            unfold kDue
            rw [if_neg e1, if_neg (show ¬ (kfl B ck kd).klo = true from e2), if_pos (show (kfl B ck kd).kfr = true from e3)]
          walk_at "ls"
          exact q _ p _ hpp (by rw [e0]; exact t8) s2
        · have e0 : kDue (kfl B ck kd) = ([("gone", ""), ("gone", "X"), ("marked", ""), ("marked", "X"), ("marked", "XX"), ("new", ""), ("plain", "")] : List (Str × Str)) ++ ([("plain", "X")] : List (Str × Str)) := by
            unfold kDue
            rw [if_neg e1, if_neg (show ¬ (kfl B ck kd).klo = true from e2), if_neg (show ¬ (kfl B ck kd).kfr = true from e3)]
          walk_at "ls"
          refine ⟨(by show 2 ≤ sizeLine; decide), fun a7 ha7 => ?_⟩
          obtain ⟨t9, s9⟩ := ss_step (H1 := upd _ a7 (.tup [.str "plain", .str "X"])) (z := ("plain", "X")) t8 s2 ha7 rfl
          have hp9 := same_new (o := .tup [.str "plain", .str "X"]) ha7 _ _ hpp
          generalize upd _ a7 (.tup [.str "plain", .str "X"]) = G9 at *
          walk_at "ls"
          refine ⟨(by show 1 ≤ sizeLine; decide), fun l2 hl2 => ?_⟩
          refine ⟨p, l2, _, _, rfl, rfl, same_new hl2 _ _ hp9, upd_same, (by show 7 + 1 ≤ sizeLine; decide), fun p3 hp3 => ?_⟩
          exact q _ p3 _ upd_same (by rw [e0]; exact (t9.keep (.new hl2)).keep (.new hp3)) ((s9.trans (same_new hl2)).trans (same_new hp3))
abbrev s_law : Stmt := topS 64
theorem sc_law : FnScope ["_law_script", "_law_stream", "_law_turn", "_law_b", "_law_kind", "_law_three", "_law_k", "_law_kept", "_law_other", "_law_check", "_law_at"] ["_law_script"] (defScope s_law) := ⟨rfl, rfl, rfl, by decide +kernel, rfl, by decide +kernel, by decide +kernel⟩
abbrev N_law : List Str := ["_law_script", "_law_stream", "_law_turn", "_law_b", "_law_kind", "_law_three", "_law_k", "_law_kept", "_law_other", "_law_check", "_law_at"]
def spLaw (K : PySem.W.Frag) : Sp := fun vs H Q _ => ∃ (a : Addr) (ns : List Int), vs = [.ref a] ∧ SqL K H a (ns.map V.int) ∧ ns.length ≤ 63 ∧ ∀ H', Q (.bl true) H'
theorem ok_law {C : Addr} {f : Addr} {fd : FuncData} (F : Fun K "law" "law" s_law f fd) (T : Bt mg) (T2 : Bt2 mg) (O__law_rules : Own P w K mg base CX0 5 "_law_rules" ["_law_stream", "_law_many", "_law_most"] spRules) (O__law_pick : Own P w K mg base CX0 2 "_law_pick" ["_law_stream", "_law_things"] (spPick K))
    (O__law_made : Own P w K mg base CX0 7 "_law_made" ["_law_b"] (spMadeL C)) (O__law_due : Own P w K mg base CX0 2 "_law_due" ["_law_b", "_law_kind"] spDueK) (O_table : Own P w K mg base CX0 11 "table" ["book", "question"] (spTableK C))
    (O__law_same : OwnG P w K mg base CX0 1 "_law_same" ["_law_found", "_law_due_here"] (spSameN K)) : FnG P w K mg base CX0 12 f fd ["_law_script"] (spLaw K) := by
  refine fun_okG F sc_law (fun vs H Q E h => ?_) (fun cdv A' outer s H vs Q E hgd hr h => ?_)
  · obtain ⟨a, ns, rfl, _⟩ := h
    rfl
  · obtain ⟨a, ns, rfl, ha, hl, q⟩ := h
    have hu := hu_of hr
    refine ⟨_, (pss_cons (ps_set (i := 1) sc_law.nd rfl (Or.inl rfl) (pe_lst (pa_cons (pe_callTy (list_of K) (by rfl) T.m_list (by decide +kernel) (pa_cons (pv 0) pa_nil)) (pa_cons pe_int (pa_cons pe_int (pa_cons pe_int pa_nil))))))
      (pss_cons (ps_for PassesOwn.never rfl (pi_range1 rfl T.m_range (pa_cons pe_int pa_nil)) (pg_name (i := 2) sc_law.nd rfl (Or.inl rfl)) (pss_cons (ps_set (i := 3) sc_law.nd rfl (Or.inl rfl) (own_call O__law_rules hr (by first | decide | omega) (pa_cons (pv 1) (pa_cons pe_int (pa_cons pe_int pa_nil)))))
      (pss_cons (ps_set (i := 4) sc_law.nd rfl (Or.inl rfl) (pe_ix (ixT K) (own_call O__law_pick hr (by first | decide | omega) (pa_cons (pv 1) (pa_cons (pe_dget hu (pv 3) pe_str (fun _ _ => rfl)) pa_nil))) pe_int (fun _ _ => rfl)))
      (pss_cons (ps_set (i := 5) sc_law.nd rfl (Or.inr rfl) (pe_lst (pa_cons (pe_op op_add_str pe_str (pv 4)) (pa_cons pe_str (pa_cons pe_str pa_nil)))))
      (pss_one (ps_for PassesOwn.never rfl (pi_range1 rfl T.m_range (pa_cons pe_int pa_nil)) (pg_name (i := 6) sc_law.nd rfl (Or.inr rfl)) (pss_cons (ps_setLc (i := 7) (own := [("_law_check", 9)]) (g := gName 9) (by rfl) sc_law.nd rfl rfl (sw_true rfl rfl rfl (by decide +kernel)) (pi_list (pe_dget hu (pv 3) pe_str (fun _ _ => rfl))) (blkOk_by (own := [("_law_check", 9)]) (N := N_law) (sc := defScope s_law) (by decide +kernel)) (fun _ _ _ _ _ => (pg_name (i := 9) sc_law.nd rfl (Or.inl rfl) (Or.inr rfl))) (fun _ _ _ _ _ => (pts_one (pt_cmpR (notIn_seq K) (pv 9) (pv 5) (by rfl)))) (fun _ _ _ _ _ => (pv 9)))
      (pss_cons (ps_set (i := 8) sc_law.nd rfl (Or.inl rfl) (pe_disp (pps_cons pe_str (pe_dget hu (pv 3) pe_str (fun _ _ => rfl)) (pps_cons pe_str (pe_dget hu (pv 3) pe_str (fun _ _ => rfl)) pps_nil)) (by rfl) (by rfl) (fun z => by cases z) (by decide)))
      (pss_cons (ps_dput hu (pv 8) pe_str (pe_op op_cat (pv 7) (pe_lc (own := [("_law_at", 10), ("_law_check", 9)]) (g := gTup K 2 (gCons (gName 10) (gCons (gName 9) gNil))) (by rfl) sc_law.nd (pi_enum (by rfl) T2.m_enumerate (pa_cons (pv 5) pa_nil)) (blkOk_by (own := [("_law_at", 10), ("_law_check", 9)]) (N := N_law) (sc := defScope s_law) (by decide +kernel)) (fun _ _ _ _ _ => (pg_tup rfl (pgs_cons (pg_name (i := 10) sc_law.nd rfl (Or.inl rfl) (Or.inr rfl)) (pgs_cons (pg_name (i := 9) sc_law.nd rfl (Or.inl rfl) (Or.inr rfl)) pgs_nil)))) (fun _ _ _ _ _ => (pts_one (pt_cmpR op_eq (pe_op op_odd (pe_op op_shrN (pv 6) (pv 10)) pe_int) pe_int (nomark _)))) (fun _ _ _ _ _ => (pv 9)))) rfl)
      (pss_one (ps_if (pt_not (pt_val (own_callG O__law_same hgd hr (by first | decide | omega) (pa_cons (own_call O_table hr (by first | decide | omega) (pa_cons (own_call O__law_made hr (by first | decide | omega) (pa_cons (pv 8) pa_nil)) (pa_cons (pe_op op_add_str pe_str (pv 4)) pa_nil))) (pa_cons (own_call O__law_due hr (by first | decide | omega) (pa_cons (pv 8) (pa_cons (pv 4) pa_nil))) pa_nil))))) (pss_one (ps_ret pe_bl)) pss_nil)))))))))))
      (pss_one (ps_ret pe_bl)))), ?_⟩
    walk_at "ls"
    refine ⟨a, _, rfl, .inl ha, fun L hL => ⟨(by show 4 ≤ sizeLine; decide), fun S hS => ?_⟩⟩
    have nSL : S ≠ L := fun e => by rw [e, upd_same] at hS; cases hS
    refine at_heap (φ := fun H1 => Stm H1 S L 0) ⟨ns, 0, 0, 0, upd_same, (by rw [upd_ne nSL.symm]; exact upd_same), by decide, by decide, by decide, by decide, by decide⟩ ?_
    intro H1 st1
    refine ⟨2, rfl, by decide, by decide, ?_⟩
    refine for_it (walk_range (n := 2)) (fun i σ H2 => ∃ v2 v3 v4 v5 v6 v7 v8 : Option V, σ = [some (.ref a), some (.ref S), v2, v3, v4, v5, v6, v7, v8, none, none] ∧ Stm H2 S L (500 * i)) ⟨none, none, none, none, none, none, none, rfl, st1⟩ (fun _ _ _ _ _ => trivial) ?_ ?_
    · rintro i x σ Hz H2 hi ⟨v2, v3, v4, v5, v6, v7, v8, rfl, st2⟩ ⟨rfl, rfl⟩
      walk_at "ls"
      refine ⟨S, L, _, 3, 4, rfl, st2, by omega, by decide, by decide, by decide, by decide, fun H3 b B ck hB hBk hBc hbn hcks hs3 st3 od3 => ?_⟩
      have lck : ck.length ≤ 51 := Nat.le_trans hcks.length_le (menu_small hB)
      obtain ⟨ka, ca, ea, kx, cx, hb, hk, hkt, hc, hct, he, n1, n2, n3⟩ := hs3
      have lk := hkt.len
      rw [List.length_map] at lk
      walk_at "ls"
      refine ⟨b, _, rfl, dg_kinds hb, ?_⟩
      have nk0 := hB.nk
      refine ⟨S, L, ka, _, kx, rfl, st3, by omega, .inl (.inl hk), n1.1, n1.2, by omega, by omega, fun H4 v hv st4 od4 => ?_⟩
      have tk4 := TK.old st3 od4
      have nb : b ≠ S ∧ b ≠ L := by
        obtain ⟨ns', d, c, k, g1, g2, _⟩ := st3
        exact ⟨ne_of hb g1 (fun z => nomatch z), ne_of hb g2 (fun z => nomatch z)⟩
      replace hb := od4 _ _ nb.1 nb.2 hb
      replace hk := od4 _ _ n1.1 n1.2 hk
      replace hc := od4 _ _ n2.1 n2.2 hc
      replace he := od4 _ _ n3.1 n3.2 he
      replace hkt := hkt.keep tk4
      replace hct := hct.keep tk4
      clear tk4 od4 st3 od3
      obtain ⟨j0, hj0⟩ := List.getElem?_of_mem hv
      obtain ⟨zs, hzs, t, rfl, ht⟩ := TupsAt.get hkt hj0
      obtain ⟨⟨kd, op0⟩, hk0, rfl⟩ := map_get hzs
      have hkd : kd ∈ B.ks.map (·.1) := List.mem_map_of_mem (f := fun k : Str × Bool => k.1) (List.mem_of_getElem? hk0)
      have nkd : Nm kd := hB.nm _ (List.mem_append_left _ hkd)
      walk_at "ls"
      refine ⟨room_str (n := 6) (m := 8) (by decide +kernel) nkd.1.2.1 (by decide), ?_⟩
      refine ⟨(by show 3 ≤ sizeLine; decide), fun l3 hl3 => ?_⟩
      have n3l := st4.noneS hl3
      have sl := same_new (o := .lst [.str ("again " ++ kd), .str "lone", .str "fresh"]) hl3
      have st5 := st4.keep sl
      have h3 : (upd H4 l3 (.lst [.str ("again " ++ kd), .str "lone", .str "fresh"])) l3 = some (.lst ((["again " ++ kd, "lone", "fresh"] : List Str).map V.str)) := upd_same
      replace hb := sl _ _ hb
      replace hk := sl _ _ hk
      replace hc := sl _ _ hc
      replace he := sl _ _ he
      replace hkt := hkt.keep (.same sl)
      replace hct := hct.keep (.same sl)
      generalize upd H4 l3 (.lst [.str ("again " ++ kd), .str "lone", .str "fresh"]) = H5 at *
      clear sl st4 ht hl3
      walk_at "ls"
      refine ⟨by decide, by decide, ?_⟩
      have thm : ∀ z ∈ (["again " ++ kd, "lone", "fresh"] : List Str), z ∈ menu B := fun z hz => by
        unfold menu
        simp only [List.mem_cons, List.not_mem_nil, or_false] at hz
        obtain ⟨k1, hk1, hk2⟩ := List.mem_map.mp hkd
        rcases hz with rfl | rfl | rfl
        · refine List.mem_append_left _ (List.mem_append_right _ (List.mem_flatMap.mpr ⟨k1, hk1, ?_⟩))
          unfold withN kindW
          rw [← hk2]
          exact List.mem_map.mpr ⟨"again", .tail _ (.tail _ (.head _)), congrArg (· ++ k1.1) (show ("again" : Str) ++ " " = "again " by decide +kernel)⟩
        · exact List.mem_append_right _ (.head _)
        · exact List.mem_append_right _ (.tail _ (.head _))
      refine for_it (walk_range (n := 8)) (fun j σ H6 => ∃ v6 v7 v8 : Option V, σ = [some (.ref a), some (.ref S), some (.int (0 + (i : Nat))), some (.ref b), some (.str kd), some (.ref l3), v6, v7, v8, none, none] ∧ Same H5 H6) ⟨v6, v7, v8, rfl, Same.refl _⟩ (fun _ _ _ _ _ => trivial) ?_ ?_
      · clear v6 v7 v8
        rintro j y σ Hy H6 hj ⟨v6, v7, v8, rfl, s6⟩ ⟨rfl, rfl⟩
        walk_at "ls"
        refine ⟨b, _, rfl, dg_checks (s6 _ _ hb), ?_⟩
        have he6 := s6 _ _ he
        have h36 := s6 _ _ h3
        refine ⟨ea, rfl, ⟨_, .inl (.inl he6)⟩, fun D hD => ?_⟩
        have nD := (st5.keep s6).noneS hD
        have lz51 : ck.length < sizeLine := Nat.lt_of_le_of_lt lck (by decide)
        refine lc_rows (walk_list (xs := ck.map V.str)) (ck.map V.str) ck (fun z => if (!decide (z ∈ (["again " ++ kd, "lone", "fresh"] : List Str))) = true then some (V.str z) else none) (by rw [List.length_map]) (fun i H x H' hi hy => hy) (by rw [List.length_map]; exact lz51) (fun acc => .inl (.inl (same_new hD _ _ he6))) (fun m y z hm hy hz => ?_) ?_
        · rw [List.getElem?_map, hz] at hy
          cases hy
          rw [List.length_map] at hm
          refine ⟨rfl, ?_⟩
          walk_at "ls"
          refine ⟨_, _, rfl, .inl (.inl (.inl (same_new hD _ _ h36))), rfl, all_flat _, _, rfl, ?_⟩
          rw [show (if true = true then !inV (V.str z) ((["again " ++ kd, "lone", "fresh"] : List Str).map V.str) else inV (V.str z) ((["again " ++ kd, "lone", "fresh"] : List Str).map V.str)) = !inV (V.str z) ((["again " ++ kd, "lone", "fresh"] : List Str).map V.str) from rfl, in_strs]
          refine ite2 (fun e => ?_) (fun e => ?_)
          · walk_at "ls"
            exact lr_yes hz hm lz51 (if_pos e)
          · exact lr_no hz (if_neg e)
        rw [filterMap_if (fun z => !decide (z ∈ (["again " ++ kd, "lone", "fresh"] : List Str))) V.str]
        have sk := s6.trans (same_new (o := .lst ((ck.filter fun z => !decide (z ∈ (["again " ++ kd, "lone", "fresh"] : List Str))).map V.str)) hD)
        have hkp : (upd H6 D (.lst ((ck.filter fun z => !decide (z ∈ (["again " ++ kd, "lone", "fresh"] : List Str))).map V.str))) D = some (.lst ((ck.filter fun z => !decide (z ∈ (["again " ++ kd, "lone", "fresh"] : List Str))).map V.str)) := upd_same
        have kpm : ∀ z ∈ ck.filter (fun z => !decide (z ∈ (["again " ++ kd, "lone", "fresh"] : List Str))), z ∈ menu B := fun z hz => hcks.subset (List.mem_filter.mp hz).1
        have kpl : (ck.filter fun z => !decide (z ∈ (["again " ++ kd, "lone", "fresh"] : List Str))).length ≤ 51 := Nat.le_trans (List.length_filter_le _ _) lck
        generalize ck.filter (fun z => !decide (z ∈ (["again " ++ kd, "lone", "fresh"] : List Str))) = kp at *
        generalize upd H6 D (.lst (kp.map V.str)) = H7 at *
        clear s6 he6 h36 lz51
        walk_at "ls"
        intro d hd
        have nd := (st5.keep sk).noneS hd
        have sd : Same H7 (upd H7 d (.dK [])) := same_new hd
        walk_at "ls"
        refine ⟨b, _, rfl, dg_kinds (sd _ _ (sk _ _ hb)), ?_⟩
        walk_at "ls"
        refine ⟨b, _, rfl, dg_columns (sd _ _ (sk _ _ hb)), ?_⟩
        walk_at "ls"
        refine ⟨upd_same, [(.inr "kinds", .ref ka), (.inr "columns", .ref ca)], rfl, (by show 2 ≤ 15; decide), ?_⟩
        rw [upd_upd, merge_nd (show (([(.inr "kinds", V.ref ka), (.inr "columns", V.ref ca)] : List (Key × V)).map (·.1)).Nodup from (by decide +kernel : ([.inr "kinds", .inr "columns"] : List Key).Nodup))]
        have hdD : (upd H7 d (.dK [(.inr "kinds", .ref ka), (.inr "columns", .ref ca)])) d = some (.dK [(.inr "kinds", .ref ka), (.inr "columns", .ref ca)]) := upd_same
        have s8 := sk.trans (same_new (o := .dK [(.inr "kinds", .ref ka), (.inr "columns", .ref ca)]) hd)
        have hkp8 := same_new (o := .dK [(.inr "kinds", .ref ka), (.inr "columns", .ref ca)]) hd _ _ hkp
        have hd5 : H5 d = none := sk.free hd
        generalize upd H7 d (.dK [(.inr "kinds", .ref ka), (.inr "columns", .ref ca)]) = H8 at *
        clear sk sd hd hkp hD
        walk_at "ls"
        refine ⟨l3, _, rfl, .inl (.inl (s8 _ _ h3)), fun D2 hD2 => ?_⟩
        refine lc_it (walk_enum (xs := (["again " ++ kd, "lone", "fresh"] : List Str).map V.str)) (fun m H9 => ∃ zs : List Str, H9 D2 = some (.lst (zs.map V.str)) ∧ zs.length ≤ m ∧ (∀ z ∈ zs, z ∈ (["again " ++ kd, "lone", "fresh"] : List Str)) ∧ Same H8 H9) ⟨[], upd_same, Nat.zero_le _, (fun _ h => nomatch h), same_new hD2⟩ (fun m H9 _ ⟨_, _, _, _, s9⟩ => .inl (.inl ((s8.trans s9) _ _ h3))) ?_ ?_
        · rintro m y Hy H9 hm ⟨zs, h9, lz, hz, s9⟩ ⟨T0, ia, ib, rfl, hT, rfl, ha, hb⟩
          cases ha
          have hb : ((["again " ++ kd, "lone", "fresh"] : List Str).map V.str)[m]? = some ib := hb
          rw [List.getElem?_map] at hb
          obtain ⟨z, hzz, rfl⟩ := Option.map_eq_some_iff.mp hb
          have sT := same_new (o := .tup [.int (m : Nat), .str z]) hT
          have s10 := s9.trans sT
          have h10 := sT _ _ h9
          refine ⟨T0, _, rfl, .inl (.inl upd_same), rfl, _, _, rfl, _, _, rfl, rfl, rfl, ?_⟩
          generalize upd Hy T0 (.tup [.int (m : Nat), .str z]) = H10 at *
          have hm3 : m < 3 := hm
          walk_at "ls"
          refine ⟨rfl, ?_⟩
          walk_at "ls"
          refine ite2 (fun e => ?_) (fun e => ?_)
          · walk_at "ls"
            refine ⟨_, h10, small1000 (by rw [List.length_map]; omega), zs ++ [z], by rw [upd_same, List.map_append]; rfl, by rw [List.length_append]; show _ + 1 ≤ _; omega, all_snoc hz (List.mem_of_getElem? hzz), Same.set s10 hD2⟩
          · exact ⟨zs, h10, by omega, hz, s10⟩
        · rintro H9 ⟨zs, h9, lz, hz, s9⟩
          have lz3 : zs.length ≤ 3 := lz
          refine ⟨D, D2, _, _, rfl, rfl, s9 _ _ hkp8, h9, ?_, fun l4 hl4 => ?_⟩
          · rw [List.length_map, List.length_map]
            exact Nat.le_trans (show _ ≤ 60 by omega) (by decide)
          rw [← List.map_append]
          have s10 := s9.trans (same_new (o := .lst ((kp ++ zs).map V.str)) hl4)
          have st10 := st5.keep (s8.trans s10)
          have n4 : l4 ≠ S ∧ l4 ≠ L := (st5.keep (s8.trans s9)).noneS hl4
          have h4l : (upd H9 l4 (.lst ((kp ++ zs).map V.str))) l4 = some (.lst ((kp ++ zs).map V.str)) := upd_same
          have hdA := s10 _ _ hdD
          have sA := s8.trans s10
          generalize upd H9 l4 (.lst ((kp ++ zs).map V.str)) = HA at *
          have ckm : ∀ z ∈ kp ++ zs, z ∈ menu B := fun z hz2 => (List.mem_append.mp hz2).elim (kpm z) fun h => thm z (hz z h)
          have ckl : (kp ++ zs).length ≤ 60 := by rw [List.length_append]; omega
          generalize kp ++ zs = ck2 at *
          clear s10 s9 s8 hkp8 h9 kpm kpl hdD hz lz lz3 hl4 hD2
          walk_at "ls"
          refine ⟨d, _, rfl, DPut.k (k := .inr "checks") hdA (by show 2 < sizeLine; decide), ?_⟩
          rw [show putK [(.inr "kinds", V.ref ka), (.inr "columns", V.ref ca)] (.inr "checks" : Key) (V.ref l4) = [(.inr "kinds", V.ref ka), (.inr "columns", V.ref ca), (.inr "checks", V.ref l4)] by kernel_rfl]
          have tkp : TK HA (upd HA d (.dK [(.inr "kinds", .ref ka), (.inr "columns", .ref ca), (.inr "checks", .ref l4)])) := .dK hdA
          have lp : ∀ {a : Addr} {xs : List V}, HA a = some (.lst xs) → (upd HA d (.dK [(.inr "kinds", .ref ka), (.inr "columns", .ref ca), (.inr "checks", .ref l4)])) a = some (.lst xs) := fun {a xs} e => by
            rw [upd_ne (ne_of e hdA fun z => nomatch z)]
            exact e
          have hsD : ShpAt S L (upd HA d (.dK [(.inr "kinds", .ref ka), (.inr "columns", .ref ca), (.inr "checks", .ref l4)])) d B ck2 :=
            ⟨ka, ca, l4, kx, cx, upd_same, lp (sA _ _ hk), (hkt.keep (.same sA)).keep tkp, lp (sA _ _ hc), (hct.keep (.same sA)).keep tkp, lp h4l, n1, n2, n4⟩
          have sB : Same H5 (upd HA d (.dK [(.inr "kinds", .ref ka), (.inr "columns", .ref ca), (.inr "checks", .ref l4)])) := Same.set sA hd5
          generalize upd HA d (.dK [(.inr "kinds", .ref ka), (.inr "columns", .ref ca), (.inr "checks", .ref l4)]) = HB at *
          clear tkp lp sA h4l hdA st10
          walk_at "ls"
          refine ⟨S, L, d, B, ck2, rfl, hsD, hB, ckm, by omega, fun HC o hbo sC => ?_⟩
          walk_at "ls"
          refine ⟨room_str (n := 6) (m := 8) (by decide +kernel) nkd.1.2.1 (by decide), ?_⟩
          refine ⟨o, B, _, kd, rfl, hbo, hB, hkd, fun HD pf fx hpf tf sD => ?_⟩
          walk_at "ls"
          refine ⟨S, L, d, B, ck2, kd, rfl, (hsD.same sC).same sD, hB, hkd, by omega, fun HE pd dx hpd td sE => ?_⟩
          have ek : kDue (kfl B ((menu B).filter fun z => decide (z ∈ ck2)) kd) = kDue (kfl B ck2 kd) := by
            have hm : ∀ z ∈ menu B, decide (z ∈ (menu B).filter fun z => decide (z ∈ ck2)) = decide (z ∈ ck2) := fun z hz => decide_eq_decide.mpr (by rw [List.mem_filter, decide_eq_true_eq]; exact ⟨fun h => h.2, fun h => ⟨hz, h⟩⟩)
            exact kDue_fl rfl (hm _ (thm _ (.tail _ (.head _)))) (hm _ (thm _ (.tail _ (.tail _ (.head _)))))
          rw [ek] at tf
          have ok := ss_ok (kfl B ck2 kd)
          refine ⟨.inl ⟨pf, pd, _, rfl, .inl ⟨.lst (.inl (.inl (sE _ _ hpf))) (ss_dps (tf.keep (.same sE))), ok.nd⟩, .inl ⟨.lst (.inl (.inl hpd)) (ss_dps td), ok.nd⟩, ok.fits (by decide) (by decide)⟩, ?_⟩
          refine ⟨true, rfl, iteF ?_⟩
          exact ⟨_, _, _, rfl, ((sB.trans sC).trans sD).trans sE⟩
      · rintro σ H6 ⟨v6, v7, v8, rfl, s6⟩
        walk_at "ls"
        exact ⟨_, _, _, _, _, _, _, rfl, (st5.keep s6).mono (by omega)⟩
    · rintro σ H2 ⟨v2, v3, v4, v5, v6, v7, v8, rfl, st2⟩
      walk_at "ls"
      exact q _
end
end Ls
namespace Ls
open PySem PySem.Spec PyProof.Rows L2 NdefX
/-! ### the texts of the own errors -/
abbrev s_BadName_init : Stmt := inClass (topS 3) 0
theorem tx_BadName : ErrTx s_BadName_init "BadName.__init__" [("name" : Str)] where
  nsc := nscope_by (by decide +kernel)
  hsup := rfl
  par := ⟨_, rfl, rfl⟩
  body := ⟨_, _, _, _, _, _, _, _, _, rfl, ⟨⟨⟨_, _, _, _, rfl⟩, by decide, by decide⟩, trivial⟩, fun f cc cda L => ⟨_, rfl⟩⟩
  bind := fun cc cda doc pm ct us hl => match us, hl with | [_, _], _ => rfl
abbrev s_NameInUse_init : Stmt := inClass (topS 4) 0
theorem tx_NameInUse : ErrTx s_NameInUse_init "NameInUse.__init__" [("name" : Str)] where
  nsc := nscope_by (by decide +kernel)
  hsup := rfl
  par := ⟨_, rfl, rfl⟩
  body := ⟨_, _, _, _, _, _, _, _, _, rfl, ⟨⟨⟨_, _, _, _, rfl⟩, by decide, by decide⟩, trivial⟩, fun f cc cda L => ⟨_, rfl⟩⟩
  bind := fun cc cda doc pm ct us hl => match us, hl with | [_, _], _ => rfl
abbrev s_UnknownKind_init : Stmt := inClass (topS 5) 0
theorem tx_UnknownKind : ErrTx s_UnknownKind_init "UnknownKind.__init__" [("kind" : Str)] where
  nsc := nscope_by (by decide +kernel)
  hsup := rfl
  par := ⟨_, rfl, rfl⟩
  body := ⟨_, _, _, _, _, _, _, _, _, rfl, ⟨⟨⟨_, _, _, _, rfl⟩, by decide, by decide⟩, trivial⟩, fun f cc cda L => ⟨_, rfl⟩⟩
  bind := fun cc cda doc pm ct us hl => match us, hl with | [_, _], _ => rfl
abbrev s_BadRule_init : Stmt := inClass (topS 6) 0
theorem tx_BadRule : ErrTx s_BadRule_init "BadRule.__init__" [("rule" : Str)] where
  nsc := nscope_by (by decide +kernel)
  hsup := rfl
  par := ⟨_, rfl, rfl⟩
  body := ⟨_, _, _, _, _, _, _, _, _, rfl, ⟨⟨⟨_, _, _, _, rfl⟩, by decide, by decide⟩, trivial⟩, fun f cc cda L => ⟨_, rfl⟩⟩
  bind := fun cc cda doc pm ct us hl => match us, hl with | [_, _], _ => rfl
abbrev s_UnknownCheck_init : Stmt := inClass (topS 7) 0
theorem tx_UnknownCheck : ErrTx s_UnknownCheck_init "UnknownCheck.__init__" [("check" : Str)] where
  nsc := nscope_by (by decide +kernel)
  hsup := rfl
  par := ⟨_, rfl, rfl⟩
  body := ⟨_, _, _, _, _, _, _, _, _, rfl, ⟨⟨⟨_, _, _, _, rfl⟩, by decide, by decide⟩, trivial⟩, fun f cc cda L => ⟨_, rfl⟩⟩
  bind := fun cc cda doc pm ct us hl => match us, hl with | [_, _], _ => rfl
abbrev s_UnlikeBooks_init : Stmt := inClass (topS 8) 0
theorem tx_UnlikeBooks : ErrTx s_UnlikeBooks_init "UnlikeBooks.__init__" [] where
  nsc := nscope_by (by decide +kernel)
  hsup := rfl
  par := ⟨_, rfl, rfl⟩
  body := ⟨_, _, _, _, _, _, _, _, _, rfl, trivial, fun f cc cda L => ⟨_, rfl⟩⟩
  bind := fun cc cda doc pm ct us hl => match us, hl with | [_], _ => rfl
abbrev s_BadQuestion_init : Stmt := inClass (topS 9) 0
theorem tx_BadQuestion : ErrTx s_BadQuestion_init "BadQuestion.__init__" [("question" : Str)] where
  nsc := nscope_by (by decide +kernel)
  hsup := rfl
  par := ⟨_, rfl, rfl⟩
  body := ⟨_, _, _, _, _, _, _, _, _, rfl, ⟨⟨⟨_, _, _, _, rfl⟩, by decide, by decide⟩, trivial⟩, fun f cc cda L => ⟨_, rfl⟩⟩
  bind := fun cc cda doc pm ct us hl => match us, hl with | [_, _], _ => rfl
end Ls
namespace Ls
open PySem PySem.Spec PyProof.Rows L2
/-- classes apart, as one test -/
def exmB (K : PySem.W.Frag) (l : List Addr) : Bool := (l.all fun a => l.all fun b => decide (PySem.W.exmOne K (.ref a) (.ref b) = some (decide (a = b)))) && decide l.Nodup
theorem exmB_ok {K : PySem.W.Frag} {l : List Addr} (h : exmB K l = true) : (∀ a ∈ l, ∀ b ∈ l, PySem.W.exmOne K (.ref a) (.ref b) = some (decide (a = b))) ∧ l.Nodup := by
  unfold exmB at h
  obtain ⟨h1, h2⟩ := Bool.and_eq_true_iff.mp h
  exact ⟨fun a ha b hb => of_decide_eq_true (List.all_eq_true.mp (List.all_eq_true.mp h1 a ha) b hb), of_decide_eq_true h2⟩
theorem exm_self {K : PySem.W.Frag} {a : Addr} {l : List Addr} (h : exmB K l = true) (m : a ∈ l) : PySem.W.exmOne K (.ref a) (.ref a) = some true := by
  have := (exmB_ok h).1 a m a m
  rw [decide_eq_true rfl] at this
  exact this
end Ls
namespace Ls
open PySem PySem.Spec PyProof.Rows L2 NdefX
/-! ### what the top has written -/
set_option maxHeartbeats 16000000 in
theorem all_mk {l : PySem.W.OpenLaw} {w : World} {K : PySem.W.Frag} {h : Heap} {mg : Str → Option Value} {fa : Addr} (X : K.In h) (G : h.Ns mainGlobals mg) (hfa : mg "law" = some (.ref fa))
    {f0 : Addr} {oc0 kV0 dc0 pm0 cd0 ct0 : Value} {od0 an0 : Option Addr} {sl0 : Array (Option Value)}
    {f1 : Addr} {oc1 kV1 dc1 pm1 cd1 ct1 : Value} {od1 an1 : Option Addr} {sl1 : Array (Option Value)}
    {f2 : Addr} {oc2 kV2 dc2 pm2 cd2 ct2 : Value} {od2 an2 : Option Addr} {sl2 : Array (Option Value)}
    {f3 : Addr} {oc3 kV3 dc3 pm3 cd3 ct3 : Value} {od3 an3 : Option Addr} {sl3 : Array (Option Value)}
    {f4 : Addr} {oc4 kV4 dc4 pm4 cd4 ct4 : Value} {od4 an4 : Option Addr} {sl4 : Array (Option Value)}
    {f5 : Addr} {oc5 kV5 dc5 pm5 cd5 ct5 : Value} {od5 an5 : Option Addr} {sl5 : Array (Option Value)}
    {f6 : Addr} {oc6 kV6 dc6 pm6 cd6 ct6 : Value} {od6 an6 : Option Addr} {sl6 : Array (Option Value)}
    {f7 : Addr} {oc7 kV7 dc7 pm7 cd7 ct7 : Value} {od7 an7 : Option Addr} {sl7 : Array (Option Value)}
    {f8 : Addr} {oc8 kV8 dc8 pm8 cd8 ct8 : Value} {od8 an8 : Option Addr} {sl8 : Array (Option Value)}
    {f9 : Addr} {oc9 kV9 dc9 pm9 cd9 ct9 : Value} {od9 an9 : Option Addr} {sl9 : Array (Option Value)}
    {f10 : Addr} {oc10 kV10 dc10 pm10 cd10 ct10 : Value} {od10 an10 : Option Addr} {sl10 : Array (Option Value)}
    {f11 : Addr} {oc11 kV11 dc11 pm11 cd11 ct11 : Value} {od11 an11 : Option Addr} {sl11 : Array (Option Value)}
    {f12 : Addr} {oc12 kV12 dc12 pm12 cd12 ct12 : Value} {od12 an12 : Option Addr} {sl12 : Array (Option Value)}
    {f13 : Addr} {oc13 kV13 dc13 pm13 cd13 ct13 : Value} {od13 an13 : Option Addr} {sl13 : Array (Option Value)}
    {f14 : Addr} {oc14 kV14 dc14 pm14 cd14 ct14 : Value} {od14 an14 : Option Addr} {sl14 : Array (Option Value)}
    {f15 : Addr} {oc15 kV15 dc15 pm15 cd15 ct15 : Value} {od15 an15 : Option Addr} {sl15 : Array (Option Value)}
    {f16 : Addr} {oc16 kV16 dc16 pm16 cd16 ct16 : Value} {od16 an16 : Option Addr} {sl16 : Array (Option Value)}
    {f17 : Addr} {oc17 kV17 dc17 pm17 cd17 ct17 : Value} {od17 an17 : Option Addr} {sl17 : Array (Option Value)}
    {f18 : Addr} {oc18 kV18 dc18 pm18 cd18 ct18 : Value} {od18 an18 : Option Addr} {sl18 : Array (Option Value)}
    {f19 : Addr} {oc19 kV19 dc19 pm19 cd19 ct19 : Value} {od19 an19 : Option Addr} {sl19 : Array (Option Value)}
    {f20 : Addr} {oc20 kV20 dc20 pm20 cd20 ct20 : Value} {od20 an20 : Option Addr} {sl20 : Array (Option Value)}
    {f21 : Addr} {oc21 kV21 dc21 pm21 cd21 ct21 : Value} {od21 an21 : Option Addr} {sl21 : Array (Option Value)}
    {f22 : Addr} {oc22 kV22 dc22 pm22 cd22 ct22 : Value} {od22 an22 : Option Addr} {sl22 : Array (Option Value)}
    {f23 : Addr} {oc23 kV23 dc23 pm23 cd23 ct23 : Value} {od23 an23 : Option Addr} {sl23 : Array (Option Value)}
    {f24 : Addr} {oc24 kV24 dc24 pm24 cd24 ct24 : Value} {od24 an24 : Option Addr} {sl24 : Array (Option Value)}
    {f25 : Addr} {oc25 kV25 dc25 pm25 cd25 ct25 : Value} {od25 an25 : Option Addr} {sl25 : Array (Option Value)}
    {f26 : Addr} {oc26 kV26 dc26 pm26 cd26 ct26 : Value} {od26 an26 : Option Addr} {sl26 : Array (Option Value)}
    {f27 : Addr} {oc27 kV27 dc27 pm27 cd27 ct27 : Value} {od27 an27 : Option Addr} {sl27 : Array (Option Value)}
    {f28 : Addr} {oc28 kV28 dc28 pm28 cd28 ct28 : Value} {od28 an28 : Option Addr} {sl28 : Array (Option Value)}
    {C_Book : Addr}
    {C_KindWatch : Addr}
    {C_ColumnWatch : Addr}
    {f29 : Addr} {oc29 kV29 dc29 pm29 cd29 ct29 : Value} {od29 an29 : Option Addr} {sl29 : Array (Option Value)}
    {T29 : Addr} {nT29 : Nat} {dv29_0 dv29_1 : Value}
    {de29_0 : Addr}
    {de29_1 : Addr}
    {f30 : Addr} {oc30 kV30 dc30 pm30 cd30 ct30 : Value} {od30 an30 : Option Addr} {sl30 : Array (Option Value)}
    {f31 : Addr} {oc31 kV31 dc31 pm31 cd31 ct31 : Value} {od31 an31 : Option Addr} {sl31 : Array (Option Value)}
    {f32 : Addr} {oc32 kV32 dc32 pm32 cd32 ct32 : Value} {od32 an32 : Option Addr} {sl32 : Array (Option Value)}
    {f33 : Addr} {oc33 kV33 dc33 pm33 cd33 ct33 : Value} {od33 an33 : Option Addr} {sl33 : Array (Option Value)}
    {f34 : Addr} {oc34 kV34 dc34 pm34 cd34 ct34 : Value} {od34 an34 : Option Addr} {sl34 : Array (Option Value)}
    {f35 : Addr} {oc35 kV35 dc35 pm35 cd35 ct35 : Value} {od35 an35 : Option Addr} {sl35 : Array (Option Value)}
    {f36 : Addr} {oc36 kV36 dc36 pm36 cd36 ct36 : Value} {od36 an36 : Option Addr} {sl36 : Array (Option Value)}
    {f37 : Addr} {oc37 kV37 dc37 pm37 cd37 ct37 : Value} {od37 an37 : Option Addr} {sl37 : Array (Option Value)}
    {f38 : Addr} {oc38 kV38 dc38 pm38 cd38 ct38 : Value} {od38 an38 : Option Addr} {sl38 : Array (Option Value)}
    {f39 : Addr} {oc39 kV39 dc39 pm39 cd39 ct39 : Value} {od39 an39 : Option Addr} {sl39 : Array (Option Value)}
    {C_BadName fIBadName ccBadName cdaBadName : Addr} {ocBadName dcBadName pmBadName ctBadName : Value} {odBadName : Option Addr} {slBadName : Array (Option Value)}
    {C_NameInUse fINameInUse ccNameInUse cdaNameInUse : Addr} {ocNameInUse dcNameInUse pmNameInUse ctNameInUse : Value} {odNameInUse : Option Addr} {slNameInUse : Array (Option Value)}
    {C_UnknownKind fIUnknownKind ccUnknownKind cdaUnknownKind : Addr} {ocUnknownKind dcUnknownKind pmUnknownKind ctUnknownKind : Value} {odUnknownKind : Option Addr} {slUnknownKind : Array (Option Value)}
    {C_BadRule fIBadRule ccBadRule cdaBadRule : Addr} {ocBadRule dcBadRule pmBadRule ctBadRule : Value} {odBadRule : Option Addr} {slBadRule : Array (Option Value)}
    {C_UnknownCheck fIUnknownCheck ccUnknownCheck cdaUnknownCheck : Addr} {ocUnknownCheck dcUnknownCheck pmUnknownCheck ctUnknownCheck : Value} {odUnknownCheck : Option Addr} {slUnknownCheck : Array (Option Value)}
    {tk_STRIKE : Tok}
    {tk_LETTERS : Tok}
    {tk_LONGEST_NAME : Tok}
    {ad_RULES : Addr}
    {ad_COLUMN_CHECKS : Addr}
    {ad_KIND_CHECKS : Addr}
    {ad_BOOK_CHECKS : Addr}
    {ad_X_WORDS : Addr}
    {ad_OWNERS : Addr}
    {ad_Y_WORDS : Addr}
    {ad_Z_WORDS : Addr}
    (a0 : PySem.W.nsIn K mainGlobals "_law_draw" = some (some (.ref f0)))
    (l0 : K.lookup f0 = some ⟨oc0, od0, .func (PySem.W.fnOf "_law_draw" "_law_draw" (defArgs s__law_draw) (defBody s__law_draw) (defScope s__law_draw) .none kV0 dc0 pm0 an0 cd0 ct0), sl0⟩)
    (c0 : PySem.W.codeIn K cd0 "_law_draw" = true)
    (k0 : PySem.W.keepIn K (.ref f0) = true)
    (a1 : PySem.W.nsIn K mainGlobals "_law_pick" = some (some (.ref f1)))
    (l1 : K.lookup f1 = some ⟨oc1, od1, .func (PySem.W.fnOf "_law_pick" "_law_pick" (defArgs s__law_pick) (defBody s__law_pick) (defScope s__law_pick) .none kV1 dc1 pm1 an1 cd1 ct1), sl1⟩)
    (c1 : PySem.W.codeIn K cd1 "_law_pick" = true)
    (k1 : PySem.W.keepIn K (.ref f1) = true)
    (a2 : PySem.W.nsIn K mainGlobals "_law_same" = some (some (.ref f2)))
    (l2 : K.lookup f2 = some ⟨oc2, od2, .func (PySem.W.fnOf "_law_same" "_law_same" (defArgs s__law_same) (defBody s__law_same) (defScope s__law_same) .none kV2 dc2 pm2 an2 cd2 ct2), sl2⟩)
    (c2 : PySem.W.codeIn K cd2 "_law_same" = true)
    (k2 : PySem.W.keepIn K (.ref f2) = true)
    (a3 : PySem.W.nsIn K mainGlobals "_law_fresh" = some (some (.ref f3)))
    (l3 : K.lookup f3 = some ⟨oc3, od3, .func (PySem.W.fnOf "_law_fresh" "_law_fresh" (defArgs s__law_fresh) (defBody s__law_fresh) (defScope s__law_fresh) .none kV3 dc3 pm3 an3 cd3 ct3), sl3⟩)
    (c3 : PySem.W.codeIn K cd3 "_law_fresh" = true)
    (k3 : PySem.W.keepIn K (.ref f3) = true)
    (a4 : PySem.W.nsIn K mainGlobals "_law_names" = some (some (.ref f4)))
    (l4 : K.lookup f4 = some ⟨oc4, od4, .func (PySem.W.fnOf "_law_names" "_law_names" (defArgs s__law_names) (defBody s__law_names) (defScope s__law_names) .none kV4 dc4 pm4 an4 cd4 ct4), sl4⟩)
    (c4 : PySem.W.codeIn K cd4 "_law_names" = true)
    (k4 : PySem.W.keepIn K (.ref f4) = true)
    (a5 : PySem.W.nsIn K mainGlobals "_law_shape" = some (some (.ref f5)))
    (l5 : K.lookup f5 = some ⟨oc5, od5, .func (PySem.W.fnOf "_law_shape" "_law_shape" (defArgs s__law_shape) (defBody s__law_shape) (defScope s__law_shape) .none kV5 dc5 pm5 an5 cd5 ct5), sl5⟩)
    (c5 : PySem.W.codeIn K cd5 "_law_shape" = true)
    (k5 : PySem.W.keepIn K (.ref f5) = true)
    (a6 : PySem.W.nsIn K mainGlobals "_law_all_checks" = some (some (.ref f6)))
    (l6 : K.lookup f6 = some ⟨oc6, od6, .func (PySem.W.fnOf "_law_all_checks" "_law_all_checks" (defArgs s__law_all_checks) (defBody s__law_all_checks) (defScope s__law_all_checks) .none kV6 dc6 pm6 an6 cd6 ct6), sl6⟩)
    (c6 : PySem.W.codeIn K cd6 "_law_all_checks" = true)
    (k6 : PySem.W.keepIn K (.ref f6) = true)
    (a7 : PySem.W.nsIn K mainGlobals "_law_checked" = some (some (.ref f7)))
    (l7 : K.lookup f7 = some ⟨oc7, od7, .func (PySem.W.fnOf "_law_checked" "_law_checked" (defArgs s__law_checked) (defBody s__law_checked) (defScope s__law_checked) .none kV7 dc7 pm7 an7 cd7 ct7), sl7⟩)
    (c7 : PySem.W.codeIn K cd7 "_law_checked" = true)
    (k7 : PySem.W.keepIn K (.ref f7) = true)
    (a8 : PySem.W.nsIn K mainGlobals "_law_rules" = some (some (.ref f8)))
    (l8 : K.lookup f8 = some ⟨oc8, od8, .func (PySem.W.fnOf "_law_rules" "_law_rules" (defArgs s__law_rules) (defBody s__law_rules) (defScope s__law_rules) .none kV8 dc8 pm8 an8 cd8 ct8), sl8⟩)
    (c8 : PySem.W.codeIn K cd8 "_law_rules" = true)
    (k8 : PySem.W.keepIn K (.ref f8) = true)
    (a9 : PySem.W.nsIn K mainGlobals "_law_made" = some (some (.ref f9)))
    (l9 : K.lookup f9 = some ⟨oc9, od9, .func (PySem.W.fnOf "_law_made" "_law_made" (defArgs s__law_made) (defBody s__law_made) (defScope s__law_made) .none kV9 dc9 pm9 an9 cd9 ct9), sl9⟩)
    (c9 : PySem.W.codeIn K cd9 "_law_made" = true)
    (k9 : PySem.W.keepIn K (.ref f9) = true)
    (a10 : PySem.W.nsIn K mainGlobals "_law_markable" = some (some (.ref f10)))
    (l10 : K.lookup f10 = some ⟨oc10, od10, .func (PySem.W.fnOf "_law_markable" "_law_markable" (defArgs s__law_markable) (defBody s__law_markable) (defScope s__law_markable) .none kV10 dc10 pm10 an10 cd10 ct10), sl10⟩)
    (c10 : PySem.W.codeIn K cd10 "_law_markable" = true)
    (k10 : PySem.W.keepIn K (.ref f10) = true)
    (a11 : PySem.W.nsIn K mainGlobals "_law_due" = some (some (.ref f11)))
    (l11 : K.lookup f11 = some ⟨oc11, od11, .func (PySem.W.fnOf "_law_due" "_law_due" (defArgs s__law_due) (defBody s__law_due) (defScope s__law_due) .none kV11 dc11 pm11 an11 cd11 ct11), sl11⟩)
    (c11 : PySem.W.codeIn K cd11 "_law_due" = true)
    (k11 : PySem.W.keepIn K (.ref f11) = true)
    (a12 : PySem.W.nsIn K mainGlobals "law" = some (some (.ref f12)))
    (l12 : K.lookup f12 = some ⟨oc12, od12, .func (PySem.W.fnOf "law" "law" (defArgs s_law) (defBody s_law) (defScope s_law) .none kV12 dc12 pm12 an12 cd12 ct12), sl12⟩)
    (c12 : PySem.W.codeIn K cd12 "law" = true)
    (k12 : PySem.W.keepIn K (.ref f12) = true)
    (a13 : PySem.W.nsIn K mainGlobals "is_name" = some (some (.ref f13)))
    (l13 : K.lookup f13 = some ⟨oc13, od13, .func (PySem.W.fnOf "is_name" "is_name" (defArgs s_is_name) (defBody s_is_name) (defScope s_is_name) .none kV13 dc13 pm13 an13 cd13 ct13), sl13⟩)
    (c13 : PySem.W.codeIn K cd13 "is_name" = true)
    (k13 : PySem.W.keepIn K (.ref f13) = true)
    (a14 : PySem.W.nsIn K mainGlobals "is_word_of" = some (some (.ref f14)))
    (l14 : K.lookup f14 = some ⟨oc14, od14, .func (PySem.W.fnOf "is_word_of" "is_word_of" (defArgs s_is_word_of) (defBody s_is_word_of) (defScope s_is_word_of) .none kV14 dc14 pm14 an14 cd14 ct14), sl14⟩)
    (c14 : PySem.W.codeIn K cd14 "is_word_of" = true)
    (k14 : PySem.W.keepIn K (.ref f14) = true)
    (a15 : PySem.W.nsIn K mainGlobals "_want_free_name" = some (some (.ref f15)))
    (l15 : K.lookup f15 = some ⟨oc15, od15, .func (PySem.W.fnOf "_want_free_name" "_want_free_name" (defArgs s__want_free_name) (defBody s__want_free_name) (defScope s__want_free_name) .none kV15 dc15 pm15 an15 cd15 ct15), sl15⟩)
    (c15 : PySem.W.codeIn K cd15 "_want_free_name" = true)
    (k15 : PySem.W.keepIn K (.ref f15) = true)
    (a16 : PySem.W.nsIn K mainGlobals "_read_kinds" = some (some (.ref f16)))
    (l16 : K.lookup f16 = some ⟨oc16, od16, .func (PySem.W.fnOf "_read_kinds" "_read_kinds" (defArgs s__read_kinds) (defBody s__read_kinds) (defScope s__read_kinds) .none kV16 dc16 pm16 an16 cd16 ct16), sl16⟩)
    (c16 : PySem.W.codeIn K cd16 "_read_kinds" = true)
    (k16 : PySem.W.keepIn K (.ref f16) = true)
    (a17 : PySem.W.nsIn K mainGlobals "_read_columns" = some (some (.ref f17)))
    (l17 : K.lookup f17 = some ⟨oc17, od17, .func (PySem.W.fnOf "_read_columns" "_read_columns" (defArgs s__read_columns) (defBody s__read_columns) (defScope s__read_columns) .none kV17 dc17 pm17 an17 cd17 ct17), sl17⟩)
    (c17 : PySem.W.codeIn K cd17 "_read_columns" = true)
    (k17 : PySem.W.keepIn K (.ref f17) = true)
    (a18 : PySem.W.nsIn K mainGlobals "_menu_of" = some (some (.ref f18)))
    (l18 : K.lookup f18 = some ⟨oc18, od18, .func (PySem.W.fnOf "_menu_of" "_menu_of" (defArgs s__menu_of) (defBody s__menu_of) (defScope s__menu_of) .none kV18 dc18 pm18 an18 cd18 ct18), sl18⟩)
    (c18 : PySem.W.codeIn K cd18 "_menu_of" = true)
    (k18 : PySem.W.keepIn K (.ref f18) = true)
    (a19 : PySem.W.nsIn K mainGlobals "_read_checks" = some (some (.ref f19)))
    (l19 : K.lookup f19 = some ⟨oc19, od19, .func (PySem.W.fnOf "_read_checks" "_read_checks" (defArgs s__read_checks) (defBody s__read_checks) (defScope s__read_checks) .none kV19 dc19 pm19 an19 cd19 ct19), sl19⟩)
    (c19 : PySem.W.codeIn K cd19 "_read_checks" = true)
    (k19 : PySem.W.keepIn K (.ref f19) = true)
    (a20 : PySem.W.nsIn K mainGlobals "_lists_of" = some (some (.ref f20)))
    (l20 : K.lookup f20 = some ⟨oc20, od20, .func (PySem.W.fnOf "_lists_of" "_lists_of" (defArgs s__lists_of) (defBody s__lists_of) (defScope s__lists_of) .none kV20 dc20 pm20 an20 cd20 ct20), sl20⟩)
    (c20 : PySem.W.codeIn K cd20 "_lists_of" = true)
    (k20 : PySem.W.keepIn K (.ref f20) = true)
    (a21 : PySem.W.nsIn K mainGlobals "_checks_at" = some (some (.ref f21)))
    (l21 : K.lookup f21 = some ⟨oc21, od21, .func (PySem.W.fnOf "_checks_at" "_checks_at" (defArgs s__checks_at) (defBody s__checks_at) (defScope s__checks_at) .none kV21 dc21 pm21 an21 cd21 ct21), sl21⟩)
    (c21 : PySem.W.codeIn K cd21 "_checks_at" = true)
    (k21 : PySem.W.keepIn K (.ref f21) = true)
    (a22 : PySem.W.nsIn K mainGlobals "_has_room" = some (some (.ref f22)))
    (l22 : K.lookup f22 = some ⟨oc22, od22, .func (PySem.W.fnOf "_has_room" "_has_room" (defArgs s__has_room) (defBody s__has_room) (defScope s__has_room) .none kV22 dc22 pm22 an22 cd22 ct22), sl22⟩)
    (c22 : PySem.W.codeIn K cd22 "_has_room" = true)
    (k22 : PySem.W.keepIn K (.ref f22) = true)
    (a23 : PySem.W.nsIn K mainGlobals "_with_letter" = some (some (.ref f23)))
    (l23 : K.lookup f23 = some ⟨oc23, od23, .func (PySem.W.fnOf "_with_letter" "_with_letter" (defArgs s__with_letter) (defBody s__with_letter) (defScope s__with_letter) .none kV23 dc23 pm23 an23 cd23 ct23), sl23⟩)
    (c23 : PySem.W.codeIn K cd23 "_with_letter" = true)
    (k23 : PySem.W.keepIn K (.ref f23) = true)
    (a24 : PySem.W.nsIn K mainGlobals "_letters_taken" = some (some (.ref f24)))
    (l24 : K.lookup f24 = some ⟨oc24, od24, .func (PySem.W.fnOf "_letters_taken" "_letters_taken" (defArgs s__letters_taken) (defBody s__letters_taken) (defScope s__letters_taken) .none kV24 dc24 pm24 an24 cd24 ct24), sl24⟩)
    (c24 : PySem.W.codeIn K cd24 "_letters_taken" = true)
    (k24 : PySem.W.keepIn K (.ref f24) = true)
    (a25 : PySem.W.nsIn K mainGlobals "watch_of" = some (some (.ref f25)))
    (l25 : K.lookup f25 = some ⟨oc25, od25, .func (PySem.W.fnOf "watch_of" "watch_of" (defArgs s_watch_of) (defBody s_watch_of) (defScope s_watch_of) .none kV25 dc25 pm25 an25 cd25 ct25), sl25⟩)
    (c25 : PySem.W.codeIn K cd25 "watch_of" = true)
    (k25 : PySem.W.keepIn K (.ref f25) = true)
    (a26 : PySem.W.nsIn K mainGlobals "walk" = some (some (.ref f26)))
    (l26 : K.lookup f26 = some ⟨oc26, od26, .func (PySem.W.fnOf "walk" "walk" (defArgs s_walk) (defBody s_walk) (defScope s_walk) .none kV26 dc26 pm26 an26 cd26 ct26), sl26⟩)
    (c26 : PySem.W.codeIn K cd26 "walk" = true)
    (k26 : PySem.W.keepIn K (.ref f26) = true)
    (a27 : PySem.W.nsIn K mainGlobals "want_question" = some (some (.ref f27)))
    (l27 : K.lookup f27 = some ⟨oc27, od27, .func (PySem.W.fnOf "want_question" "want_question" (defArgs s_want_question) (defBody s_want_question) (defScope s_want_question) .none kV27 dc27 pm27 an27 cd27 ct27), sl27⟩)
    (c27 : PySem.W.codeIn K cd27 "want_question" = true)
    (k27 : PySem.W.keepIn K (.ref f27) = true)
    (a28 : PySem.W.nsIn K mainGlobals "table" = some (some (.ref f28)))
    (l28 : K.lookup f28 = some ⟨oc28, od28, .func (PySem.W.fnOf "table" "table" (defArgs s_table) (defBody s_table) (defScope s_table) .none kV28 dc28 pm28 an28 cd28 ct28), sl28⟩)
    (c28 : PySem.W.codeIn K cd28 "table" = true)
    (k28 : PySem.W.keepIn K (.ref f28) = true)
    (aC_Book : PySem.W.nsIn K mainGlobals "Book" = some (some (.ref C_Book)))
    (pg_Book : PySem.W.plainGet K C_Book Str.empty = true)
    (hd_Book : PySem.W.hasDictIn K C_Book = true)
    (po_Book : PySem.W.plainOver K C_Book = true)
    (sa_Book : PySem.W.findIn K (.ref C_Book) "__setattr__" = some (some (.builtin "object.__setattr__")))
    (mk_Book : PySem.W.makesIn K C_Book = true)
    (kc_Book : PySem.W.keepIn K (.ref C_Book) = true)
    (n_Book_kinds : PySem.W.findIn K (.ref C_Book) "_kinds" = some none)
    (n_Book_columns : PySem.W.findIn K (.ref C_Book) "_columns" = some none)
    (n_Book_menu : PySem.W.findIn K (.ref C_Book) "_menu" = some none)
    (n_Book_checks : PySem.W.findIn K (.ref C_Book) "_checks" = some none)
    (aC_KindWatch : PySem.W.nsIn K mainGlobals "KindWatch" = some (some (.ref C_KindWatch)))
    (pg_KindWatch : PySem.W.plainGet K C_KindWatch Str.empty = true)
    (hd_KindWatch : PySem.W.hasDictIn K C_KindWatch = true)
    (po_KindWatch : PySem.W.plainOver K C_KindWatch = true)
    (sa_KindWatch : PySem.W.findIn K (.ref C_KindWatch) "__setattr__" = some (some (.builtin "object.__setattr__")))
    (mk_KindWatch : PySem.W.makesIn K C_KindWatch = true)
    (kc_KindWatch : PySem.W.keepIn K (.ref C_KindWatch) = true)
    (n_KindWatchbegin : PySem.W.findIn K (.ref C_KindWatch) "begin" = some none)
    (n_KindWatchcolumn : PySem.W.findIn K (.ref C_KindWatch) "column" = some none)
    (n_KindWatchkinds_of_rows : PySem.W.findIn K (.ref C_KindWatch) "kinds_of_rows" = some none)
    (n_KindWatchhas : PySem.W.findIn K (.ref C_KindWatch) "has" = some none)
    (n_KindWatch_is_open : PySem.W.findIn K (.ref C_KindWatch) "_is_open" = some none)
    (n_KindWatch_is_markable : PySem.W.findIn K (.ref C_KindWatch) "_is_markable" = some none)
    (n_KindWatch_parts : PySem.W.findIn K (.ref C_KindWatch) "_parts" = some none)
    (aC_ColumnWatch : PySem.W.nsIn K mainGlobals "ColumnWatch" = some (some (.ref C_ColumnWatch)))
    (pg_ColumnWatch : PySem.W.plainGet K C_ColumnWatch Str.empty = true)
    (hd_ColumnWatch : PySem.W.hasDictIn K C_ColumnWatch = true)
    (po_ColumnWatch : PySem.W.plainOver K C_ColumnWatch = true)
    (sa_ColumnWatch : PySem.W.findIn K (.ref C_ColumnWatch) "__setattr__" = some (some (.builtin "object.__setattr__")))
    (mk_ColumnWatch : PySem.W.makesIn K C_ColumnWatch = true)
    (kc_ColumnWatch : PySem.W.keepIn K (.ref C_ColumnWatch) = true)
    (n_ColumnWatchbegin : PySem.W.findIn K (.ref C_ColumnWatch) "begin" = some none)
    (n_ColumnWatchcolumn : PySem.W.findIn K (.ref C_ColumnWatch) "column" = some none)
    (n_ColumnWatchkinds_of_rows : PySem.W.findIn K (.ref C_ColumnWatch) "kinds_of_rows" = some none)
    (n_ColumnWatchhas : PySem.W.findIn K (.ref C_ColumnWatch) "has" = some none)
    (n_ColumnWatch_piece : PySem.W.findIn K (.ref C_ColumnWatch) "_piece" = some none)
    (n_ColumnWatch_is_home_open : PySem.W.findIn K (.ref C_ColumnWatch) "_is_home_open" = some none)
    (n_ColumnWatch_is_goal_open : PySem.W.findIn K (.ref C_ColumnWatch) "_is_goal_open" = some none)
    (n_ColumnWatch_is_goal_markable : PySem.W.findIn K (.ref C_ColumnWatch) "_is_goal_markable" = some none)
    (n_ColumnWatch_has_other_way : PySem.W.findIn K (.ref C_ColumnWatch) "_has_other_way" = some none)
    (n_ColumnWatch_parts : PySem.W.findIn K (.ref C_ColumnWatch) "_parts" = some none)
    (a29 : PySem.W.findIn K (.ref C_Book) "__init__" = some (some (.ref f29)))
    (i29 : PySem.W.isFn K (.ref f29) = true)
    (l29 : K.lookup f29 = some ⟨oc29, od29, .func (PySem.W.fnOf "__init__" "Book.__init__" (defArgs s_Book_init) (defBody s_Book_init) (defScope s_Book_init) (.ref T29) kV29 dc29 pm29 an29 cd29 ct29), sl29⟩)
    (c29 : PySem.W.codeIn K cd29 "Book.__init__" = true)
    (k29 : PySem.W.keepIn K (.ref f29) = true)
    (lT29 : K.lookup T29 = some { cls := .type "tuple", dict := none, data := .seq #[dv29_0, dv29_1] nT29, slots := #[] })
    (ed29_0 : dv29_0 = .ref de29_0)
    (ed29_1 : dv29_1 = .ref de29_1)
    (a30 : PySem.W.findIn K (.ref C_Book) "kinds" = some (some (.ref f30)))
    (i30 : PySem.W.isFn K (.ref f30) = true)
    (l30 : K.lookup f30 = some ⟨oc30, od30, .func (PySem.W.fnOf "kinds" "Book.kinds" (defArgs s_Book_kinds) (defBody s_Book_kinds) (defScope s_Book_kinds) .none kV30 dc30 pm30 an30 cd30 ct30), sl30⟩)
    (c30 : PySem.W.codeIn K cd30 "Book.kinds" = true)
    (k30 : PySem.W.keepIn K (.ref f30) = true)
    (a31 : PySem.W.findIn K (.ref C_Book) "columns" = some (some (.ref f31)))
    (i31 : PySem.W.isFn K (.ref f31) = true)
    (l31 : K.lookup f31 = some ⟨oc31, od31, .func (PySem.W.fnOf "columns" "Book.columns" (defArgs s_Book_columns) (defBody s_Book_columns) (defScope s_Book_columns) .none kV31 dc31 pm31 an31 cd31 ct31), sl31⟩)
    (c31 : PySem.W.codeIn K cd31 "Book.columns" = true)
    (k31 : PySem.W.keepIn K (.ref f31) = true)
    (a32 : PySem.W.findIn K (.ref C_Book) "markable" = some (some (.ref f32)))
    (i32 : PySem.W.isFn K (.ref f32) = true)
    (l32 : K.lookup f32 = some ⟨oc32, od32, .func (PySem.W.fnOf "markable" "Book.markable" (defArgs s_Book_markable) (defBody s_Book_markable) (defScope s_Book_markable) .none kV32 dc32 pm32 an32 cd32 ct32), sl32⟩)
    (c32 : PySem.W.codeIn K cd32 "Book.markable" = true)
    (k32 : PySem.W.keepIn K (.ref f32) = true)
    (a33 : PySem.W.findIn K (.ref C_Book) "questions" = some (some (.ref f33)))
    (i33 : PySem.W.isFn K (.ref f33) = true)
    (l33 : K.lookup f33 = some ⟨oc33, od33, .func (PySem.W.fnOf "questions" "Book.questions" (defArgs s_Book_questions) (defBody s_Book_questions) (defScope s_Book_questions) .none kV33 dc33 pm33 an33 cd33 ct33), sl33⟩)
    (c33 : PySem.W.codeIn K cd33 "Book.questions" = true)
    (k33 : PySem.W.keepIn K (.ref f33) = true)
    (a34 : PySem.W.findIn K (.ref C_Book) "__contains__" = some (some (.ref f34)))
    (i34 : PySem.W.isFn K (.ref f34) = true)
    (l34 : K.lookup f34 = some ⟨oc34, od34, .func (PySem.W.fnOf "__contains__" "Book.__contains__" (defArgs s_Book_contains) (defBody s_Book_contains) (defScope s_Book_contains) .none kV34 dc34 pm34 an34 cd34 ct34), sl34⟩)
    (c34 : PySem.W.codeIn K cd34 "Book.__contains__" = true)
    (k34 : PySem.W.keepIn K (.ref f34) = true)
    (a35 : PySem.W.findIn K (.ref C_KindWatch) "__init__" = some (some (.ref f35)))
    (i35 : PySem.W.isFn K (.ref f35) = true)
    (l35 : K.lookup f35 = some ⟨oc35, od35, .func (PySem.W.fnOf "__init__" "KindWatch.__init__" (defArgs s_KindWatch_init) (defBody s_KindWatch_init) (defScope s_KindWatch_init) .none kV35 dc35 pm35 an35 cd35 ct35), sl35⟩)
    (c35 : PySem.W.codeIn K cd35 "KindWatch.__init__" = true)
    (k35 : PySem.W.keepIn K (.ref f35) = true)
    (a36 : PySem.W.findIn K (.ref C_KindWatch) "states" = some (some (.ref f36)))
    (i36 : PySem.W.isFn K (.ref f36) = true)
    (l36 : K.lookup f36 = some ⟨oc36, od36, .func (PySem.W.fnOf "states" "KindWatch.states" (defArgs s_KindWatch_states) (defBody s_KindWatch_states) (defScope s_KindWatch_states) .none kV36 dc36 pm36 an36 cd36 ct36), sl36⟩)
    (c36 : PySem.W.codeIn K cd36 "KindWatch.states" = true)
    (k36 : PySem.W.keepIn K (.ref f36) = true)
    (a37 : PySem.W.findIn K (.ref C_KindWatch) "is_fault" = some (some (.ref f37)))
    (i37 : PySem.W.isFn K (.ref f37) = true)
    (l37 : K.lookup f37 = some ⟨oc37, od37, .func (PySem.W.fnOf "is_fault" "KindWatch.is_fault" (defArgs s_KindWatch_is_fault) (defBody s_KindWatch_is_fault) (defScope s_KindWatch_is_fault) .none kV37 dc37 pm37 an37 cd37 ct37), sl37⟩)
    (c37 : PySem.W.codeIn K cd37 "KindWatch.is_fault" = true)
    (k37 : PySem.W.keepIn K (.ref f37) = true)
    (a38 : PySem.W.findIn K (.ref C_KindWatch) "steps" = some (some (.ref f38)))
    (i38 : PySem.W.isFn K (.ref f38) = true)
    (l38 : K.lookup f38 = some ⟨oc38, od38, .func (PySem.W.fnOf "steps" "KindWatch.steps" (defArgs s_KindWatch_steps) (defBody s_KindWatch_steps) (defScope s_KindWatch_steps) .none kV38 dc38 pm38 an38 cd38 ct38), sl38⟩)
    (c38 : PySem.W.codeIn K cd38 "KindWatch.steps" = true)
    (k38 : PySem.W.keepIn K (.ref f38) = true)
    (a39 : PySem.W.findIn K (.ref C_ColumnWatch) "__init__" = some (some (.ref f39)))
    (i39 : PySem.W.isFn K (.ref f39) = true)
    (l39 : K.lookup f39 = some ⟨oc39, od39, .func (PySem.W.fnOf "__init__" "ColumnWatch.__init__" (defArgs s_ColumnWatch_init) (defBody s_ColumnWatch_init) (defScope s_ColumnWatch_init) .none kV39 dc39 pm39 an39 cd39 ct39), sl39⟩)
    (c39 : PySem.W.codeIn K cd39 "ColumnWatch.__init__" = true)
    (k39 : PySem.W.keepIn K (.ref f39) = true)
    (aE_BadName : PySem.W.nsIn K mainGlobals "BadName" = some (some (.ref C_BadName)))
    (iE_BadName : PySem.W.findIn K (.ref C_BadName) "__init__" = some (some (.ref fIBadName)))
    (lE_BadName : K.lookup fIBadName = some ⟨ocBadName, odBadName, .func (PySem.W.fnX "__init__" "BadName.__init__" (defArgs s_BadName_init) (defBody s_BadName_init) (defScope s_BadName_init) [("__class__", ccBadName)] .none .none dcBadName pmBadName none (.ref cdaBadName) ctBadName), slBadName⟩)
    (cE_BadName : PySem.W.codeIn K (.ref cdaBadName) "BadName.__init__" = true)
    (bE_BadName : errB l.prog K C_BadName fIBadName ccBadName cdaBadName ["name"] = true)
    (aE_NameInUse : PySem.W.nsIn K mainGlobals "NameInUse" = some (some (.ref C_NameInUse)))
    (iE_NameInUse : PySem.W.findIn K (.ref C_NameInUse) "__init__" = some (some (.ref fINameInUse)))
    (lE_NameInUse : K.lookup fINameInUse = some ⟨ocNameInUse, odNameInUse, .func (PySem.W.fnX "__init__" "NameInUse.__init__" (defArgs s_NameInUse_init) (defBody s_NameInUse_init) (defScope s_NameInUse_init) [("__class__", ccNameInUse)] .none .none dcNameInUse pmNameInUse none (.ref cdaNameInUse) ctNameInUse), slNameInUse⟩)
    (cE_NameInUse : PySem.W.codeIn K (.ref cdaNameInUse) "NameInUse.__init__" = true)
    (bE_NameInUse : errB l.prog K C_NameInUse fINameInUse ccNameInUse cdaNameInUse ["name"] = true)
    (aE_UnknownKind : PySem.W.nsIn K mainGlobals "UnknownKind" = some (some (.ref C_UnknownKind)))
    (iE_UnknownKind : PySem.W.findIn K (.ref C_UnknownKind) "__init__" = some (some (.ref fIUnknownKind)))
    (lE_UnknownKind : K.lookup fIUnknownKind = some ⟨ocUnknownKind, odUnknownKind, .func (PySem.W.fnX "__init__" "UnknownKind.__init__" (defArgs s_UnknownKind_init) (defBody s_UnknownKind_init) (defScope s_UnknownKind_init) [("__class__", ccUnknownKind)] .none .none dcUnknownKind pmUnknownKind none (.ref cdaUnknownKind) ctUnknownKind), slUnknownKind⟩)
    (cE_UnknownKind : PySem.W.codeIn K (.ref cdaUnknownKind) "UnknownKind.__init__" = true)
    (bE_UnknownKind : errB l.prog K C_UnknownKind fIUnknownKind ccUnknownKind cdaUnknownKind ["kind"] = true)
    (aE_BadRule : PySem.W.nsIn K mainGlobals "BadRule" = some (some (.ref C_BadRule)))
    (iE_BadRule : PySem.W.findIn K (.ref C_BadRule) "__init__" = some (some (.ref fIBadRule)))
    (lE_BadRule : K.lookup fIBadRule = some ⟨ocBadRule, odBadRule, .func (PySem.W.fnX "__init__" "BadRule.__init__" (defArgs s_BadRule_init) (defBody s_BadRule_init) (defScope s_BadRule_init) [("__class__", ccBadRule)] .none .none dcBadRule pmBadRule none (.ref cdaBadRule) ctBadRule), slBadRule⟩)
    (cE_BadRule : PySem.W.codeIn K (.ref cdaBadRule) "BadRule.__init__" = true)
    (bE_BadRule : errB l.prog K C_BadRule fIBadRule ccBadRule cdaBadRule ["rule"] = true)
    (aE_UnknownCheck : PySem.W.nsIn K mainGlobals "UnknownCheck" = some (some (.ref C_UnknownCheck)))
    (iE_UnknownCheck : PySem.W.findIn K (.ref C_UnknownCheck) "__init__" = some (some (.ref fIUnknownCheck)))
    (lE_UnknownCheck : K.lookup fIUnknownCheck = some ⟨ocUnknownCheck, odUnknownCheck, .func (PySem.W.fnX "__init__" "UnknownCheck.__init__" (defArgs s_UnknownCheck_init) (defBody s_UnknownCheck_init) (defScope s_UnknownCheck_init) [("__class__", ccUnknownCheck)] .none .none dcUnknownCheck pmUnknownCheck none (.ref cdaUnknownCheck) ctUnknownCheck), slUnknownCheck⟩)
    (cE_UnknownCheck : PySem.W.codeIn K (.ref cdaUnknownCheck) "UnknownCheck.__init__" = true)
    (bE_UnknownCheck : errB l.prog K C_UnknownCheck fIUnknownCheck ccUnknownCheck cdaUnknownCheck ["check"] = true)
    (z_int : PySem.W.nsIn K mainGlobals "int" = some none)
    (z_len : PySem.W.nsIn K mainGlobals "len" = some none)
    (z_range : PySem.W.nsIn K mainGlobals "range" = some none)
    (z_list : PySem.W.nsIn K mainGlobals "list" = some none)
    (z_tuple : PySem.W.nsIn K mainGlobals "tuple" = some none)
    (z_dict : PySem.W.nsIn K mainGlobals "dict" = some none)
    (z_isinstance : PySem.W.nsIn K mainGlobals "isinstance" = some none)
    (z_all : PySem.W.nsIn K mainGlobals "all" = some none)
    (z_any : PySem.W.nsIn K mainGlobals "any" = some none)
    (z_repr : PySem.W.nsIn K mainGlobals "repr" = some none)
    (z_str : PySem.W.nsIn K mainGlobals "str" = some none)
    (z_enumerate : PySem.W.nsIn K mainGlobals "enumerate" = some none)
    (z_zip : PySem.W.nsIn K mainGlobals "zip" = some none)
    (g_STRIKE : PySem.W.nsIn K mainGlobals "STRIKE" = some (some (.str "strike" tk_STRIKE)))
    (g_LETTERS : PySem.W.nsIn K mainGlobals "LETTERS" = some (some (.str "abcdefghijklmnopqrstuvwxyz" tk_LETTERS)))
    (g_LONGEST_NAME : PySem.W.nsIn K mainGlobals "LONGEST_NAME" = some (some (.int 8 tk_LONGEST_NAME)))
    (g_RULES : PySem.W.nsIn K mainGlobals "RULES" = some (some (.ref ad_RULES)))
    (kt_RULES : KTup K ad_RULES ([.str "fall", .str "clear"] : List V))
    (g_COLUMN_CHECKS : PySem.W.nsIn K mainGlobals "COLUMN_CHECKS" = some (some (.ref ad_COLUMN_CHECKS)))
    (kt_COLUMN_CHECKS : KTup K ad_COLUMN_CHECKS ([.str "put", .str "turn", .str "keep", .str "hold", .str "again"] : List V))
    (g_KIND_CHECKS : PySem.W.nsIn K mainGlobals "KIND_CHECKS" = some (some (.ref ad_KIND_CHECKS)))
    (kt_KIND_CHECKS : KTup K ad_KIND_CHECKS ([.str "bare", .str "calm", .str "again"] : List V))
    (g_BOOK_CHECKS : PySem.W.nsIn K mainGlobals "BOOK_CHECKS" = some (some (.ref ad_BOOK_CHECKS)))
    (kt_BOOK_CHECKS : KTup K ad_BOOK_CHECKS ([.str "lone", .str "fresh"] : List V))
    (g_X_WORDS : PySem.W.nsIn K mainGlobals "X_WORDS" = some (some (.ref ad_X_WORDS)))
    (kt_X_WORDS : KTup K ad_X_WORDS ([.str "gone", .str "marked", .str "new", .str "other", .str "plain"] : List V))
    (g_OWNERS : PySem.W.nsIn K mainGlobals "OWNERS" = some (some (.ref ad_OWNERS)))
    (kt_OWNERS : KTup K ad_OWNERS ([.str "-", .str "y", .str "z"] : List V))
    (g_Y_WORDS : PySem.W.nsIn K mainGlobals "Y_WORDS" = some (some (.ref ad_Y_WORDS)))
    (kt_Y_WORDS : KTup K ad_Y_WORDS ([.str "gone", .str "marked", .str "new", .str "plain"] : List V))
    (g_Z_WORDS : PySem.W.nsIn K mainGlobals "Z_WORDS" = some (some (.ref ad_Z_WORDS)))
    (kt_Z_WORDS : KTup K ad_Z_WORDS ([.str "new", .str "plain"] : List V)) :
    ∃ fd : FuncData, (∀ (s : Shared) (v : Value), BindsTo s fd ⟨[v], []⟩ [("_law_script", v)]) ∧ ∀ base : Heap, K.In base → base.Ns mainGlobals mg → FnG l.prog w K mg base CX0 12 fa fd ["_law_script"] (spLaw K) := by
  have e := hfa.symm.trans (PySem.W.mg_of X G a12)
  cases e
  have F0 := fun_mk (st := s__law_draw) l0 c0 k0
  have b0 := F0.binds (ps := ["_law_stream", "_law_many"]) fun _ _ _ _ _ _ us hl => match us, hl with | [_, _], _ => rfl
  have F1 := fun_mk (st := s__law_pick) l1 c1 k1
  have b1 := F1.binds (ps := ["_law_stream", "_law_things"]) fun _ _ _ _ _ _ us hl => match us, hl with | [_, _], _ => rfl
  have F2 := fun_mk (st := s__law_same) l2 c2 k2
  have b2 := F2.binds (ps := ["_law_found", "_law_due_here"]) fun _ _ _ _ _ _ us hl => match us, hl with | [_, _], _ => rfl
  have F3 := fun_mk (st := s__law_fresh) l3 c3 k3
  have b3 := F3.binds (ps := ["_law_stream", "_law_taken"]) fun _ _ _ _ _ _ us hl => match us, hl with | [_, _], _ => rfl
  have F4 := fun_mk (st := s__law_names) l4 c4 k4
  have b4 := F4.binds (ps := ["_law_stream", "_law_many"]) fun _ _ _ _ _ _ us hl => match us, hl with | [_, _], _ => rfl
  have F5 := fun_mk (st := s__law_shape) l5 c5 k5
  have b5 := F5.binds (ps := ["_law_stream", "_law_many", "_law_most"]) fun _ _ _ _ _ _ us hl => match us, hl with | [_, _, _], _ => rfl
  have F6 := fun_mk (st := s__law_all_checks) l6 c6 k6
  have b6 := F6.binds (ps := ["_law_b"]) fun _ _ _ _ _ _ us hl => match us, hl with | [_], _ => rfl
  have F7 := fun_mk (st := s__law_checked) l7 c7 k7
  have b7 := F7.binds (ps := ["_law_stream", "_law_b"]) fun _ _ _ _ _ _ us hl => match us, hl with | [_, _], _ => rfl
  have F8 := fun_mk (st := s__law_rules) l8 c8 k8
  have b8 := F8.binds (ps := ["_law_stream", "_law_many", "_law_most"]) fun _ _ _ _ _ _ us hl => match us, hl with | [_, _, _], _ => rfl
  have F9 := fun_mk (st := s__law_made) l9 c9 k9
  have b9 := F9.binds (ps := ["_law_b"]) fun _ _ _ _ _ _ us hl => match us, hl with | [_], _ => rfl
  have F10 := fun_mk (st := s__law_markable) l10 c10 k10
  have b10 := F10.binds (ps := ["_law_b"]) fun _ _ _ _ _ _ us hl => match us, hl with | [_], _ => rfl
  have F11 := fun_mk (st := s__law_due) l11 c11 k11
  have b11 := F11.binds (ps := ["_law_b", "_law_kind"]) fun _ _ _ _ _ _ us hl => match us, hl with | [_, _], _ => rfl
  have F12 := fun_mk (st := s_law) l12 c12 k12
  have b12 := F12.binds (ps := ["_law_script"]) fun _ _ _ _ _ _ us hl => match us, hl with | [_], _ => rfl
  have F13 := fun_mk (st := s_is_name) l13 c13 k13
  have b13 := F13.binds (ps := ["thing"]) fun _ _ _ _ _ _ us hl => match us, hl with | [_], _ => rfl
  have F14 := fun_mk (st := s_is_word_of) l14 c14 k14
  have b14 := F14.binds (ps := ["thing", "words"]) fun _ _ _ _ _ _ us hl => match us, hl with | [_, _], _ => rfl
  have F15 := fun_mk (st := s__want_free_name) l15 c15 k15
  have b15 := F15.binds (ps := ["name", "taken"]) fun _ _ _ _ _ _ us hl => match us, hl with | [_, _], _ => rfl
  have F16 := fun_mk (st := s__read_kinds) l16 c16 k16
  have b16 := F16.binds (ps := ["kinds"]) fun _ _ _ _ _ _ us hl => match us, hl with | [_], _ => rfl
  have F17 := fun_mk (st := s__read_columns) l17 c17 k17
  have b17 := F17.binds (ps := ["columns", "kinds"]) fun _ _ _ _ _ _ us hl => match us, hl with | [_, _], _ => rfl
  have F18 := fun_mk (st := s__menu_of) l18 c18 k18
  have b18 := F18.binds (ps := ["kinds", "columns"]) fun _ _ _ _ _ _ us hl => match us, hl with | [_, _], _ => rfl
  have F19 := fun_mk (st := s__read_checks) l19 c19 k19
  have b19 := F19.binds (ps := ["checks", "menu"]) fun _ _ _ _ _ _ us hl => match us, hl with | [_, _], _ => rfl
  have F20 := fun_mk (st := s__lists_of) l20 c20 k20
  have b20 := F20.binds (ps := ["letters"]) fun _ _ _ _ _ _ us hl => match us, hl with | [_], _ => rfl
  have F21 := fun_mk (st := s__checks_at) l21 c21 k21
  have b21 := F21.binds (ps := ["book", "column", "home", "goal"]) fun _ _ _ _ _ _ us hl => match us, hl with | [_, _, _, _], _ => rfl
  have F22 := fun_mk (st := s__has_room) l22 c22 k22
  have b22 := F22.binds (ps := ["lists", "is_lone"]) fun _ _ _ _ _ _ us hl => match us, hl with | [_, _], _ => rfl
  have F23 := fun_mk (st := s__with_letter) l23 c23 k23
  have b23 := F23.binds (ps := ["lists", "letter"]) fun _ _ _ _ _ _ us hl => match us, hl with | [_, _], _ => rfl
  have F24 := fun_mk (st := s__letters_taken) l24 c24 k24
  have b24 := F24.binds (ps := ["lists"]) fun _ _ _ _ _ _ us hl => match us, hl with | [_], _ => rfl
  have F25 := fun_mk (st := s_watch_of) l25 c25 k25
  have b25 := F25.binds (ps := ["book", "question"]) fun _ _ _ _ _ _ us hl => match us, hl with | [_, _], _ => rfl
  have F26 := fun_mk (st := s_walk) l26 c26 k26
  have b26 := F26.binds (ps := ["watch", "word"]) fun _ _ _ _ _ _ us hl => match us, hl with | [_, _], _ => rfl
  have F27 := fun_mk (st := s_want_question) l27 c27 k27
  have b27 := F27.binds (ps := ["book", "question"]) fun _ _ _ _ _ _ us hl => match us, hl with | [_, _], _ => rfl
  have F28 := fun_mk (st := s_table) l28 c28 k28
  have b28 := F28.binds (ps := ["book", "question"]) fun _ _ _ _ _ _ us hl => match us, hl with | [_, _], _ => rfl
  subst ed29_0 ed29_1
  have FE29 := FunE.mk2 (st := s_Book_init) l29 c29
  have FD29 : FunD K "__init__" "Book.__init__" (defArgs s_Book_init) (defBody s_Book_init) (defScope s_Book_init) [V.ref de29_0, V.ref de29_1] [] f29 (PySem.W.fnOf "__init__" "Book.__init__" (defArgs s_Book_init) (defBody s_Book_init) (defScope s_Book_init) (.ref T29) kV29 dc29 pm29 an29 cd29 ct29) := ⟨⟨_, _, _, _, _, _, _, _, _, _, rfl, l29, c29, .inr ⟨by simp, T29, _, _, nT29, rfl, lT29, rfl, (.cons rfl (.cons rfl .nil))⟩, .inl rfl⟩, k29⟩
  have b29 : Binds K (PySem.W.fnOf "__init__" "Book.__init__" (defArgs s_Book_init) (defBody s_Book_init) (defScope s_Book_init) (.ref T29) kV29 dc29 pm29 an29 cd29 ct29) ["self", "kinds", "columns", "checks"] [] := by
    obtain ⟨ds, r, b⟩ := FD29.binds1 (ps := ["self", "kinds", "columns", "checks"]) 4 2 (by simp) rfl fun _ _ _ _ _ _ _ us its hl hl2 => match us, its, hl, hl2 with | [_, _, _, _], [_, _], _, _ => ⟨_, rfl, rfl⟩
    have e : ds = [] := by cases r; rfl
    rw [e] at b
    exact b
  have F30 := fun_mk (st := s_Book_kinds) l30 c30 k30
  have b30 := F30.binds (ps := ["self"]) fun _ _ _ _ _ _ us hl => match us, hl with | [_], _ => rfl
  have F31 := fun_mk (st := s_Book_columns) l31 c31 k31
  have b31 := F31.binds (ps := ["self"]) fun _ _ _ _ _ _ us hl => match us, hl with | [_], _ => rfl
  have F32 := fun_mk (st := s_Book_markable) l32 c32 k32
  have b32 := F32.binds (ps := ["self"]) fun _ _ _ _ _ _ us hl => match us, hl with | [_], _ => rfl
  have F33 := fun_mk (st := s_Book_questions) l33 c33 k33
  have b33 := F33.binds (ps := ["self"]) fun _ _ _ _ _ _ us hl => match us, hl with | [_], _ => rfl
  have F34 := fun_mk (st := s_Book_contains) l34 c34 k34
  have b34 := F34.binds (ps := ["self", "check"]) fun _ _ _ _ _ _ us hl => match us, hl with | [_, _], _ => rfl
  have F35 := fun_mk (st := s_KindWatch_init) l35 c35 k35
  have b35 := F35.binds (ps := ["self", "book", "kind"]) fun _ _ _ _ _ _ us hl => match us, hl with | [_, _, _], _ => rfl
  have F36 := fun_mk (st := s_KindWatch_states) l36 c36 k36
  have b36 := F36.binds (ps := ["self"]) fun _ _ _ _ _ _ us hl => match us, hl with | [_], _ => rfl
  have F37 := fun_mk (st := s_KindWatch_is_fault) l37 c37 k37
  have b37 := F37.binds (ps := ["self", "state", "word"]) fun _ _ _ _ _ _ us hl => match us, hl with | [_, _, _], _ => rfl
  have F38 := fun_mk (st := s_KindWatch_steps) l38 c38 k38
  have b38 := F38.binds (ps := ["self", "state"]) fun _ _ _ _ _ _ us hl => match us, hl with | [_, _], _ => rfl
  have F39 := fun_mk (st := s_ColumnWatch_init) l39 c39 k39
  have b39 := F39.binds (ps := ["self", "book", "column"]) fun _ _ _ _ _ _ us hl => match us, hl with | [_, _, _], _ => rfl
  have TT : Bt mg := ⟨PySem.W.mg_none_of X G z_int, PySem.W.mg_none_of X G z_len, PySem.W.mg_none_of X G z_range, PySem.W.mg_none_of X G z_list, PySem.W.mg_none_of X G z_tuple, PySem.W.mg_none_of X G z_dict, PySem.W.mg_none_of X G z_isinstance, PySem.W.mg_none_of X G z_all, PySem.W.mg_none_of X G z_any, PySem.W.mg_none_of X G z_repr, PySem.W.mg_none_of X G z_str⟩
  have T2 : Bt2 mg := ⟨PySem.W.mg_none_of X G z_enumerate, PySem.W.mg_none_of X G z_zip⟩
  have TB_Book : Cls K C_Book := ⟨pg_Book, hd_Book, po_Book, sa_Book⟩
  have TB_KindWatch : Cls K C_KindWatch := ⟨pg_KindWatch, hd_KindWatch, po_KindWatch, sa_KindWatch⟩
  have TB_ColumnWatch : Cls K C_ColumnWatch := ⟨pg_ColumnWatch, hd_ColumnWatch, po_ColumnWatch, sa_ColumnWatch⟩
  refine ⟨PySem.W.fnOf "law" "law" (defArgs s_law) (defBody s_law) (defScope s_law) .none kV12 dc12 pm12 an12 cd12 ct12, fun s v => .of_eq rfl, fun base _ _ => ?_⟩
  have GG : Gn K mg ad_RULES ad_COLUMN_CHECKS ad_KIND_CHECKS ad_BOOK_CHECKS tk_STRIKE tk_LETTERS tk_LONGEST_NAME := ⟨(PySem.W.mg_of X G g_STRIKE), (PySem.W.mg_of X G g_LETTERS), (PySem.W.mg_of X G g_LONGEST_NAME), (PySem.W.mg_of X G g_RULES), (PySem.W.mg_of X G g_COLUMN_CHECKS), (PySem.W.mg_of X G g_KIND_CHECKS), (PySem.W.mg_of X G g_BOOK_CHECKS), kt_RULES, kt_COLUMN_CHECKS, kt_KIND_CHECKS, kt_BOOK_CHECKS⟩
  have GW : Gw K mg ad_X_WORDS ad_OWNERS ad_Y_WORDS ad_Z_WORDS := ⟨(PySem.W.mg_of X G g_X_WORDS), (PySem.W.mg_of X G g_OWNERS), (PySem.W.mg_of X G g_Y_WORDS), (PySem.W.mg_of X G g_Z_WORDS), kt_X_WORDS, kt_OWNERS, kt_Y_WORDS, kt_Z_WORDS⟩
  have TB : BkT K C_Book := ⟨TB_Book, n_Book_kinds, n_Book_columns, n_Book_menu, n_Book_checks⟩
  have TK : KwT K C_KindWatch := ⟨TB_KindWatch, n_KindWatchbegin, n_KindWatchcolumn, n_KindWatchkinds_of_rows, n_KindWatchhas, n_KindWatch_is_open, n_KindWatch_is_markable, n_KindWatch_parts⟩
  have TC : CwT K C_ColumnWatch := ⟨TB_ColumnWatch, n_ColumnWatchbegin, n_ColumnWatchcolumn, n_ColumnWatchkinds_of_rows, n_ColumnWatchhas, n_ColumnWatch_piece, n_ColumnWatch_is_home_open, n_ColumnWatch_is_goal_open, n_ColumnWatch_is_goal_markable, n_ColumnWatch_has_other_way, n_ColumnWatch_parts⟩
  have O__law_draw : Own l.prog w K mg base CX0 1 "_law_draw" ["_law_stream", "_law_many"] spDraw := ⟨f0, _, ok_draw F0 TT, PySem.W.mg_of X G a0, k0, b0⟩
  have O__law_pick : Own l.prog w K mg base CX0 2 "_law_pick" ["_law_stream", "_law_things"] (spPick K) := ⟨f1, _, ok_pick F1 TT O__law_draw, PySem.W.mg_of X G a1, k1, b1⟩
  have O__law_fresh : Own l.prog w K mg base CX0 2 "_law_fresh" ["_law_stream", "_law_taken"] spFresh := ⟨f3, _, ok_fresh F3 TT O__law_draw, PySem.W.mg_of X G a3, k3, b3⟩
  have O__law_names : Own l.prog w K mg base CX0 3 "_law_names" ["_law_stream", "_law_many"] spNames := ⟨f4, _, ok_names F4 TT O__law_fresh, PySem.W.mg_of X G a4, k4, b4⟩
  have O__law_shape : Own l.prog w K mg base CX0 4 "_law_shape" ["_law_stream", "_law_many", "_law_most"] spShape := ⟨f5, _, ok_shape F5 TT O__law_draw O__law_pick O__law_names, PySem.W.mg_of X G a5, k5, b5⟩
  have O__law_all_checks : Own l.prog w K mg base CX0 1 "_law_all_checks" ["_law_b"] spAll := ⟨f6, _, ok_all F6 TT, PySem.W.mg_of X G a6, k6, b6⟩
  have O__law_checked : Own l.prog w K mg base CX0 2 "_law_checked" ["_law_stream", "_law_b"] spChecked := ⟨f7, _, ok_checked F7 TT O__law_draw O__law_all_checks, PySem.W.mg_of X G a7, k7, b7⟩
  have O__law_rules : Own l.prog w K mg base CX0 5 "_law_rules" ["_law_stream", "_law_many", "_law_most"] spRules := ⟨f8, _, ok_rules F8 TT O__law_draw O__law_shape O__law_checked, PySem.W.mg_of X G a8, k8, b8⟩
  have O_BadName := own_x1 (P := l.prog) (w := w) (base := base) X G tx_BadName aE_BadName lE_BadName cE_BadName bE_BadName
  have O_NameInUse := own_x1 (P := l.prog) (w := w) (base := base) X G tx_NameInUse aE_NameInUse lE_NameInUse cE_NameInUse bE_NameInUse
  have O_UnknownKind := own_x1 (P := l.prog) (w := w) (base := base) X G tx_UnknownKind aE_UnknownKind lE_UnknownKind cE_UnknownKind bE_UnknownKind
  have O_BadRule := own_x1 (P := l.prog) (w := w) (base := base) X G tx_BadRule aE_BadRule lE_BadRule cE_BadRule bE_BadRule
  have O_UnknownCheck := own_x1 (P := l.prog) (w := w) (base := base) X G tx_UnknownCheck aE_UnknownCheck lE_UnknownCheck cE_UnknownCheck bE_UnknownCheck
  have O_is_name : Own l.prog w K mg base CX0 1 "is_name" ["thing"] (spIsName K) := ⟨f13, _, ok_is_name F13 TT GG, PySem.W.mg_of X G a13, k13, b13⟩
  have O_is_word_of : Own l.prog w K mg base CX0 1 "is_word_of" ["thing", "words"] (spWord K) := ⟨f14, _, ok_word F14 TT, PySem.W.mg_of X G a14, k14, b14⟩
  have O__want_free_name : OwnR l.prog w K mg base 3 "_want_free_name" ["name", "taken"] (spFree K C_BadName C_NameInUse) := ⟨f15, _, ok_free F15 O_is_name O_BadName O_NameInUse, PySem.W.mg_of X G a15, k15, b15⟩
  have O__read_kinds : OwnR l.prog w K mg base 4 "_read_kinds" ["kinds"] (spReadK K C_BadName C_NameInUse) := ⟨f16, _, ok_readK F16 TT O__want_free_name, PySem.W.mg_of X G a16, k16, b16⟩
  have O__read_columns : OwnR l.prog w K mg base 4 "_read_columns" ["columns", "kinds"] (spReadC K C_BadName C_NameInUse C_UnknownKind C_BadRule) := ⟨f17, _, ok_readC F17 TT GG O__want_free_name O_is_word_of O_UnknownKind O_BadRule, PySem.W.mg_of X G a17, k17, b17⟩
  have O__menu_of : Own l.prog w K mg base CX0 1 "_menu_of" ["kinds", "columns"] spMenu := ⟨f18, _, ok_menu F18 TT GG, PySem.W.mg_of X G a18, k18, b18⟩
  have O__read_checks : OwnR l.prog w K mg base 4 "_read_checks" ["checks", "menu"] (spReadX K C_UnknownCheck) := ⟨f19, _, ok_readX F19 TT O_is_word_of O_UnknownCheck, PySem.W.mg_of X G a19, k19, b19⟩
  have O_Book : OwnCR l.prog w K mg base 5 C_Book "Book" ["self", "kinds", "columns", "checks"] (spInit K C_Book ⟨C_BadName, C_NameInUse, C_UnknownKind, C_BadRule, C_UnknownCheck⟩) := ⟨f29, _, ok_init (A := ⟨C_BadName, C_NameInUse, C_UnknownKind, C_BadRule, C_UnknownCheck⟩) FE29 TB O__read_kinds O__read_columns O__menu_of O__read_checks, PySem.W.mg_of X G aC_Book, ⟨mk_Book, a29, i29, kc_Book⟩, b29⟩
  have O_Book_kinds : OwnM l.prog w K mg base CX0 1 C_Book "kinds" ["self"] (spKinds C_Book) := ⟨TB_Book, f30, _, ok_kinds F30 TT TB, ⟨a30, i30, k30⟩, b30⟩
  have O_Book_columns : OwnM l.prog w K mg base CX0 1 C_Book "columns" ["self"] (spColumns C_Book) := ⟨TB_Book, f31, _, ok_columns F31 TT TB, ⟨a31, i31, k31⟩, b31⟩
  have O_Book_markable : OwnM l.prog w K mg base CX0 1 C_Book "markable" ["self"] (spMark C_Book) := ⟨TB_Book, f32, _, ok_mark F32 TB, ⟨a32, i32, k32⟩, b32⟩
  have O_Book_questions : OwnM l.prog w K mg base CX0 1 C_Book "questions" ["self"] (spQuest C_Book) := ⟨TB_Book, f33, _, ok_quest F33 TT TB, ⟨a33, i33, k33⟩, b33⟩
  have O_Book_contains : OwnM l.prog w K mg base CX0 2 C_Book "__contains__" ["self", "check"] (spHasB K C_Book) := ⟨TB_Book, f34, _, ok_hasB F34 TT TB O_is_word_of, ⟨a34, i34, k34⟩, b34⟩
  have O__lists_of : Own l.prog w K mg base CX0 1 "_lists_of" ["letters"] (spListsOf K) := ⟨f20, _, ok_listsOf F20 TT T2, PySem.W.mg_of X G a20, k20, b20⟩
  have O__checks_at : Own l.prog w K mg base CX0 3 "_checks_at" ["book", "column", "home", "goal"] (spChecksAt C_Book) := ⟨f21, _, ok_checksAt F21 GG O_Book_contains, PySem.W.mg_of X G a21, k21, b21⟩
  have O_KindWatch : OwnC l.prog w K mg base CX0 3 C_KindWatch "KindWatch" ["self", "book", "kind"] (spKwInit C_Book C_KindWatch ad_Y_WORDS) := ⟨f35, _, ok_kwInit F35 TT TK GW O_Book_contains O_Book_kinds O_Book_markable O__lists_of, PySem.W.mg_of X G aC_KindWatch, ⟨mk_KindWatch, a35, i35, kc_KindWatch⟩, b35⟩
  have O_ColumnWatch : OwnC l.prog w K mg base CX0 4 C_ColumnWatch "ColumnWatch" ["self", "book", "column"] (spCwInit C_Book C_ColumnWatch ad_X_WORDS ad_OWNERS ad_Y_WORDS ad_Z_WORDS) := ⟨f39, _, ok_cwInit F39 TT TC GW O__checks_at O_Book_columns O_Book_kinds O_Book_markable O__lists_of, PySem.W.mg_of X G aC_ColumnWatch, ⟨mk_ColumnWatch, a39, i39, kc_ColumnWatch⟩, b39⟩
  have O__has_room : Own l.prog w K mg base CX0 1 "_has_room" ["lists", "is_lone"] spRoom := ⟨f22, _, ok_room F22 TT, PySem.W.mg_of X G a22, k22, b22⟩
  have O__with_letter : Own l.prog w K mg base CX0 1 "_with_letter" ["lists", "letter"] spWithLt := ⟨f23, _, ok_withLt F23 TT, PySem.W.mg_of X G a23, k23, b23⟩
  have O__letters_taken : Own l.prog w K mg base CX0 1 "_letters_taken" ["lists"] spTaken := ⟨f24, _, ok_taken F24 TT T2, PySem.W.mg_of X G a24, k24, b24⟩
  have O_KindWatch_states : OwnM l.prog w K mg base CX0 1 C_KindWatch "states" ["self"] (spKwStates C_KindWatch ad_Y_WORDS) := ⟨TB_KindWatch, f36, _, ok_kwStates F36 TT TK GW, ⟨a36, i36, k36⟩, b36⟩
  have O_KindWatch_is_fault : OwnM l.prog w K mg base CX0 1 C_KindWatch "is_fault" ["self", "state", "word"] (spKwFault C_KindWatch) := ⟨TB_KindWatch, f37, _, ok_kwFault F37, ⟨a37, i37, k37⟩, b37⟩
  have O_KindWatch_steps : OwnM l.prog w K mg base CX0 2 C_KindWatch "steps" ["self", "state"] (spKwSteps C_KindWatch ad_Y_WORDS) := ⟨TB_KindWatch, f38, _, ok_kwSteps F38 TT TK O__has_room O__with_letter O__letters_taken, ⟨a38, i38, k38⟩, b38⟩
  have O_watch_of : Own l.prog w K mg base CX0 6 "watch_of" ["book", "question"] (spWatchK C_Book C_KindWatch ad_Y_WORDS) := ⟨f25, _, ok_watchK F25 TT O_KindWatch O_ColumnWatch, PySem.W.mg_of X G a25, k25, b25⟩
  have O_walk : Own l.prog w K mg base CX0 10 "walk" ["watch", "word"] (spWalk (fun (i : KIx) H o => KwS C_KindWatch ad_Y_WORDS H o i.1 i.2.1 i.2.2) (fun _ => kBg) (fun i => kStp (kfl i.1 i.2.1 i.2.2))) := ⟨f26, _, ok_walk (ns := 2) (nf := 1) (by decide) (by decide) F26 TT kw_watch TK.n1 O_KindWatch_steps O_KindWatch_is_fault, PySem.W.mg_of X G a26, k26, b26⟩
  have O_want_question : Own l.prog w K mg base CX0 2 "want_question" ["book", "question"] (spWantQ C_Book) := ⟨f27, _, ok_wantQ F27 TT O_Book_questions O_is_word_of, PySem.W.mg_of X G a27, k27, b27⟩
  have O_table : Own l.prog w K mg base CX0 11 "table" ["book", "question"] (spTableK C_Book) := ⟨f28, _, ok_tableK F28 TT O_want_question O_watch_of O_walk O_KindWatch_states, PySem.W.mg_of X G a28, k28, b28⟩
  have O__law_markable : Own l.prog w K mg base CX0 1 "_law_markable" ["_law_b"] spMarkL := ⟨f10, _, ok_markL F10 TT, PySem.W.mg_of X G a10, k10, b10⟩
  have O__law_made : Own l.prog w K mg base CX0 7 "_law_made" ["_law_b"] (spMadeL C_Book) := ⟨f9, _, ok_madeL F9 O_Book, PySem.W.mg_of X G a9, k9, b9⟩
  have O__law_due : Own l.prog w K mg base CX0 2 "_law_due" ["_law_b", "_law_kind"] spDueK := ⟨f11, _, ok_dueK F11 TT O__law_markable, PySem.W.mg_of X G a11, k11, b11⟩
  have O__law_same : OwnG l.prog w K mg base CX0 1 "_law_same" ["_law_found", "_law_due_here"] (spSameN K) := ⟨f2, _, ok_sameN F2 TT, PySem.W.mg_of X G a2, k2, b2⟩
  exact ok_law F12 TT T2 O__law_rules O__law_pick O__law_made O__law_due O_table O__law_same
end Ls
set_option maxHeartbeats 0
namespace Ls
open PySem PySem.Spec PyProof.Rows L2
/-! ### what the top has written, asked as Bools -/
def nm0 : List PySem.Str := ["_wall", "__name__", "StrikeError", "BadName", "NameInUse", "UnknownKind", "BadRule", "UnknownCheck", "UnlikeBooks", "BadQuestion", "LETTERS", "LONGEST_NAME"]
def nm1 : List PySem.Str := ["STRIKE", "is_name", "is_word_of", "walk", "_moves_to", "RULES", "COLUMN_CHECKS", "KIND_CHECKS", "BOOK_CHECKS", "Book", "want_one_shape", "_read_kinds"]
def nm2 : List PySem.Str := ["_read_columns", "_want_free_name", "_menu_of", "_read_checks", "X_WORDS", "OWNERS", "Y_WORDS", "Z_WORDS", "THERE", "FALLEN", "ColumnWatch", "KindWatch"]
def nm3 : List PySem.Str := ["watch_of", "_checks_at", "_lists_of", "_owners_that_come", "_is_due", "_has_room", "_with_letter", "_letters_taken", "table", "want_question", "_law_draw", "_law_pick"]
def nm4 : List PySem.Str := ["_law_same", "_law_fresh", "_law_names", "_law_shape", "_law_all_checks", "_law_checked", "_law_rules", "_law_made", "_law_markable", "_law_due"]
def lawNames : List PySem.Str := nm0 ++ nm1 ++ nm2 ++ nm3 ++ nm4
def wd0 : List WD := [⟨("_law_draw", none), "_law_draw", "_law_draw", defArgs s__law_draw, defBody s__law_draw, defScope s__law_draw, []⟩, ⟨("_law_pick", none), "_law_pick", "_law_pick", defArgs s__law_pick, defBody s__law_pick, defScope s__law_pick, []⟩, ⟨("_law_same", none), "_law_same", "_law_same", defArgs s__law_same, defBody s__law_same, defScope s__law_same, []⟩, ⟨("_law_fresh", none), "_law_fresh", "_law_fresh", defArgs s__law_fresh, defBody s__law_fresh, defScope s__law_fresh, []⟩, ⟨("_law_names", none), "_law_names", "_law_names", defArgs s__law_names, defBody s__law_names, defScope s__law_names, []⟩, ⟨("_law_shape", none), "_law_shape", "_law_shape", defArgs s__law_shape, defBody s__law_shape, defScope s__law_shape, []⟩, ⟨("_law_all_checks", none), "_law_all_checks", "_law_all_checks", defArgs s__law_all_checks, defBody s__law_all_checks, defScope s__law_all_checks, []⟩, ⟨("_law_checked", none), "_law_checked", "_law_checked", defArgs s__law_checked, defBody s__law_checked, defScope s__law_checked, []⟩]
def wd1 : List WD := [⟨("_law_rules", none), "_law_rules", "_law_rules", defArgs s__law_rules, defBody s__law_rules, defScope s__law_rules, []⟩, ⟨("_law_made", none), "_law_made", "_law_made", defArgs s__law_made, defBody s__law_made, defScope s__law_made, []⟩, ⟨("_law_markable", none), "_law_markable", "_law_markable", defArgs s__law_markable, defBody s__law_markable, defScope s__law_markable, []⟩, ⟨("_law_due", none), "_law_due", "_law_due", defArgs s__law_due, defBody s__law_due, defScope s__law_due, []⟩, ⟨("law", none), "law", "law", defArgs s_law, defBody s_law, defScope s_law, []⟩, ⟨("is_name", none), "is_name", "is_name", defArgs s_is_name, defBody s_is_name, defScope s_is_name, []⟩, ⟨("is_word_of", none), "is_word_of", "is_word_of", defArgs s_is_word_of, defBody s_is_word_of, defScope s_is_word_of, []⟩, ⟨("_want_free_name", none), "_want_free_name", "_want_free_name", defArgs s__want_free_name, defBody s__want_free_name, defScope s__want_free_name, []⟩]
def wd2 : List WD := [⟨("_read_kinds", none), "_read_kinds", "_read_kinds", defArgs s__read_kinds, defBody s__read_kinds, defScope s__read_kinds, []⟩, ⟨("_read_columns", none), "_read_columns", "_read_columns", defArgs s__read_columns, defBody s__read_columns, defScope s__read_columns, []⟩, ⟨("_menu_of", none), "_menu_of", "_menu_of", defArgs s__menu_of, defBody s__menu_of, defScope s__menu_of, []⟩, ⟨("_read_checks", none), "_read_checks", "_read_checks", defArgs s__read_checks, defBody s__read_checks, defScope s__read_checks, []⟩, ⟨("_lists_of", none), "_lists_of", "_lists_of", defArgs s__lists_of, defBody s__lists_of, defScope s__lists_of, []⟩, ⟨("_checks_at", none), "_checks_at", "_checks_at", defArgs s__checks_at, defBody s__checks_at, defScope s__checks_at, []⟩, ⟨("_has_room", none), "_has_room", "_has_room", defArgs s__has_room, defBody s__has_room, defScope s__has_room, []⟩, ⟨("_with_letter", none), "_with_letter", "_with_letter", defArgs s__with_letter, defBody s__with_letter, defScope s__with_letter, []⟩]
def wd3 : List WD := [⟨("_letters_taken", none), "_letters_taken", "_letters_taken", defArgs s__letters_taken, defBody s__letters_taken, defScope s__letters_taken, []⟩, ⟨("watch_of", none), "watch_of", "watch_of", defArgs s_watch_of, defBody s_watch_of, defScope s_watch_of, []⟩, ⟨("walk", none), "walk", "walk", defArgs s_walk, defBody s_walk, defScope s_walk, []⟩, ⟨("want_question", none), "want_question", "want_question", defArgs s_want_question, defBody s_want_question, defScope s_want_question, []⟩, ⟨("table", none), "table", "table", defArgs s_table, defBody s_table, defScope s_table, []⟩, ⟨("Book", some "__init__"), "__init__", "Book.__init__", defArgs s_Book_init, defBody s_Book_init, defScope s_Book_init, []⟩, ⟨("Book", some "kinds"), "kinds", "Book.kinds", defArgs s_Book_kinds, defBody s_Book_kinds, defScope s_Book_kinds, []⟩, ⟨("Book", some "columns"), "columns", "Book.columns", defArgs s_Book_columns, defBody s_Book_columns, defScope s_Book_columns, []⟩]
def wd4 : List WD := [⟨("Book", some "markable"), "markable", "Book.markable", defArgs s_Book_markable, defBody s_Book_markable, defScope s_Book_markable, []⟩, ⟨("Book", some "questions"), "questions", "Book.questions", defArgs s_Book_questions, defBody s_Book_questions, defScope s_Book_questions, []⟩, ⟨("Book", some "__contains__"), "__contains__", "Book.__contains__", defArgs s_Book_contains, defBody s_Book_contains, defScope s_Book_contains, []⟩, ⟨("KindWatch", some "__init__"), "__init__", "KindWatch.__init__", defArgs s_KindWatch_init, defBody s_KindWatch_init, defScope s_KindWatch_init, []⟩, ⟨("KindWatch", some "states"), "states", "KindWatch.states", defArgs s_KindWatch_states, defBody s_KindWatch_states, defScope s_KindWatch_states, []⟩, ⟨("KindWatch", some "is_fault"), "is_fault", "KindWatch.is_fault", defArgs s_KindWatch_is_fault, defBody s_KindWatch_is_fault, defScope s_KindWatch_is_fault, []⟩, ⟨("KindWatch", some "steps"), "steps", "KindWatch.steps", defArgs s_KindWatch_steps, defBody s_KindWatch_steps, defScope s_KindWatch_steps, []⟩, ⟨("ColumnWatch", some "__init__"), "__init__", "ColumnWatch.__init__", defArgs s_ColumnWatch_init, defBody s_ColumnWatch_init, defScope s_ColumnWatch_init, []⟩]
def wd5 : List WD := [⟨("BadName", some "__init__"), "__init__", "BadName.__init__", defArgs s_BadName_init, defBody s_BadName_init, defScope s_BadName_init, ["__class__"]⟩, ⟨("NameInUse", some "__init__"), "__init__", "NameInUse.__init__", defArgs s_NameInUse_init, defBody s_NameInUse_init, defScope s_NameInUse_init, ["__class__"]⟩, ⟨("UnknownKind", some "__init__"), "__init__", "UnknownKind.__init__", defArgs s_UnknownKind_init, defBody s_UnknownKind_init, defScope s_UnknownKind_init, ["__class__"]⟩, ⟨("BadRule", some "__init__"), "__init__", "BadRule.__init__", defArgs s_BadRule_init, defBody s_BadRule_init, defScope s_BadRule_init, ["__class__"]⟩, ⟨("UnknownCheck", some "__init__"), "__init__", "UnknownCheck.__init__", defArgs s_UnknownCheck_init, defBody s_UnknownCheck_init, defScope s_UnknownCheck_init, ["__class__"]⟩]
def lawDefs : List WD := wd0 ++ wd1 ++ wd2 ++ wd3 ++ wd4 ++ wd5
def ex0 (K : PySem.W.Frag) : Bool := He.eqO (PySem.W.nsIn K mainGlobals "_law_draw") (some (some (.ref (He.fAd K ("_law_draw", none))))) && (plB K ("_law_draw", none) "_law_draw" && (He.eqO (PySem.W.nsIn K mainGlobals "_law_pick") (some (some (.ref (He.fAd K ("_law_pick", none))))) && (plB K ("_law_pick", none) "_law_pick" && (He.eqO (PySem.W.nsIn K mainGlobals "_law_same") (some (some (.ref (He.fAd K ("_law_same", none))))) && (plB K ("_law_same", none) "_law_same" && (He.eqO (PySem.W.nsIn K mainGlobals "_law_fresh") (some (some (.ref (He.fAd K ("_law_fresh", none))))) && (plB K ("_law_fresh", none) "_law_fresh" && (He.eqO (PySem.W.nsIn K mainGlobals "_law_names") (some (some (.ref (He.fAd K ("_law_names", none))))) && (plB K ("_law_names", none) "_law_names" && (He.eqO (PySem.W.nsIn K mainGlobals "_law_shape") (some (some (.ref (He.fAd K ("_law_shape", none))))) && (plB K ("_law_shape", none) "_law_shape")))))))))))
def ex1 (K : PySem.W.Frag) : Bool := He.eqO (PySem.W.nsIn K mainGlobals "_law_all_checks") (some (some (.ref (He.fAd K ("_law_all_checks", none))))) && (plB K ("_law_all_checks", none) "_law_all_checks" && (He.eqO (PySem.W.nsIn K mainGlobals "_law_checked") (some (some (.ref (He.fAd K ("_law_checked", none))))) && (plB K ("_law_checked", none) "_law_checked" && (He.eqO (PySem.W.nsIn K mainGlobals "_law_rules") (some (some (.ref (He.fAd K ("_law_rules", none))))) && (plB K ("_law_rules", none) "_law_rules" && (He.eqO (PySem.W.nsIn K mainGlobals "_law_made") (some (some (.ref (He.fAd K ("_law_made", none))))) && (plB K ("_law_made", none) "_law_made" && (He.eqO (PySem.W.nsIn K mainGlobals "_law_markable") (some (some (.ref (He.fAd K ("_law_markable", none))))) && (plB K ("_law_markable", none) "_law_markable" && (He.eqO (PySem.W.nsIn K mainGlobals "_law_due") (some (some (.ref (He.fAd K ("_law_due", none))))) && (plB K ("_law_due", none) "_law_due")))))))))))
def ex2 (K : PySem.W.Frag) : Bool := He.eqO (PySem.W.nsIn K mainGlobals "law") (some (some (.ref (He.fAd K ("law", none))))) && (plB K ("law", none) "law" && (He.eqO (PySem.W.nsIn K mainGlobals "is_name") (some (some (.ref (He.fAd K ("is_name", none))))) && (plB K ("is_name", none) "is_name" && (He.eqO (PySem.W.nsIn K mainGlobals "is_word_of") (some (some (.ref (He.fAd K ("is_word_of", none))))) && (plB K ("is_word_of", none) "is_word_of" && (He.eqO (PySem.W.nsIn K mainGlobals "_want_free_name") (some (some (.ref (He.fAd K ("_want_free_name", none))))) && (plB K ("_want_free_name", none) "_want_free_name" && (He.eqO (PySem.W.nsIn K mainGlobals "_read_kinds") (some (some (.ref (He.fAd K ("_read_kinds", none))))) && (plB K ("_read_kinds", none) "_read_kinds" && (He.eqO (PySem.W.nsIn K mainGlobals "_read_columns") (some (some (.ref (He.fAd K ("_read_columns", none))))) && (plB K ("_read_columns", none) "_read_columns")))))))))))
def ex3 (K : PySem.W.Frag) : Bool := He.eqO (PySem.W.nsIn K mainGlobals "_menu_of") (some (some (.ref (He.fAd K ("_menu_of", none))))) && (plB K ("_menu_of", none) "_menu_of" && (He.eqO (PySem.W.nsIn K mainGlobals "_read_checks") (some (some (.ref (He.fAd K ("_read_checks", none))))) && (plB K ("_read_checks", none) "_read_checks" && (He.eqO (PySem.W.nsIn K mainGlobals "_lists_of") (some (some (.ref (He.fAd K ("_lists_of", none))))) && (plB K ("_lists_of", none) "_lists_of" && (He.eqO (PySem.W.nsIn K mainGlobals "_checks_at") (some (some (.ref (He.fAd K ("_checks_at", none))))) && (plB K ("_checks_at", none) "_checks_at" && (He.eqO (PySem.W.nsIn K mainGlobals "_has_room") (some (some (.ref (He.fAd K ("_has_room", none))))) && (plB K ("_has_room", none) "_has_room" && (He.eqO (PySem.W.nsIn K mainGlobals "_with_letter") (some (some (.ref (He.fAd K ("_with_letter", none))))) && (plB K ("_with_letter", none) "_with_letter")))))))))))
def ex4 (K : PySem.W.Frag) : Bool := He.eqO (PySem.W.nsIn K mainGlobals "_letters_taken") (some (some (.ref (He.fAd K ("_letters_taken", none))))) && (plB K ("_letters_taken", none) "_letters_taken" && (He.eqO (PySem.W.nsIn K mainGlobals "watch_of") (some (some (.ref (He.fAd K ("watch_of", none))))) && (plB K ("watch_of", none) "watch_of" && (He.eqO (PySem.W.nsIn K mainGlobals "walk") (some (some (.ref (He.fAd K ("walk", none))))) && (plB K ("walk", none) "walk" && (He.eqO (PySem.W.nsIn K mainGlobals "want_question") (some (some (.ref (He.fAd K ("want_question", none))))) && (plB K ("want_question", none) "want_question" && (He.eqO (PySem.W.nsIn K mainGlobals "table") (some (some (.ref (He.fAd K ("table", none))))) && (plB K ("table", none) "table" && (He.eqO (PySem.W.nsIn K mainGlobals "Book") (some (some (.ref (He.ga K "Book")))) && (PySem.W.plainGet K (He.ga K "Book") Str.empty)))))))))))
def ex5 (K : PySem.W.Frag) : Bool := PySem.W.hasDictIn K (He.ga K "Book") && (PySem.W.plainOver K (He.ga K "Book") && (He.eqO (PySem.W.findIn K (.ref (He.ga K "Book")) "__setattr__") (some (some (.builtin "object.__setattr__"))) && (PySem.W.makesIn K (He.ga K "Book") && (PySem.W.keepIn K (.ref (He.ga K "Book")) && (He.eqO (PySem.W.findIn K (.ref (He.ga K "Book")) "_kinds") (some none) && (He.eqO (PySem.W.findIn K (.ref (He.ga K "Book")) "_columns") (some none) && (He.eqO (PySem.W.findIn K (.ref (He.ga K "Book")) "_menu") (some none) && (He.eqO (PySem.W.findIn K (.ref (He.ga K "Book")) "_checks") (some none) && (He.eqO (PySem.W.nsIn K mainGlobals "KindWatch") (some (some (.ref (He.ga K "KindWatch")))) && (PySem.W.plainGet K (He.ga K "KindWatch") Str.empty && (PySem.W.hasDictIn K (He.ga K "KindWatch"))))))))))))
def ex6 (K : PySem.W.Frag) : Bool := PySem.W.plainOver K (He.ga K "KindWatch") && (He.eqO (PySem.W.findIn K (.ref (He.ga K "KindWatch")) "__setattr__") (some (some (.builtin "object.__setattr__"))) && (PySem.W.makesIn K (He.ga K "KindWatch") && (PySem.W.keepIn K (.ref (He.ga K "KindWatch")) && (He.eqO (PySem.W.findIn K (.ref (He.ga K "KindWatch")) "begin") (some none) && (He.eqO (PySem.W.findIn K (.ref (He.ga K "KindWatch")) "column") (some none) && (He.eqO (PySem.W.findIn K (.ref (He.ga K "KindWatch")) "kinds_of_rows") (some none) && (He.eqO (PySem.W.findIn K (.ref (He.ga K "KindWatch")) "has") (some none) && (He.eqO (PySem.W.findIn K (.ref (He.ga K "KindWatch")) "_is_open") (some none) && (He.eqO (PySem.W.findIn K (.ref (He.ga K "KindWatch")) "_is_markable") (some none) && (He.eqO (PySem.W.findIn K (.ref (He.ga K "KindWatch")) "_parts") (some none) && (He.eqO (PySem.W.nsIn K mainGlobals "ColumnWatch") (some (some (.ref (He.ga K "ColumnWatch")))))))))))))))
def ex7 (K : PySem.W.Frag) : Bool := PySem.W.plainGet K (He.ga K "ColumnWatch") Str.empty && (PySem.W.hasDictIn K (He.ga K "ColumnWatch") && (PySem.W.plainOver K (He.ga K "ColumnWatch") && (He.eqO (PySem.W.findIn K (.ref (He.ga K "ColumnWatch")) "__setattr__") (some (some (.builtin "object.__setattr__"))) && (PySem.W.makesIn K (He.ga K "ColumnWatch") && (PySem.W.keepIn K (.ref (He.ga K "ColumnWatch")) && (He.eqO (PySem.W.findIn K (.ref (He.ga K "ColumnWatch")) "begin") (some none) && (He.eqO (PySem.W.findIn K (.ref (He.ga K "ColumnWatch")) "column") (some none) && (He.eqO (PySem.W.findIn K (.ref (He.ga K "ColumnWatch")) "kinds_of_rows") (some none) && (He.eqO (PySem.W.findIn K (.ref (He.ga K "ColumnWatch")) "has") (some none) && (He.eqO (PySem.W.findIn K (.ref (He.ga K "ColumnWatch")) "_piece") (some none) && (He.eqO (PySem.W.findIn K (.ref (He.ga K "ColumnWatch")) "_is_home_open") (some none))))))))))))
def ex8 (K : PySem.W.Frag) : Bool := He.eqO (PySem.W.findIn K (.ref (He.ga K "ColumnWatch")) "_is_goal_open") (some none) && (He.eqO (PySem.W.findIn K (.ref (He.ga K "ColumnWatch")) "_is_goal_markable") (some none) && (He.eqO (PySem.W.findIn K (.ref (He.ga K "ColumnWatch")) "_has_other_way") (some none) && (He.eqO (PySem.W.findIn K (.ref (He.ga K "ColumnWatch")) "_parts") (some none) && (He.eqO (PySem.W.findIn K (.ref (He.ga K "Book")) "__init__") (some (some (.ref (He.fAd K ("Book", some "__init__"))))) && (PySem.W.isFn K (.ref (He.fAd K ("Book", some "__init__"))) && (dfB K ("Book", some "__init__") "Book.__init__" && (He.eqO (PySem.W.findIn K (.ref (He.ga K "Book")) "kinds") (some (some (.ref (He.fAd K ("Book", some "kinds"))))) && (PySem.W.isFn K (.ref (He.fAd K ("Book", some "kinds"))) && (plB K ("Book", some "kinds") "Book.kinds" && (He.eqO (PySem.W.findIn K (.ref (He.ga K "Book")) "columns") (some (some (.ref (He.fAd K ("Book", some "columns"))))) && (PySem.W.isFn K (.ref (He.fAd K ("Book", some "columns"))))))))))))))
def ex9 (K : PySem.W.Frag) : Bool := plB K ("Book", some "columns") "Book.columns" && (He.eqO (PySem.W.findIn K (.ref (He.ga K "Book")) "markable") (some (some (.ref (He.fAd K ("Book", some "markable"))))) && (PySem.W.isFn K (.ref (He.fAd K ("Book", some "markable"))) && (plB K ("Book", some "markable") "Book.markable" && (He.eqO (PySem.W.findIn K (.ref (He.ga K "Book")) "questions") (some (some (.ref (He.fAd K ("Book", some "questions"))))) && (PySem.W.isFn K (.ref (He.fAd K ("Book", some "questions"))) && (plB K ("Book", some "questions") "Book.questions" && (He.eqO (PySem.W.findIn K (.ref (He.ga K "Book")) "__contains__") (some (some (.ref (He.fAd K ("Book", some "__contains__"))))) && (PySem.W.isFn K (.ref (He.fAd K ("Book", some "__contains__"))) && (plB K ("Book", some "__contains__") "Book.__contains__" && (He.eqO (PySem.W.findIn K (.ref (He.ga K "KindWatch")) "__init__") (some (some (.ref (He.fAd K ("KindWatch", some "__init__"))))) && (PySem.W.isFn K (.ref (He.fAd K ("KindWatch", some "__init__"))))))))))))))
def ex10 (K : PySem.W.Frag) : Bool := plB K ("KindWatch", some "__init__") "KindWatch.__init__" && (He.eqO (PySem.W.findIn K (.ref (He.ga K "KindWatch")) "states") (some (some (.ref (He.fAd K ("KindWatch", some "states"))))) && (PySem.W.isFn K (.ref (He.fAd K ("KindWatch", some "states"))) && (plB K ("KindWatch", some "states") "KindWatch.states" && (He.eqO (PySem.W.findIn K (.ref (He.ga K "KindWatch")) "is_fault") (some (some (.ref (He.fAd K ("KindWatch", some "is_fault"))))) && (PySem.W.isFn K (.ref (He.fAd K ("KindWatch", some "is_fault"))) && (plB K ("KindWatch", some "is_fault") "KindWatch.is_fault" && (He.eqO (PySem.W.findIn K (.ref (He.ga K "KindWatch")) "steps") (some (some (.ref (He.fAd K ("KindWatch", some "steps"))))) && (PySem.W.isFn K (.ref (He.fAd K ("KindWatch", some "steps"))) && (plB K ("KindWatch", some "steps") "KindWatch.steps" && (He.eqO (PySem.W.findIn K (.ref (He.ga K "ColumnWatch")) "__init__") (some (some (.ref (He.fAd K ("ColumnWatch", some "__init__"))))) && (PySem.W.isFn K (.ref (He.fAd K ("ColumnWatch", some "__init__"))))))))))))))
def ex11 (K : PySem.W.Frag) : Bool := plB K ("ColumnWatch", some "__init__") "ColumnWatch.__init__" && (He.eqO (PySem.W.nsIn K mainGlobals "BadName") (some (some (.ref (He.ga K "BadName")))) && (He.eqO (PySem.W.findIn K (.ref (He.ga K "BadName")) "__init__") (some (some (.ref (He.fAd K ("BadName", some "__init__"))))) && (erB K ("BadName", some "__init__") "BadName.__init__" && (errB (PySem.Challenge.rw_longstrike_k42_tables_of_kinds).prog K (He.ga K "BadName") (He.fAd K ("BadName", some "__init__")) (cellOf K ("BadName", some "__init__")) (codeAd K ("BadName", some "__init__")) ["name"] && (He.eqO (PySem.W.nsIn K mainGlobals "NameInUse") (some (some (.ref (He.ga K "NameInUse")))) && (He.eqO (PySem.W.findIn K (.ref (He.ga K "NameInUse")) "__init__") (some (some (.ref (He.fAd K ("NameInUse", some "__init__"))))) && (erB K ("NameInUse", some "__init__") "NameInUse.__init__" && (errB (PySem.Challenge.rw_longstrike_k42_tables_of_kinds).prog K (He.ga K "NameInUse") (He.fAd K ("NameInUse", some "__init__")) (cellOf K ("NameInUse", some "__init__")) (codeAd K ("NameInUse", some "__init__")) ["name"] && (He.eqO (PySem.W.nsIn K mainGlobals "UnknownKind") (some (some (.ref (He.ga K "UnknownKind")))) && (He.eqO (PySem.W.findIn K (.ref (He.ga K "UnknownKind")) "__init__") (some (some (.ref (He.fAd K ("UnknownKind", some "__init__"))))) && (erB K ("UnknownKind", some "__init__") "UnknownKind.__init__")))))))))))
def ex12 (K : PySem.W.Frag) : Bool := errB (PySem.Challenge.rw_longstrike_k42_tables_of_kinds).prog K (He.ga K "UnknownKind") (He.fAd K ("UnknownKind", some "__init__")) (cellOf K ("UnknownKind", some "__init__")) (codeAd K ("UnknownKind", some "__init__")) ["kind"] && (He.eqO (PySem.W.nsIn K mainGlobals "BadRule") (some (some (.ref (He.ga K "BadRule")))) && (He.eqO (PySem.W.findIn K (.ref (He.ga K "BadRule")) "__init__") (some (some (.ref (He.fAd K ("BadRule", some "__init__"))))) && (erB K ("BadRule", some "__init__") "BadRule.__init__" && (errB (PySem.Challenge.rw_longstrike_k42_tables_of_kinds).prog K (He.ga K "BadRule") (He.fAd K ("BadRule", some "__init__")) (cellOf K ("BadRule", some "__init__")) (codeAd K ("BadRule", some "__init__")) ["rule"] && (He.eqO (PySem.W.nsIn K mainGlobals "UnknownCheck") (some (some (.ref (He.ga K "UnknownCheck")))) && (He.eqO (PySem.W.findIn K (.ref (He.ga K "UnknownCheck")) "__init__") (some (some (.ref (He.fAd K ("UnknownCheck", some "__init__"))))) && (erB K ("UnknownCheck", some "__init__") "UnknownCheck.__init__" && (errB (PySem.Challenge.rw_longstrike_k42_tables_of_kinds).prog K (He.ga K "UnknownCheck") (He.fAd K ("UnknownCheck", some "__init__")) (cellOf K ("UnknownCheck", some "__init__")) (codeAd K ("UnknownCheck", some "__init__")) ["check"] && (He.eqO (PySem.W.nsIn K mainGlobals "int") (some none) && (He.eqO (PySem.W.nsIn K mainGlobals "len") (some none) && (He.eqO (PySem.W.nsIn K mainGlobals "range") (some none))))))))))))
def ex13 (K : PySem.W.Frag) : Bool := He.eqO (PySem.W.nsIn K mainGlobals "list") (some none) && (He.eqO (PySem.W.nsIn K mainGlobals "tuple") (some none) && (He.eqO (PySem.W.nsIn K mainGlobals "dict") (some none) && (He.eqO (PySem.W.nsIn K mainGlobals "isinstance") (some none) && (He.eqO (PySem.W.nsIn K mainGlobals "all") (some none) && (He.eqO (PySem.W.nsIn K mainGlobals "any") (some none) && (He.eqO (PySem.W.nsIn K mainGlobals "repr") (some none) && (He.eqO (PySem.W.nsIn K mainGlobals "str") (some none) && (He.eqO (PySem.W.nsIn K mainGlobals "enumerate") (some none) && (He.eqO (PySem.W.nsIn K mainGlobals "zip") (some none) && (strB K "STRIKE" "strike" && (strB K "LETTERS" "abcdefghijklmnopqrstuvwxyz")))))))))))
def ex14 (K : PySem.W.Frag) : Bool := intB K "LONGEST_NAME" 8 && (He.eqO (PySem.W.nsIn K mainGlobals "RULES") (some (some (.ref (He.ga K "RULES")))) && (tupB K (He.ga K "RULES") ["fall", "clear"] && (He.eqO (PySem.W.nsIn K mainGlobals "COLUMN_CHECKS") (some (some (.ref (He.ga K "COLUMN_CHECKS")))) && (tupB K (He.ga K "COLUMN_CHECKS") ["put", "turn", "keep", "hold", "again"] && (He.eqO (PySem.W.nsIn K mainGlobals "KIND_CHECKS") (some (some (.ref (He.ga K "KIND_CHECKS")))) && (tupB K (He.ga K "KIND_CHECKS") ["bare", "calm", "again"] && (He.eqO (PySem.W.nsIn K mainGlobals "BOOK_CHECKS") (some (some (.ref (He.ga K "BOOK_CHECKS")))) && (tupB K (He.ga K "BOOK_CHECKS") ["lone", "fresh"] && (He.eqO (PySem.W.nsIn K mainGlobals "X_WORDS") (some (some (.ref (He.ga K "X_WORDS")))) && (tupB K (He.ga K "X_WORDS") ["gone", "marked", "new", "other", "plain"] && (He.eqO (PySem.W.nsIn K mainGlobals "OWNERS") (some (some (.ref (He.ga K "OWNERS")))))))))))))))
def ex15 (K : PySem.W.Frag) : Bool := tupB K (He.ga K "OWNERS") ["-", "y", "z"] && (He.eqO (PySem.W.nsIn K mainGlobals "Y_WORDS") (some (some (.ref (He.ga K "Y_WORDS")))) && (tupB K (He.ga K "Y_WORDS") ["gone", "marked", "new", "plain"] && (He.eqO (PySem.W.nsIn K mainGlobals "Z_WORDS") (some (some (.ref (He.ga K "Z_WORDS")))) && (tupB K (He.ga K "Z_WORDS") ["new", "plain"]))))
def exB (K : PySem.W.Frag) : Bool := ex0 K && (ex1 K && (ex2 K && (ex3 K && (ex4 K && (ex5 K && (ex6 K && (ex7 K && (ex8 K && (ex9 K && (ex10 K && (ex11 K && (ex12 K && (ex13 K && (ex14 K && (ex15 K)))))))))))))))

end Ls
set_option maxHeartbeats 0
namespace Ls
open PySem PySem.Spec PyProof.Rows L2
/-! ### the run -/
def ad0 : List Addr := [3, 2, 30, 31, 38, 49, 50, 52, 53, 59, 70, 71, 73, 74, 80, 91, 92, 94, 95, 101]
def ad1 : List Addr := [112, 113, 115, 116, 122, 133, 134, 136, 137, 185, 186, 192, 193, 199, 200, 208, 209, 210, 211, 221]
def ad2 : List Addr := [227, 228, 234, 235, 241, 242, 267, 268, 272, 273, 286, 287, 353, 354, 369, 370, 374, 375, 381, 382]
def ad3 : List Addr := [386, 387, 391, 392, 393, 394, 395, 396, 409, 410, 481, 482, 499, 500, 504, 505, 518, 519, 525, 526]
def ad4 : List Addr := [528, 529, 539, 540, 544, 545, 549, 550, 570, 571, 577, 578, 582, 583, 587, 588, 594, 595, 601, 602]
def ad5 : List Addr := [608, 609, 615, 616, 620, 621, 627, 628, 632, 633, 637, 638, 642, 643, 649, 650, 656, 657, 661, 662]
def ad6 : List Addr := [668, 669, 673, 674]
def lawAds : List Addr := ad0 ++ ad1 ++ ad2 ++ ad3 ++ ad4 ++ ad5 ++ ad6
abbrev lawRow : PySem.W.OpenRow := PySem.W.OpenLaw.row PySem.Challenge.rw_longstrike_k42_tables_of_kinds
abbrev lawView : Program := PySem.W.view lawRow.prog [64]
abbrev lawHook : PySem.W.Hook := hookW lawAds lawDefs exB
def lawObs (s : PySem.W.SharedT) : Bool × List (Option FdW) := obsW lawAds lawDefs exB (HandSHeadRun.getT s)
theorem lawObs_eq (s : PySem.W.SharedT) : lawObs s = lawHook.obs s.abs := obsW_eq (HandSHeadRun.getT_eq s)
theorem law_run0 (w : World) : HandSHeadRun.RunEq lawRow lawView lawHook lawObs 8000 lawNames (w.withFollow "special-get-raises" false) := by
  intro os
  kernel_rfl
theorem law_run1 (w : World) : HandSHeadRun.RunEq lawRow lawView lawHook lawObs 8000 lawNames (w.withFollow "special-get-raises" true) := by
  intro os
  kernel_rfl
theorem law_run (w : World) : HandSHeadRun.RunEq lawRow lawView lawHook lawObs 8000 lawNames w := by
  refine PySem.W.byRow2 "special-get-raises" (fun w => law_run0 w) (fun w => law_run1 w) w
theorem law_facts {w : World} {K : PySem.W.Frag} {h : Heap} {mg : Str → Option Value} {fa : Addr} (X : K.In h) (G : h.Ns mainGlobals mg) (hfa : mg "law" = some (.ref fa)) (hx : exB K = true) (c : (lawDefs.map fun d => wOf K d.at_) = lawDefs.map WD.val) :
    ∃ fd : FuncData, (∀ (s : Shared) (v : Value), BindsTo s fd ⟨[v], []⟩ [("_law_script", v)]) ∧ ∀ base : Heap, K.In base → base.Ns mainGlobals mg → FnG (PySem.Challenge.rw_longstrike_k42_tables_of_kinds).prog w K mg base CX0 12 fa fd ["_law_script"] (spLaw K) := by
  unfold exB at hx
  obtain ⟨hb0, hx⟩ := He.ba (show (ex0 K && _) = true from hx)
  unfold ex0 at hb0
  obtain ⟨h0, hb0⟩ := He.ba hb0
  obtain ⟨h1, hb0⟩ := He.ba hb0
  obtain ⟨h2, hb0⟩ := He.ba hb0
  obtain ⟨h3, hb0⟩ := He.ba hb0
  obtain ⟨h4, hb0⟩ := He.ba hb0
  obtain ⟨h5, hb0⟩ := He.ba hb0
  obtain ⟨h6, hb0⟩ := He.ba hb0
  obtain ⟨h7, hb0⟩ := He.ba hb0
  obtain ⟨h8, hb0⟩ := He.ba hb0
  obtain ⟨h9, hb0⟩ := He.ba hb0
  obtain ⟨h10, hb0⟩ := He.ba hb0
  have h11 := hb0
  obtain ⟨hb1, hx⟩ := He.ba (show (ex1 K && _) = true from hx)
  unfold ex1 at hb1
  obtain ⟨h12, hb1⟩ := He.ba hb1
  obtain ⟨h13, hb1⟩ := He.ba hb1
  obtain ⟨h14, hb1⟩ := He.ba hb1
  obtain ⟨h15, hb1⟩ := He.ba hb1
  obtain ⟨h16, hb1⟩ := He.ba hb1
  obtain ⟨h17, hb1⟩ := He.ba hb1
  obtain ⟨h18, hb1⟩ := He.ba hb1
  obtain ⟨h19, hb1⟩ := He.ba hb1
  obtain ⟨h20, hb1⟩ := He.ba hb1
  obtain ⟨h21, hb1⟩ := He.ba hb1
  obtain ⟨h22, hb1⟩ := He.ba hb1
  have h23 := hb1
  obtain ⟨hb2, hx⟩ := He.ba (show (ex2 K && _) = true from hx)
  unfold ex2 at hb2
  obtain ⟨h24, hb2⟩ := He.ba hb2
  obtain ⟨h25, hb2⟩ := He.ba hb2
  obtain ⟨h26, hb2⟩ := He.ba hb2
  obtain ⟨h27, hb2⟩ := He.ba hb2
  obtain ⟨h28, hb2⟩ := He.ba hb2
  obtain ⟨h29, hb2⟩ := He.ba hb2
  obtain ⟨h30, hb2⟩ := He.ba hb2
  obtain ⟨h31, hb2⟩ := He.ba hb2
  obtain ⟨h32, hb2⟩ := He.ba hb2
  obtain ⟨h33, hb2⟩ := He.ba hb2
  obtain ⟨h34, hb2⟩ := He.ba hb2
  have h35 := hb2
  obtain ⟨hb3, hx⟩ := He.ba (show (ex3 K && _) = true from hx)
  unfold ex3 at hb3
  obtain ⟨h36, hb3⟩ := He.ba hb3
  obtain ⟨h37, hb3⟩ := He.ba hb3
  obtain ⟨h38, hb3⟩ := He.ba hb3
  obtain ⟨h39, hb3⟩ := He.ba hb3
  obtain ⟨h40, hb3⟩ := He.ba hb3
  obtain ⟨h41, hb3⟩ := He.ba hb3
  obtain ⟨h42, hb3⟩ := He.ba hb3
  obtain ⟨h43, hb3⟩ := He.ba hb3
  obtain ⟨h44, hb3⟩ := He.ba hb3
  obtain ⟨h45, hb3⟩ := He.ba hb3
  obtain ⟨h46, hb3⟩ := He.ba hb3
  have h47 := hb3
  obtain ⟨hb4, hx⟩ := He.ba (show (ex4 K && _) = true from hx)
  unfold ex4 at hb4
  obtain ⟨h48, hb4⟩ := He.ba hb4
  obtain ⟨h49, hb4⟩ := He.ba hb4
  obtain ⟨h50, hb4⟩ := He.ba hb4
  obtain ⟨h51, hb4⟩ := He.ba hb4
  obtain ⟨h52, hb4⟩ := He.ba hb4
  obtain ⟨h53, hb4⟩ := He.ba hb4
  obtain ⟨h54, hb4⟩ := He.ba hb4
  obtain ⟨h55, hb4⟩ := He.ba hb4
  obtain ⟨h56, hb4⟩ := He.ba hb4
  obtain ⟨h57, hb4⟩ := He.ba hb4
  obtain ⟨h58, hb4⟩ := He.ba hb4
  have h59 := hb4
  obtain ⟨hb5, hx⟩ := He.ba (show (ex5 K && _) = true from hx)
  unfold ex5 at hb5
  obtain ⟨h60, hb5⟩ := He.ba hb5
  obtain ⟨h61, hb5⟩ := He.ba hb5
  obtain ⟨h62, hb5⟩ := He.ba hb5
  obtain ⟨h63, hb5⟩ := He.ba hb5
  obtain ⟨h64, hb5⟩ := He.ba hb5
  obtain ⟨h65, hb5⟩ := He.ba hb5
  obtain ⟨h66, hb5⟩ := He.ba hb5
  obtain ⟨h67, hb5⟩ := He.ba hb5
  obtain ⟨h68, hb5⟩ := He.ba hb5
  obtain ⟨h69, hb5⟩ := He.ba hb5
  obtain ⟨h70, hb5⟩ := He.ba hb5
  have h71 := hb5
  obtain ⟨hb6, hx⟩ := He.ba (show (ex6 K && _) = true from hx)
  unfold ex6 at hb6
  obtain ⟨h72, hb6⟩ := He.ba hb6
  obtain ⟨h73, hb6⟩ := He.ba hb6
  obtain ⟨h74, hb6⟩ := He.ba hb6
  obtain ⟨h75, hb6⟩ := He.ba hb6
  obtain ⟨h76, hb6⟩ := He.ba hb6
  obtain ⟨h77, hb6⟩ := He.ba hb6
  obtain ⟨h78, hb6⟩ := He.ba hb6
  obtain ⟨h79, hb6⟩ := He.ba hb6
  obtain ⟨h80, hb6⟩ := He.ba hb6
  obtain ⟨h81, hb6⟩ := He.ba hb6
  obtain ⟨h82, hb6⟩ := He.ba hb6
  have h83 := hb6
  obtain ⟨hb7, hx⟩ := He.ba (show (ex7 K && _) = true from hx)
  unfold ex7 at hb7
  obtain ⟨h84, hb7⟩ := He.ba hb7
  obtain ⟨h85, hb7⟩ := He.ba hb7
  obtain ⟨h86, hb7⟩ := He.ba hb7
  obtain ⟨h87, hb7⟩ := He.ba hb7
  obtain ⟨h88, hb7⟩ := He.ba hb7
  obtain ⟨h89, hb7⟩ := He.ba hb7
  obtain ⟨h90, hb7⟩ := He.ba hb7
  obtain ⟨h91, hb7⟩ := He.ba hb7
  obtain ⟨h92, hb7⟩ := He.ba hb7
  obtain ⟨h93, hb7⟩ := He.ba hb7
  obtain ⟨h94, hb7⟩ := He.ba hb7
  have h95 := hb7
  obtain ⟨hb8, hx⟩ := He.ba (show (ex8 K && _) = true from hx)
  unfold ex8 at hb8
  obtain ⟨h96, hb8⟩ := He.ba hb8
  obtain ⟨h97, hb8⟩ := He.ba hb8
  obtain ⟨h98, hb8⟩ := He.ba hb8
  obtain ⟨h99, hb8⟩ := He.ba hb8
  obtain ⟨h100, hb8⟩ := He.ba hb8
  obtain ⟨h101, hb8⟩ := He.ba hb8
  obtain ⟨h102, hb8⟩ := He.ba hb8
  obtain ⟨h103, hb8⟩ := He.ba hb8
  obtain ⟨h104, hb8⟩ := He.ba hb8
  obtain ⟨h105, hb8⟩ := He.ba hb8
  obtain ⟨h106, hb8⟩ := He.ba hb8
  have h107 := hb8
  obtain ⟨hb9, hx⟩ := He.ba (show (ex9 K && _) = true from hx)
  unfold ex9 at hb9
  obtain ⟨h108, hb9⟩ := He.ba hb9
  obtain ⟨h109, hb9⟩ := He.ba hb9
  obtain ⟨h110, hb9⟩ := He.ba hb9
  obtain ⟨h111, hb9⟩ := He.ba hb9
  obtain ⟨h112, hb9⟩ := He.ba hb9
  obtain ⟨h113, hb9⟩ := He.ba hb9
  obtain ⟨h114, hb9⟩ := He.ba hb9
  obtain ⟨h115, hb9⟩ := He.ba hb9
  obtain ⟨h116, hb9⟩ := He.ba hb9
  obtain ⟨h117, hb9⟩ := He.ba hb9
  obtain ⟨h118, hb9⟩ := He.ba hb9
  have h119 := hb9
  obtain ⟨hb10, hx⟩ := He.ba (show (ex10 K && _) = true from hx)
  unfold ex10 at hb10
  obtain ⟨h120, hb10⟩ := He.ba hb10
  obtain ⟨h121, hb10⟩ := He.ba hb10
  obtain ⟨h122, hb10⟩ := He.ba hb10
  obtain ⟨h123, hb10⟩ := He.ba hb10
  obtain ⟨h124, hb10⟩ := He.ba hb10
  obtain ⟨h125, hb10⟩ := He.ba hb10
  obtain ⟨h126, hb10⟩ := He.ba hb10
  obtain ⟨h127, hb10⟩ := He.ba hb10
  obtain ⟨h128, hb10⟩ := He.ba hb10
  obtain ⟨h129, hb10⟩ := He.ba hb10
  obtain ⟨h130, hb10⟩ := He.ba hb10
  have h131 := hb10
  obtain ⟨hb11, hx⟩ := He.ba (show (ex11 K && _) = true from hx)
  unfold ex11 at hb11
  obtain ⟨h132, hb11⟩ := He.ba hb11
  obtain ⟨h133, hb11⟩ := He.ba hb11
  obtain ⟨h134, hb11⟩ := He.ba hb11
  obtain ⟨h135, hb11⟩ := He.ba hb11
  obtain ⟨h136, hb11⟩ := He.ba hb11
  obtain ⟨h137, hb11⟩ := He.ba hb11
  obtain ⟨h138, hb11⟩ := He.ba hb11
  obtain ⟨h139, hb11⟩ := He.ba hb11
  obtain ⟨h140, hb11⟩ := He.ba hb11
  obtain ⟨h141, hb11⟩ := He.ba hb11
  obtain ⟨h142, hb11⟩ := He.ba hb11
  have h143 := hb11
  obtain ⟨hb12, hx⟩ := He.ba (show (ex12 K && _) = true from hx)
  unfold ex12 at hb12
  obtain ⟨h144, hb12⟩ := He.ba hb12
  obtain ⟨h145, hb12⟩ := He.ba hb12
  obtain ⟨h146, hb12⟩ := He.ba hb12
  obtain ⟨h147, hb12⟩ := He.ba hb12
  obtain ⟨h148, hb12⟩ := He.ba hb12
  obtain ⟨h149, hb12⟩ := He.ba hb12
  obtain ⟨h150, hb12⟩ := He.ba hb12
  obtain ⟨h151, hb12⟩ := He.ba hb12
  obtain ⟨h152, hb12⟩ := He.ba hb12
  obtain ⟨h153, hb12⟩ := He.ba hb12
  obtain ⟨h154, hb12⟩ := He.ba hb12
  have h155 := hb12
  obtain ⟨hb13, hx⟩ := He.ba (show (ex13 K && _) = true from hx)
  unfold ex13 at hb13
  obtain ⟨h156, hb13⟩ := He.ba hb13
  obtain ⟨h157, hb13⟩ := He.ba hb13
  obtain ⟨h158, hb13⟩ := He.ba hb13
  obtain ⟨h159, hb13⟩ := He.ba hb13
  obtain ⟨h160, hb13⟩ := He.ba hb13
  obtain ⟨h161, hb13⟩ := He.ba hb13
  obtain ⟨h162, hb13⟩ := He.ba hb13
  obtain ⟨h163, hb13⟩ := He.ba hb13
  obtain ⟨h164, hb13⟩ := He.ba hb13
  obtain ⟨h165, hb13⟩ := He.ba hb13
  obtain ⟨h166, hb13⟩ := He.ba hb13
  have h167 := hb13
  obtain ⟨hb14, hx⟩ := He.ba (show (ex14 K && _) = true from hx)
  unfold ex14 at hb14
  obtain ⟨h168, hb14⟩ := He.ba hb14
  obtain ⟨h169, hb14⟩ := He.ba hb14
  obtain ⟨h170, hb14⟩ := He.ba hb14
  obtain ⟨h171, hb14⟩ := He.ba hb14
  obtain ⟨h172, hb14⟩ := He.ba hb14
  obtain ⟨h173, hb14⟩ := He.ba hb14
  obtain ⟨h174, hb14⟩ := He.ba hb14
  obtain ⟨h175, hb14⟩ := He.ba hb14
  obtain ⟨h176, hb14⟩ := He.ba hb14
  obtain ⟨h177, hb14⟩ := He.ba hb14
  obtain ⟨h178, hb14⟩ := He.ba hb14
  have h179 := hb14
  have hb15 := hx
  unfold ex15 at hb15
  obtain ⟨h180, hb15⟩ := He.ba hb15
  obtain ⟨h181, hb15⟩ := He.ba hb15
  obtain ⟨h182, hb15⟩ := He.ba hb15
  obtain ⟨h183, hb15⟩ := He.ba hb15
  have h184 := hb15
  have a0 := He.eqO_ok h0
  obtain ⟨_, _, _, _, _, _, _, _, _, l0, c0, k0⟩ := pl_ok (wd_at c 0 rfl) rfl h1
  have a1 := He.eqO_ok h2
  obtain ⟨_, _, _, _, _, _, _, _, _, l1, c1, k1⟩ := pl_ok (wd_at c 1 rfl) rfl h3
  have a2 := He.eqO_ok h4
  obtain ⟨_, _, _, _, _, _, _, _, _, l2, c2, k2⟩ := pl_ok (wd_at c 2 rfl) rfl h5
  have a3 := He.eqO_ok h6
  obtain ⟨_, _, _, _, _, _, _, _, _, l3, c3, k3⟩ := pl_ok (wd_at c 3 rfl) rfl h7
  have a4 := He.eqO_ok h8
  obtain ⟨_, _, _, _, _, _, _, _, _, l4, c4, k4⟩ := pl_ok (wd_at c 4 rfl) rfl h9
  have a5 := He.eqO_ok h10
  obtain ⟨_, _, _, _, _, _, _, _, _, l5, c5, k5⟩ := pl_ok (wd_at c 5 rfl) rfl h11
  have a6 := He.eqO_ok h12
  obtain ⟨_, _, _, _, _, _, _, _, _, l6, c6, k6⟩ := pl_ok (wd_at c 6 rfl) rfl h13
  have a7 := He.eqO_ok h14
  obtain ⟨_, _, _, _, _, _, _, _, _, l7, c7, k7⟩ := pl_ok (wd_at c 7 rfl) rfl h15
  have a8 := He.eqO_ok h16
  obtain ⟨_, _, _, _, _, _, _, _, _, l8, c8, k8⟩ := pl_ok (wd_at c 8 rfl) rfl h17
  have a9 := He.eqO_ok h18
  obtain ⟨_, _, _, _, _, _, _, _, _, l9, c9, k9⟩ := pl_ok (wd_at c 9 rfl) rfl h19
  have a10 := He.eqO_ok h20
  obtain ⟨_, _, _, _, _, _, _, _, _, l10, c10, k10⟩ := pl_ok (wd_at c 10 rfl) rfl h21
  have a11 := He.eqO_ok h22
  obtain ⟨_, _, _, _, _, _, _, _, _, l11, c11, k11⟩ := pl_ok (wd_at c 11 rfl) rfl h23
  have a12 := He.eqO_ok h24
  obtain ⟨_, _, _, _, _, _, _, _, _, l12, c12, k12⟩ := pl_ok (wd_at c 12 rfl) rfl h25
  have a13 := He.eqO_ok h26
  obtain ⟨_, _, _, _, _, _, _, _, _, l13, c13, k13⟩ := pl_ok (wd_at c 13 rfl) rfl h27
  have a14 := He.eqO_ok h28
  obtain ⟨_, _, _, _, _, _, _, _, _, l14, c14, k14⟩ := pl_ok (wd_at c 14 rfl) rfl h29
  have a15 := He.eqO_ok h30
  obtain ⟨_, _, _, _, _, _, _, _, _, l15, c15, k15⟩ := pl_ok (wd_at c 15 rfl) rfl h31
  have a16 := He.eqO_ok h32
  obtain ⟨_, _, _, _, _, _, _, _, _, l16, c16, k16⟩ := pl_ok (wd_at c 16 rfl) rfl h33
  have a17 := He.eqO_ok h34
  obtain ⟨_, _, _, _, _, _, _, _, _, l17, c17, k17⟩ := pl_ok (wd_at c 17 rfl) rfl h35
  have a18 := He.eqO_ok h36
  obtain ⟨_, _, _, _, _, _, _, _, _, l18, c18, k18⟩ := pl_ok (wd_at c 18 rfl) rfl h37
  have a19 := He.eqO_ok h38
  obtain ⟨_, _, _, _, _, _, _, _, _, l19, c19, k19⟩ := pl_ok (wd_at c 19 rfl) rfl h39
  have a20 := He.eqO_ok h40
  obtain ⟨_, _, _, _, _, _, _, _, _, l20, c20, k20⟩ := pl_ok (wd_at c 20 rfl) rfl h41
  have a21 := He.eqO_ok h42
  obtain ⟨_, _, _, _, _, _, _, _, _, l21, c21, k21⟩ := pl_ok (wd_at c 21 rfl) rfl h43
  have a22 := He.eqO_ok h44
  obtain ⟨_, _, _, _, _, _, _, _, _, l22, c22, k22⟩ := pl_ok (wd_at c 22 rfl) rfl h45
  have a23 := He.eqO_ok h46
  obtain ⟨_, _, _, _, _, _, _, _, _, l23, c23, k23⟩ := pl_ok (wd_at c 23 rfl) rfl h47
  have a24 := He.eqO_ok h48
  obtain ⟨_, _, _, _, _, _, _, _, _, l24, c24, k24⟩ := pl_ok (wd_at c 24 rfl) rfl h49
  have a25 := He.eqO_ok h50
  obtain ⟨_, _, _, _, _, _, _, _, _, l25, c25, k25⟩ := pl_ok (wd_at c 25 rfl) rfl h51
  have a26 := He.eqO_ok h52
  obtain ⟨_, _, _, _, _, _, _, _, _, l26, c26, k26⟩ := pl_ok (wd_at c 26 rfl) rfl h53
  have a27 := He.eqO_ok h54
  obtain ⟨_, _, _, _, _, _, _, _, _, l27, c27, k27⟩ := pl_ok (wd_at c 27 rfl) rfl h55
  have a28 := He.eqO_ok h56
  obtain ⟨_, _, _, _, _, _, _, _, _, l28, c28, k28⟩ := pl_ok (wd_at c 28 rfl) rfl h57
  have aC_Book := He.eqO_ok h58
  have pg_Book := h59
  have hd_Book := h60
  have po_Book := h61
  have sa_Book := He.eqO_ok h62
  have mk_Book := h63
  have kc_Book := h64
  have n_Book_kinds := He.eqO_ok h65
  have n_Book_columns := He.eqO_ok h66
  have n_Book_menu := He.eqO_ok h67
  have n_Book_checks := He.eqO_ok h68
  have aC_KindWatch := He.eqO_ok h69
  have pg_KindWatch := h70
  have hd_KindWatch := h71
  have po_KindWatch := h72
  have sa_KindWatch := He.eqO_ok h73
  have mk_KindWatch := h74
  have kc_KindWatch := h75
  have n_KindWatchbegin := He.eqO_ok h76
  have n_KindWatchcolumn := He.eqO_ok h77
  have n_KindWatchkinds_of_rows := He.eqO_ok h78
  have n_KindWatchhas := He.eqO_ok h79
  have n_KindWatch_is_open := He.eqO_ok h80
  have n_KindWatch_is_markable := He.eqO_ok h81
  have n_KindWatch_parts := He.eqO_ok h82
  have aC_ColumnWatch := He.eqO_ok h83
  have pg_ColumnWatch := h84
  have hd_ColumnWatch := h85
  have po_ColumnWatch := h86
  have sa_ColumnWatch := He.eqO_ok h87
  have mk_ColumnWatch := h88
  have kc_ColumnWatch := h89
  have n_ColumnWatchbegin := He.eqO_ok h90
  have n_ColumnWatchcolumn := He.eqO_ok h91
  have n_ColumnWatchkinds_of_rows := He.eqO_ok h92
  have n_ColumnWatchhas := He.eqO_ok h93
  have n_ColumnWatch_piece := He.eqO_ok h94
  have n_ColumnWatch_is_home_open := He.eqO_ok h95
  have n_ColumnWatch_is_goal_open := He.eqO_ok h96
  have n_ColumnWatch_is_goal_markable := He.eqO_ok h97
  have n_ColumnWatch_has_other_way := He.eqO_ok h98
  have n_ColumnWatch_parts := He.eqO_ok h99
  have a29 := He.eqO_ok h100
  have i29 := h101
  obtain ⟨_, _, _, _, _, _, _, _, _, _, l29, c29, k29, lT29⟩ := df_ok (wd_at c 29 rfl) rfl h102
  have a30 := He.eqO_ok h103
  have i30 := h104
  obtain ⟨_, _, _, _, _, _, _, _, _, l30, c30, k30⟩ := pl_ok (wd_at c 30 rfl) rfl h105
  have a31 := He.eqO_ok h106
  have i31 := h107
  obtain ⟨_, _, _, _, _, _, _, _, _, l31, c31, k31⟩ := pl_ok (wd_at c 31 rfl) rfl h108
  have a32 := He.eqO_ok h109
  have i32 := h110
  obtain ⟨_, _, _, _, _, _, _, _, _, l32, c32, k32⟩ := pl_ok (wd_at c 32 rfl) rfl h111
  have a33 := He.eqO_ok h112
  have i33 := h113
  obtain ⟨_, _, _, _, _, _, _, _, _, l33, c33, k33⟩ := pl_ok (wd_at c 33 rfl) rfl h114
  have a34 := He.eqO_ok h115
  have i34 := h116
  obtain ⟨_, _, _, _, _, _, _, _, _, l34, c34, k34⟩ := pl_ok (wd_at c 34 rfl) rfl h117
  have a35 := He.eqO_ok h118
  have i35 := h119
  obtain ⟨_, _, _, _, _, _, _, _, _, l35, c35, k35⟩ := pl_ok (wd_at c 35 rfl) rfl h120
  have a36 := He.eqO_ok h121
  have i36 := h122
  obtain ⟨_, _, _, _, _, _, _, _, _, l36, c36, k36⟩ := pl_ok (wd_at c 36 rfl) rfl h123
  have a37 := He.eqO_ok h124
  have i37 := h125
  obtain ⟨_, _, _, _, _, _, _, _, _, l37, c37, k37⟩ := pl_ok (wd_at c 37 rfl) rfl h126
  have a38 := He.eqO_ok h127
  have i38 := h128
  obtain ⟨_, _, _, _, _, _, _, _, _, l38, c38, k38⟩ := pl_ok (wd_at c 38 rfl) rfl h129
  have a39 := He.eqO_ok h130
  have i39 := h131
  obtain ⟨_, _, _, _, _, _, _, _, _, l39, c39, k39⟩ := pl_ok (wd_at c 39 rfl) rfl h132
  have aE_BadName := He.eqO_ok h133
  have iE_BadName := He.eqO_ok h134
  obtain ⟨_, _, _, _, _, _, lE_BadName, cE_BadName⟩ := er_ok (wd_at c 40 rfl) rfl h135
  have bE_BadName := h136
  have aE_NameInUse := He.eqO_ok h137
  have iE_NameInUse := He.eqO_ok h138
  obtain ⟨_, _, _, _, _, _, lE_NameInUse, cE_NameInUse⟩ := er_ok (wd_at c 41 rfl) rfl h139
  have bE_NameInUse := h140
  have aE_UnknownKind := He.eqO_ok h141
  have iE_UnknownKind := He.eqO_ok h142
  obtain ⟨_, _, _, _, _, _, lE_UnknownKind, cE_UnknownKind⟩ := er_ok (wd_at c 42 rfl) rfl h143
  have bE_UnknownKind := h144
  have aE_BadRule := He.eqO_ok h145
  have iE_BadRule := He.eqO_ok h146
  obtain ⟨_, _, _, _, _, _, lE_BadRule, cE_BadRule⟩ := er_ok (wd_at c 43 rfl) rfl h147
  have bE_BadRule := h148
  have aE_UnknownCheck := He.eqO_ok h149
  have iE_UnknownCheck := He.eqO_ok h150
  obtain ⟨_, _, _, _, _, _, lE_UnknownCheck, cE_UnknownCheck⟩ := er_ok (wd_at c 44 rfl) rfl h151
  have bE_UnknownCheck := h152
  have z_int := He.eqO_ok h153
  have z_len := He.eqO_ok h154
  have z_range := He.eqO_ok h155
  have z_list := He.eqO_ok h156
  have z_tuple := He.eqO_ok h157
  have z_dict := He.eqO_ok h158
  have z_isinstance := He.eqO_ok h159
  have z_all := He.eqO_ok h160
  have z_any := He.eqO_ok h161
  have z_repr := He.eqO_ok h162
  have z_str := He.eqO_ok h163
  have z_enumerate := He.eqO_ok h164
  have z_zip := He.eqO_ok h165
  obtain ⟨_, g_STRIKE⟩ := str_ok h166
  obtain ⟨_, g_LETTERS⟩ := str_ok h167
  obtain ⟨_, g_LONGEST_NAME⟩ := int_ok h168
  have g_RULES := He.eqO_ok h169
  have kt_RULES := tup_ok h170
  have g_COLUMN_CHECKS := He.eqO_ok h171
  have kt_COLUMN_CHECKS := tup_ok h172
  have g_KIND_CHECKS := He.eqO_ok h173
  have kt_KIND_CHECKS := tup_ok h174
  have g_BOOK_CHECKS := He.eqO_ok h175
  have kt_BOOK_CHECKS := tup_ok h176
  have g_X_WORDS := He.eqO_ok h177
  have kt_X_WORDS := tup_ok h178
  have g_OWNERS := He.eqO_ok h179
  have kt_OWNERS := tup_ok h180
  have g_Y_WORDS := He.eqO_ok h181
  have kt_Y_WORDS := tup_ok h182
  have g_Z_WORDS := He.eqO_ok h183
  have kt_Z_WORDS := tup_ok h184
  exact all_mk (l := PySem.Challenge.rw_longstrike_k42_tables_of_kinds) (w := w) X G hfa a0 l0 c0 k0 a1 l1 c1 k1 a2 l2 c2 k2 a3 l3 c3 k3 a4 l4 c4 k4 a5 l5 c5 k5 a6 l6 c6 k6 a7 l7 c7 k7 a8 l8 c8 k8 a9 l9 c9 k9 a10 l10 c10 k10 a11 l11 c11 k11 a12 l12 c12 k12 a13 l13 c13 k13 a14 l14 c14 k14 a15 l15 c15 k15 a16 l16 c16 k16 a17 l17 c17 k17 a18 l18 c18 k18 a19 l19 c19 k19 a20 l20 c20 k20 a21 l21 c21 k21 a22 l22 c22 k22 a23 l23 c23 k23 a24 l24 c24 k24 a25 l25 c25 k25 a26 l26 c26 k26 a27 l27 c27 k27 a28 l28 c28 k28 aC_Book pg_Book hd_Book po_Book sa_Book mk_Book kc_Book n_Book_kinds n_Book_columns n_Book_menu n_Book_checks aC_KindWatch pg_KindWatch hd_KindWatch po_KindWatch sa_KindWatch mk_KindWatch kc_KindWatch n_KindWatchbegin n_KindWatchcolumn n_KindWatchkinds_of_rows n_KindWatchhas n_KindWatch_is_open n_KindWatch_is_markable n_KindWatch_parts aC_ColumnWatch pg_ColumnWatch hd_ColumnWatch po_ColumnWatch sa_ColumnWatch mk_ColumnWatch kc_ColumnWatch n_ColumnWatchbegin n_ColumnWatchcolumn n_ColumnWatchkinds_of_rows n_ColumnWatchhas n_ColumnWatch_piece n_ColumnWatch_is_home_open n_ColumnWatch_is_goal_open n_ColumnWatch_is_goal_markable n_ColumnWatch_has_other_way n_ColumnWatch_parts a29 i29 l29 c29 k29 lT29 rfl rfl a30 i30 l30 c30 k30 a31 i31 l31 c31 k31 a32 i32 l32 c32 k32 a33 i33 l33 c33 k33 a34 i34 l34 c34 k34 a35 i35 l35 c35 k35 a36 i36 l36 c36 k36 a37 i37 l37 c37 k37 a38 i38 l38 c38 k38 a39 i39 l39 c39 k39 aE_BadName iE_BadName lE_BadName cE_BadName bE_BadName aE_NameInUse iE_NameInUse lE_NameInUse cE_NameInUse bE_NameInUse aE_UnknownKind iE_UnknownKind lE_UnknownKind cE_UnknownKind bE_UnknownKind aE_BadRule iE_BadRule lE_BadRule cE_BadRule bE_BadRule aE_UnknownCheck iE_UnknownCheck lE_UnknownCheck cE_UnknownCheck bE_UnknownCheck z_int z_len z_range z_list z_tuple z_dict z_isinstance z_all z_any z_repr z_str z_enumerate z_zip g_STRIKE g_LETTERS g_LONGEST_NAME g_RULES kt_RULES g_COLUMN_CHECKS kt_COLUMN_CHECKS g_KIND_CHECKS kt_KIND_CHECKS g_BOOK_CHECKS kt_BOOK_CHECKS g_X_WORDS kt_X_WORDS g_OWNERS kt_OWNERS g_Y_WORDS kt_Y_WORDS g_Z_WORDS kt_Z_WORDS
end Ls
open PySem PySem.W PySem.Calls PyProof.Rows
theorem PySem.Challenge.cw_longstrike_k42_tables_of_kinds_holds : PySem.Challenge.rw_longstrike_k42_tables_of_kinds.Holds := by
  w_on; o_law
  refine HandSHeadRun.head_any (r := OpenLaw.row PySem.Challenge.rw_longstrike_k42_tables_of_kinds) (q := Ls.lawView) (H := Ls.lawHook) (ob := Ls.lawObs) (M := 8000) (loose := Ls.lawNames) (d := HandSHeadRun.topDef (OpenLaw.row PySem.Challenge.rw_longstrike_k42_tables_of_kinds).prog 64) (kwd := []) Ls.lawObs_eq
    (by kernel_rfl) (fun s => by kernel_rfl) Ls.law_run (by kernel_rfl) (by kernel_rfl) (by kernel_rfl) (by rfl) (by first | assumption | decide +kernel) (by decide +kernel) ⟨rfl, rfl, rfl, rfl, rfl, by decide +kernel⟩ ?hw ?hc
  case hw => w_witness2
  case hc =>
    refine Ls.walk_ofGE (l := PySem.Challenge.rw_longstrike_k42_tables_of_kinds) (n := 63) (k := 12) (x := "_law_script") rfl (by decide) (by kernel_rfl) ⟨rfl, by decide, by decide⟩ ?F
    intro w mg fa h Y G hmg0
    obtain ⟨K, KX, hx, c⟩ := Y
    have hmg : mg ("law" : PySem.Str) = some (.ref fa) := by
      have e : (HandSHeadRun.topDef (OpenLaw.row PySem.Challenge.rw_longstrike_k42_tables_of_kinds).prog 64).name = ("law" : PySem.Str) := by kernel_rfl
      rw [← e]
      exact hmg0
    obtain ⟨fd, hb, hF⟩ := Ls.law_facts (w := w) KX G hmg hx c
    exact ⟨K, fd, Ls.spLaw K, KX, hb, fun H a ns hl hS => ⟨a, ns, rfl, hS, hl, fun _ => rfl⟩, hF⟩

import PyProof.Rows.All
import Wide.All
import OpenK.AllK
import Wide.FinOn
import HandS.Base
import HandS.Call
import HandS.HeadHook1
import HandS.HeadHook2
import HandS.ForMost
import HandS.Wide
import HandS.DictComp
import HandS.Codes
import HandS.IsInst
import HandS.Conv
import HandS.Walk
import HandS.Defaults
import HandS.More
import HandS.Dict
import HandS.HeadHook3
import HandS.Nested
import HandS.ExcInit
import HandS.ExcField
import HandS.MakeKw
import KE.KSuper
import KE.KExcSuper
import HandS.ExcOwn
import HandS.TryOnly
import HandS.TryMany
import HandS.Flow
import HandS.WordsExc
import HandS.List
import HandS.Set
import HandS.Strs
import HandS.TupSets
import HandS.ListItems
import HandS.Text
import HandS.TupAny
import HandS.StrMore
import HandS.SortInts
import HandS.FStr
import KE.GoesEnum
import KE.GoesMore
import HandS.Zip
import KE.GoesZip
import HandS.Iter
import HandS.SetBool
import HandS.SetKeys
import HandS.NoneIn
import HandS.RaiseMore
import HandS.Star
import PyProof.ReprRoads
import KE.KEqNest
import PyProof.NeKinds
import PyProof.TupleKey
import PyProof.FactsAll.NoneType
import PyProof.EqKinds
import KE.IntTextLaws
import KE.IntTextText
import KE.KStateDown
import HandS.Head0
import HandS.Head1
import HandS.Head2
import HandS.HeadEnd
import PySem.Challenge.RW_longstrike_k33_weaving_lines_refused
set_option Elab.async false
set_option linter.all false
set_option maxRecDepth 100000
set_option maxHeartbeats 4000000
set_option exponentiation.threshold 20000
/-! facts of a top that is run in the kernel: every def by what it is made of, all the rest by one Bool -/
namespace Ls
open PySem PySem.Spec PyProof.Rows L2
abbrev FdW : Type := Str × Str × Arguments × FuncBody × Scope × Addr × List Str × Addr
structure WD where
  at_ : Str × Option Str
  name : Str
  qual : Str
  params : Arguments
  body : List Stmt
  scope : Scope
  cl : List Str
def WD.val (d : WD) : Option FdW := some (d.name, d.qual, d.params, .stmts d.body, d.scope, mainGlobals, d.cl, builtinsNs)
def fdAt (K : PySem.W.Frag) (p : Str × Option Str) : Option FuncData := match K.lookup (He.fAd K p) with
  | some ⟨_, _, .func fd, _⟩ => some fd
  | _ => none
def wOf (K : PySem.W.Frag) (p : Str × Option Str) : Option FdW := match fdAt K p with
  | some fd => some (fd.name, fd.qualname, fd.params, fd.body, fd.scope, fd.globals, fd.closure.map (·.1), fd.builtins)
  | none => none
theorem fdAt_ok {K : PySem.W.Frag} {p : Str × Option Str} {fd : FuncData} (h : fdAt K p = some fd) : ∃ oc od sl, K.lookup (He.fAd K p) = some ⟨oc, od, .func fd, sl⟩ := by
  unfold fdAt at h
  cases q : K.lookup (He.fAd K p) with
  | none =>
    rw [q] at h
    cases h
  | some o =>
    obtain ⟨oc, od, dt, sl⟩ := o
    rw [q] at h
    cases dt with
    | func f =>
      have e : f = fd := Option.some.inj h
      rw [e]
      exact ⟨oc, od, sl, rfl⟩
    | _ => cases h
theorem wd_ok {K : PySem.W.Frag} {d : WD} (h : wOf K d.at_ = d.val) : ∃ (fd : FuncData) (oc : Value) (od : Option Addr) (sl : Array (Option Value)), fdAt K d.at_ = some fd ∧ K.lookup (He.fAd K d.at_) = some ⟨oc, od, .func fd, sl⟩ ∧
    fd = PySem.W.fnX d.name d.qual d.params d.body d.scope fd.closure fd.defaults fd.kwdefaults fd.doc fd.pyModule fd.annotations fd.code fd.closureTuple ∧ fd.closure.map (·.1) = d.cl := by
  unfold wOf WD.val at h
  cases q : fdAt K d.at_ with
  | none =>
    rw [q] at h
    cases h
  | some fd =>
    rw [q] at h
    obtain ⟨oc, od, sl, l⟩ := fdAt_ok q
    obtain ⟨n1, n2, n3, n4, n5, n6, n7, n8, n9, n10, n11, n12, n13, n14, n15⟩ := fd
    simp only [Option.some.injEq, Prod.mk.injEq] at h
    obtain ⟨h1, h2, h3, h4, h5, h6, h7, h8⟩ := h
    subst h1 h2 h3 h4 h5 h6 h8
    exact ⟨_, oc, od, sl, rfl, l, rfl, h7⟩
/-- a def without defaults -/
def plB (K : PySem.W.Frag) (p : Str × Option Str) (q : Str) : Bool := match fdAt K p with
  | some fd => (match fd.defaults with
    | .none => PySem.W.codeIn K fd.code q
    | _ => false) && PySem.W.keepIn K (.ref (He.fAd K p))
  | none => false
theorem pl_ok {K : PySem.W.Frag} {d : WD} (h : wOf K d.at_ = d.val) (hc : d.cl = []) (b : plB K d.at_ d.qual = true) : ∃ (oc : Value) (od : Option Addr) (kV dc pm : Value) (an : Option Addr) (cd ct : Value) (sl : Array (Option Value)),
    K.lookup (He.fAd K d.at_) = some ⟨oc, od, .func (PySem.W.fnOf d.name d.qual d.params d.body d.scope .none kV dc pm an cd ct), sl⟩ ∧ PySem.W.codeIn K cd d.qual = true ∧ PySem.W.keepIn K (.ref (He.fAd K d.at_)) = true := by
  obtain ⟨fd, oc, od, sl, q, l, e, c⟩ := wd_ok h
  unfold plB at b
  rw [q] at b
  obtain ⟨b1, b2⟩ := He.ba b
  have hcl : fd.closure = [] := List.map_eq_nil_iff.mp (c.trans hc)
  cases hd : fd.defaults with
  | none =>
    rw [hd] at b1
    rw [hcl, hd] at e
    rw [e] at l
    exact ⟨oc, od, _, _, _, _, _, _, sl, l, b1, b2⟩
  | _ => rw [hd] at b1; cases b1
/-- an own error's maker: one cell, no defaults -/
def erB (K : PySem.W.Frag) (p : Str × Option Str) (q : Str) : Bool := match fdAt K p with
  | some fd => (match fd.defaults, fd.kwdefaults, fd.annotations, fd.code with
    | .none, .none, none, .ref cda => PySem.W.codeIn K (.ref cda) q
    | _, _, _, _ => false)
  | none => false
def cellOf (K : PySem.W.Frag) (p : Str × Option Str) : Addr := match fdAt K p with
  | some fd => (match fd.closure with
    | [(_, a)] => a
    | _ => 0)
  | none => 0
def codeAd (K : PySem.W.Frag) (p : Str × Option Str) : Addr := match fdAt K p with
  | some fd => (match fd.code with
    | .ref a => a
    | _ => 0)
  | none => 0
theorem er_ok {K : PySem.W.Frag} {d : WD} (h : wOf K d.at_ = d.val) (hc : d.cl = (["__class__"] : List Str)) (b : erB K d.at_ d.qual = true) : ∃ (oc : Value) (od : Option Addr) (dc pm ct : Value) (sl : Array (Option Value)),
    K.lookup (He.fAd K d.at_) = some ⟨oc, od, .func (PySem.W.fnX d.name d.qual d.params d.body d.scope [("__class__", cellOf K d.at_)] .none .none dc pm none (.ref (codeAd K d.at_)) ct), sl⟩ ∧ PySem.W.codeIn K (.ref (codeAd K d.at_)) d.qual = true := by
  obtain ⟨fd, oc, od, sl, q, l, e, c⟩ := wd_ok h
  unfold erB at b
  rw [q] at b
  rw [hc] at c
  have e1 : ∃ a : Addr, fd.closure = ([("__class__", a)] : List (Str × Addr)) := by
    cases hq : fd.closure with
    | nil => rw [hq] at c; cases c
    | cons z r =>
      rw [hq, List.map_cons] at c
      obtain ⟨c1, c2⟩ := List.cons.inj c
      rw [List.map_eq_nil_iff.mp c2]
      exact ⟨z.2, by rw [← c1]⟩
  obtain ⟨a, e1⟩ := e1
  have ec : cellOf K d.at_ = a := by
    unfold cellOf
    rw [q]
    show (match fd.closure with | [(_, a)] => a | _ => 0) = a
    rw [e1]
  cases h1 : fd.defaults with
  | none =>
    cases h2 : fd.kwdefaults with
    | none =>
      cases h3 : fd.annotations with
      | none =>
        cases h4 : fd.code with
        | ref cda =>
          have ed : codeAd K d.at_ = cda := by
            unfold codeAd
            rw [q]
            show (match fd.code with | .ref a => a | _ => 0) = cda
            rw [h4]
          have b2 : PySem.W.codeIn K (.ref cda) d.qual = true := by
            have := b
            simp only [h1, h2, h3, h4] at this
            exact this
          rw [ec, ed]
          rw [e1, h1, h2, h3, h4] at e
          rw [e] at l
          exact ⟨oc, od, _, _, _, sl, l, b2⟩
        | _ => simp only [h1, h2, h3, h4] at b; cases b
      | some x => simp only [h1, h2, h3] at b; cases b
    | _ => simp only [h1, h2] at b; cases b
  | _ => simp only [h1] at b; cases b
/-- two defaults, tuples of the written part -/
def dfT (K : PySem.W.Frag) (p : Str × Option Str) : Addr := match fdAt K p with
  | some fd => (match fd.defaults with
    | .ref T => T
    | _ => 0)
  | none => 0
def dfE (K : PySem.W.Frag) (p : Str × Option Str) : Addr × Addr := match K.lookup (dfT K p) with
  | some ⟨_, _, .seq its _, _⟩ => (match its.toList with
    | [.ref a, .ref b] => (a, b)
    | _ => (0, 0))
  | _ => (0, 0)
def tup2B (K : PySem.W.Frag) (T : Addr) : Bool := match K.lookup T with
  | some ⟨.type c, none, .seq its _, sl⟩ => decide (c = "tuple") && (sl.isEmpty && (match its.toList with
    | [.ref _, .ref _] => true
    | _ => false))
  | _ => false
theorem tup2_ok {K : PySem.W.Frag} {p : Str × Option Str} (h : tup2B K (dfT K p) = true) : ∃ n, K.lookup (dfT K p) = some { cls := .type "tuple", dict := none, data := .seq #[.ref (dfE K p).1, .ref (dfE K p).2] n, slots := #[] } := by
  unfold tup2B at h
  have ee : ∀ {its : Array Value} {n : Nat} {oc : Value} {od : Option Addr} {sl : Array (Option Value)} {a b : Addr}, K.lookup (dfT K p) = some ⟨oc, od, .seq its n, sl⟩ → its.toList = [.ref a, .ref b] → dfE K p = (a, b) := fun {its n oc od sl a b} l e => by
    unfold dfE
    rw [l]
    show (match its.toList with | [.ref a, .ref b] => (a, b) | _ => (0, 0)) = (a, b)
    rw [e]
  cases q : K.lookup (dfT K p) with
  | none =>
    rw [q] at h
    cases h
  | some o =>
    obtain ⟨oc, od, dt, sl⟩ := o
    rw [q] at h
    cases oc with
    | type c =>
      cases od with
      | none =>
        cases dt with
        | seq its n =>
          obtain ⟨h1, h2⟩ := He.ba h
          obtain ⟨h3, h4⟩ := He.ba h2
          have h4 : (match its.toList with | [.ref _, .ref _] => true | _ => false) = true := h4
          obtain ⟨a, b, e⟩ : ∃ a b, its.toList = [.ref a, .ref b] := by
            split at h4
            · rename_i a b e
              exact ⟨a, b, e⟩
            · cases h4
          have ei : its = #[.ref a, .ref b] := by
            rw [← Array.toArray_toList (xs := its), e]
          refine ⟨n, ?_⟩
          rw [ee q e, of_decide_eq_true h1, Array.isEmpty_iff.mp h3, ei]
        | _ => cases h
      | some d => cases dt <;> cases h
    | _ => cases od <;> cases dt <;> cases h
def dfB (K : PySem.W.Frag) (p : Str × Option Str) (q : Str) : Bool := match fdAt K p with
  | some fd => (match fd.defaults with
    | .ref _ => PySem.W.codeIn K fd.code q
    | _ => false) && (PySem.W.keepIn K (.ref (He.fAd K p)) && tup2B K (dfT K p))
  | none => false
theorem df_ok {K : PySem.W.Frag} {d : WD} (h : wOf K d.at_ = d.val) (hc : d.cl = []) (b : dfB K d.at_ d.qual = true) : ∃ (oc : Value) (od : Option Addr) (kV dc pm : Value) (an : Option Addr) (cd ct : Value) (sl : Array (Option Value)) (n : Nat),
    K.lookup (He.fAd K d.at_) = some ⟨oc, od, .func (PySem.W.fnOf d.name d.qual d.params d.body d.scope (.ref (dfT K d.at_)) kV dc pm an cd ct), sl⟩ ∧ PySem.W.codeIn K cd d.qual = true ∧ PySem.W.keepIn K (.ref (He.fAd K d.at_)) = true ∧
    K.lookup (dfT K d.at_) = some { cls := .type "tuple", dict := none, data := .seq #[.ref (dfE K d.at_).1, .ref (dfE K d.at_).2] n, slots := #[] } := by
  obtain ⟨fd, oc, od, sl, q, l, e, c⟩ := wd_ok h
  unfold dfB at b
  rw [q] at b
  obtain ⟨b1, b2⟩ := He.ba b
  obtain ⟨b3, b4⟩ := He.ba b2
  obtain ⟨n, lt⟩ := tup2_ok b4
  have hcl : fd.closure = [] := List.map_eq_nil_iff.mp (c.trans hc)
  cases hd : fd.defaults with
  | ref T =>
    have eT : dfT K d.at_ = T := by
      unfold dfT
      rw [q]
      show (match fd.defaults with | .ref T => T | _ => 0) = T
      rw [hd]
    rw [hd] at b1
    rw [hcl, hd] at e
    rw [e, ← eT] at l
    exact ⟨oc, od, _, _, _, _, _, _, sl, n, l, b1, b3, lt⟩
  | _ => rw [hd] at b1; cases b1
/-! ### constants -/
def strB (K : PySem.W.Frag) (x z : Str) : Bool := match PySem.W.nsIn K mainGlobals x with
  | some (some (.str y _)) => decide (y = z)
  | _ => false
theorem str_ok {K : PySem.W.Frag} {x z : Str} (h : strB K x z = true) : ∃ t, PySem.W.nsIn K mainGlobals x = some (some (.str z t)) := by
  unfold strB at h
  split at h
  · rename_i y t q
    rw [q, of_decide_eq_true h]
    exact ⟨t, rfl⟩
  · cases h
def intB (K : PySem.W.Frag) (x : Str) (i : Int) : Bool := match PySem.W.nsIn K mainGlobals x with
  | some (some (.int j _)) => decide (j = i)
  | _ => false
theorem int_ok {K : PySem.W.Frag} {x : Str} {i : Int} (h : intB K x i = true) : ∃ t, PySem.W.nsIn K mainGlobals x = some (some (.int i t)) := by
  unfold intB at h
  split at h
  · rename_i y t q
    rw [q, of_decide_eq_true h]
    exact ⟨t, rfl⟩
  · cases h
def strsB : List Value → List Str → Bool
  | [], [] => true
  | .str y _ :: r, z :: s => decide (y = z) && strsB r s
  | _, _ => false
theorem strs_ok : ∀ {vs : List Value} {ws : List Str}, strsB vs ws = true → Vals (ws.map V.str) vs
  | [], [], _ => .nil
  | .str y t :: r, z :: s, h => by
    obtain ⟨h1, h2⟩ := He.ba h
    rw [of_decide_eq_true h1]
    exact .cons ⟨t, rfl⟩ (strs_ok h2)
  | [], _ :: _, h => by cases h
  | .str _ _ :: _, [], h => by cases h
  | .none :: _, ws, h => by cases ws <;> cases h
  | .bool _ :: _, ws, h => by cases ws <;> cases h
  | .ref _ :: _, ws, h => by cases ws <;> cases h
  | .int _ _ :: _, ws, h => by cases ws <;> cases h
def tupB (K : PySem.W.Frag) (a : Addr) (ws : List Str) : Bool := match K.lookup a with
  | some ⟨.type c, none, .seq its _, sl⟩ => decide (c = "tuple") && (sl.isEmpty && (decide (its.size ≤ 100) && strsB its.toList ws))
  | _ => false
theorem tup_ok {K : PySem.W.Frag} {a : Addr} {ws : List Str} (h : tupB K a ws = true) : ∃ (its : Array Value) (n : Nat), K.lookup a = some { cls := .type "tuple", dict := none, data := .seq its n, slots := #[] } ∧ its.size ≤ sizeLine ∧ Vals (ws.map V.str) its.toList := by
  unfold tupB at h
  split at h
  · rename_i c its n sl q
    obtain ⟨h1, h2⟩ := He.ba h
    obtain ⟨h3, h4⟩ := He.ba h2
    obtain ⟨h5, h6⟩ := He.ba h4
    refine ⟨its, n, ?_, Nat.le_trans (of_decide_eq_true h5) (by decide), strs_ok h6⟩
    rw [q, of_decide_eq_true h1, Array.isEmpty_iff.mp h3]
  · cases h
/-! ### the Hook: as are the addresses that are asked -/
def obsW (as : List Addr) (ds : List WD) (ex : PySem.W.Frag → Bool) (g : Addr → Option Obj) : Bool × List (Option FdW) := (ex (He.frG g as), ds.map fun d => wOf (He.frG g as) d.at_)
def hookW (as : List Addr) (ds : List WD) (ex : PySem.W.Frag → Bool) : PySem.W.Hook where
  α := Bool × List (Option FdW)
  obs := fun s => obsW as ds ex s.heap.get?
  val := fun _ => (true, ds.map WD.val)
  says := fun _ h => ∃ K : PySem.W.Frag, K.In h ∧ ex K = true ∧ (ds.map fun d => wOf K d.at_) = ds.map WD.val
  of := fun _ _ e => ⟨_, He.frG_in, congrArg (fun z => z.1) e, congrArg (fun z => z.2) e⟩
  keeps := fun _ _ _ ⟨K, hK, c⟩ k => ⟨K, PySem.W.Frag.In.keeps hK k, c⟩
theorem obsW_eq {as : List Addr} {ds : List WD} {ex : PySem.W.Frag → Bool} {g : Addr → Option Obj} {s : Shared} (h : ∀ a, g a = s.heap.get? a) : obsW as ds ex g = (hookW as ds ex).obs s := by
  have e : g = s.heap.get? := funext h
  rw [e]
  rfl
theorem wd_at {K : PySem.W.Frag} {ds : List WD} (c : (ds.map fun d => wOf K d.at_) = ds.map WD.val) (i : Nat) {d : WD} (h : ds[i]? = some d) : wOf K d.at_ = d.val := by
  have e := congrArg (fun l => l[i]?) c
  simp only [List.getElem?_map, h, Option.map_some, Option.some.injEq] at e
  exact e
end Ls
namespace Ls
open PySem PySem.Spec PyProof.Rows L2

/-! ### calls in short -/
/-- a def of the module that keeps a promise: where it stands, how it is bound -/
structure Own (P : Program) (w : World) (K : PySem.W.Frag) (mg : Str → Option Value) (base : Heap) (CX : CXT) (k : Nat) (x : Str) (ps : List Str) (sp : Sp) : Prop where
  ex : ∃ (f : Addr) (fd : FuncData), FnOk P w K mg base CX k f fd ps sp ∧ mg x = some (.ref f) ∧ PySem.W.keepIn K (.ref f) = true ∧ Binds K fd ps []
/-- a method of the class at C -/
structure OwnM (P : Program) (w : World) (K : PySem.W.Frag) (mg : Str → Option Value) (base : Heap) (CX : CXT) (k : Nat) (C : Addr) (m : Str) (ps : List Str) (sp : Sp) : Prop where
  cl : Cls K C
  ex : ∃ (f : Addr) (fd : FuncData), FnOk P w K mg base CX k f fd ps sp ∧ Meth K C m f ∧ Binds K fd ps []
/-- a class that is called -/
structure OwnC (P : Program) (w : World) (K : PySem.W.Frag) (mg : Str → Option Value) (base : Heap) (CX : CXT) (k : Nat) (C : Addr) (x : Str) (ps : List Str) (sp : Sp) : Prop where
  ex : ∃ (f : Addr) (fd : FuncData), FnOk P w K mg base CX k f fd ps sp ∧ mg x = some (.ref C) ∧ Mk K C f ∧ Binds K fd ps []
section
variable {X : Cx} {k j : Nat} {x m : Str} {ps : List Str} {sp : Sp} {p pos apos : Pos} {e o : Expr} {es : List Expr} {t : TA} {ta : TE} {C : Addr}
theorem own_call (O : Own X.prog X.w X.K X.mg X.base CX0 k x ps sp) (hr : Room j X.A) (hkj : k ≤ j) (ha : PA X (e :: es) t)
    (hg : Gl X x := by rfl) (hdb : (x == ("__debug__" : Str)) = false := by decide) (he : starEach (e :: es) X.env = (false, eval e X.env) :: starEach es X.env := by rfl) (hpl : (backTo pos (starEach es X.env)).any (·.1) = false := by rfl) :
    PE X (.Call (.Name x p) (e :: es) [] pos) (tCall sp [] E0 t) := by
  obtain ⟨f, fd, F, g, kp, b⟩ := O.ex
  exact pe_call F (hr.mono hkj) hg g kp b .nil pass0 ha hdb he hpl
theorem own_call0 (O : Own X.prog X.w X.K X.mg X.base CX0 k x ps sp) (hr : Room j X.A) (hkj : k ≤ j) (hg : Gl X x := by rfl) (hdb : (x == ("__debug__" : Str)) = false := by decide) :
    PE X (.Call (.Name x p) [] [] pos) (tCall sp [] E0 tNil) := by
  obtain ⟨f, fd, F, g, kp, b⟩ := O.ex
  exact pe_call0 F (hr.mono hkj) hg g kp b .nil pass0 hdb
theorem own_meth {pl : Sem Bool} (O : OwnM X.prog X.w X.K X.mg X.base CX0 k C m ps sp) (hr : Room j X.A) (hkj : k ≤ j) (ho : PE X o ta) (ha : PA X (e :: es) t)
    (hst : starEach (e :: es) X.env = (false, eval e X.env) :: starEach es X.env := by rfl) (hpl : (backTo pos (starEach es X.env)).any (·.1) = false := by rfl)
    (ht : eval (.Call (.Attribute o m apos) (e :: es) [] pos) X.env = (do
      let ov ← eval o X.env
      standAt apos.atName
      let (f, first) ← holding [ov] (getMethod ov m pl)
      callWith pos f first (backTo pos (starEach (e :: es) X.env)) (backToKw pos (keywordEach [] X.env))) := by rfl) : PE X (.Call (.Attribute o m apos) (e :: es) [] pos) (tMeth C m sp [] E0 ta t) := by
  obtain ⟨f, fd, F, me, b⟩ := O.ex
  exact pe_meth ho O.cl me F (hr.mono hkj) b .nil pass0 ha hst hpl ht
theorem own_meth0 {pl : Sem Bool} (O : OwnM X.prog X.w X.K X.mg X.base CX0 k C m ps sp) (hr : Room j X.A) (hkj : k ≤ j) (ho : PE X o ta)
    (ht : eval (.Call (.Attribute o m apos) [] [] pos) X.env = (do
      let ov ← eval o X.env
      standAt apos.atName
      let (f, first) ← holding [ov] (getMethod ov m pl)
      callWith pos f first (backTo pos (starEach [] X.env)) (backToKw pos (keywordEach [] X.env))) := by rfl) : PE X (.Call (.Attribute o m apos) [] [] pos) (tMeth C m sp [] E0 ta tNil) := by
  obtain ⟨f, fd, F, me, b⟩ := O.ex
  exact pe_meth0 ho O.cl me F (hr.mono hkj) b .nil pass0 ht
theorem own_make (O : OwnC X.prog X.w X.K X.mg X.base CX0 k C x ps sp) (hr : Room j X.A) (hkj : k + 1 ≤ j) (ha : PA X (e :: es) t)
    (hg : Gl X x := by rfl) (hdb : (x == ("__debug__" : Str)) = false := by decide) (he : starEach (e :: es) X.env = (false, eval e X.env) :: starEach es X.env := by rfl) (hpl : (backTo pos (starEach es X.env)).any (·.1) = false := by rfl) :
    PE X (.Call (.Name x p) (e :: es) [] pos) (tMake C sp [] E0 t) := by
  obtain ⟨f, fd, F, g, M, b⟩ := O.ex
  exact pe_make M F (hr.mono hkj) hg g b .nil pass0 ha hdb he hpl
theorem glob_str {z : Str} {tk : Tok} (hm : X.mg x = some (.str z tk)) (hg : Gl X x := by rfl) (hd : (x == ("__debug__" : Str)) = false := by decide) : PE X (.Name x pos) (tC (.str z)) := pe_glob hg hm ⟨_, rfl⟩ hd
theorem glob_int {i : Int} {tk : Tok} (hm : X.mg x = some (.int i tk)) (hg : Gl X x := by rfl) (hd : (x == ("__debug__" : Str)) = false := by decide) : PE X (.Name x pos) (tC (.int i)) := pe_glob hg hm ⟨_, rfl⟩ hd
theorem glob_ref {a : Addr} (hm : X.mg x = some (.ref a)) (hg : Gl X x := by rfl) (hd : (x == ("__debug__" : Str)) = false := by decide) : PE X (.Name x pos) (tC (.ref a)) := pe_glob hg hm rfl hd
/-- a statement that is never reached -/
theorem ps_dead {st : Stmt} : PS X st (fun _ _ _ => False) := ⟨fun _ _ _ _ _ _ h => h.elim⟩
theorem pss_dead {st : List Stmt} : PSs X st (fun _ _ _ => False) := ⟨fun _ _ _ _ _ _ h => h.elim⟩
end

/-! ### a def of the text, whatever its defaults -/
structure FunE (K : PySem.W.Frag) (x qual : Str) (st : Stmt) (f : Addr) (fd : FuncData) : Prop where
  ex : ∃ (oc : Value) (od : Option Addr) (dV kV doc pm : Value) (an : Option Addr) (cdv ct : Value) (osl : Array (Option Value)),
    fd = PySem.W.fnOf x qual (defArgs st) (defBody st) (defScope st) dV kV doc pm an cdv ct ∧ K.lookup f = some ⟨oc, od, .func fd, osl⟩ ∧ PySem.W.codeIn K cdv qual = true
theorem FunE.ok {P : Program} {w : World} {K : PySem.W.Frag} {mg : Str → Option Value} {base : Heap} {x qual : Str} {st : Stmt} {f : Addr} {fd : FuncData} {N ps : List Str} {k : Nat} {sp : Sp} (F : FunE K x qual st f fd) (S : FnScope N ps (defScope st))
    (len : ∀ vs H Q E, sp vs H Q E → vs.length = ps.length)
    (body : ∀ (cdv : Value) (A : Around) (outer : List Env) (s : Shared) (H : Hp) (vs : List V) (Q : VK) (E : XK), Room k (A.deeper (envOfC qual (defScope st) s.heap.objs.size f cdv)) → sp vs H Q E →
      ∃ t, PSs (cxOf CX0 P w K mg base N qual (defScope st) f cdv A outer s H E).nox (defBody st) t ∧ t { nx := fun _ H' => Q .non H', rt := Q } (start N vs) H) : FnOk P w K mg base CX0 (k + 1) f fd ps sp := by
  obtain ⟨oc, od, dV, kV, doc, pm, an, cdv, ct, osl, rfl, lk, hcd⟩ := F.ex
  refine fn_of lk hcd S len fun A outer s H vs Q E hr hsp => ?_
  obtain ⟨t, ht, hq⟩ := body cdv A outer s H vs Q E hr hsp
  exact ⟨t, ht.nox, hq⟩
/-- two defaults that are not asked for -/
theorem FunE.mk2 {K : PySem.W.Frag} {x qual : Str} {st : Stmt} {f T : Addr} {oc : Value} {od an : Option Addr} {osl : Array (Option Value)} {kV doc pm cdv ct : Value}
    (l : K.lookup f = some ⟨oc, od, .func (PySem.W.fnOf x qual (defArgs st) (defBody st) (defScope st) (.ref T) kV doc pm an cdv ct), osl⟩) (c : PySem.W.codeIn K cdv qual = true) :
    FunE K x qual st f (PySem.W.fnOf x qual (defArgs st) (defBody st) (defScope st) (.ref T) kV doc pm an cdv ct) := ⟨oc, od, .ref T, kV, doc, pm, an, cdv, ct, osl, rfl, l, c⟩

/-! ### tuples of the written part -/
def KTup (K : PySem.W.Frag) (a : Addr) (xs : List V) : Prop := ∃ (its : Array Value) (n : Nat), K.lookup a = some { cls := .type "tuple", dict := none, data := .seq its n, slots := #[] } ∧ its.size ≤ sizeLine ∧ Vals xs its.toList
theorem KTup.sq {K : PySem.W.Frag} {a : Addr} {xs : List V} (h : KTup K a xs) (H : Hp) : SqT K H a xs := by
  obtain ⟨its, n, lk, hz, r⟩ := h
  exact .inr ⟨_, its, n, lk, rfl, rfl, hz, r⟩
def rExtK (K : PySem.W.Frag) : V → List V → Hp → VK → Prop := fun x vs H Q => ∃ l b xs zs, x = .ref l ∧ vs = [.ref b] ∧ H l = some (.lst xs) ∧ KTup K b zs ∧ xs.length + zs.length ≤ sizeLine ∧ Q .non (upd H l (.lst (xs ++ zs)))
theorem mt_extK {X : Cx} (K : PySem.W.Frag) (hK : X.K = K := by rfl) : MtM X "list.extend" (rExtK K) := by
  subst hK
  intro pins s σ H x vs v us Q I rx rv h
  obtain ⟨l, b, xs, zs, rfl, rfl, hH, ⟨its2, n2, lk, z2, r2⟩, hz, q⟩ := h
  cases rx
  obtain ⟨u, rfl, ru⟩ := rv.one
  cases ru
  obtain ⟨z, its, n, r, hl, e⟩ := I.lstM hH
  have e2 := I.kIn _ _ lk
  obtain ⟨m2⟩ := its2
  have l2 : zs.length = m2.length := r2.length
  have hs : its.toArray.size + (Array.mk m2).size ≤ sizeLine := by
    rw [List.size_toArray]
    show its.length + m2.length ≤ sizeLine
    omega
  refine call_meets F.slot_list_extend ⟨_, e, rfl⟩ F.entry_list_extend (F.args_list_extend_2 _ _) (AutoSeq1.list_extend_list_tuple_0 l its.toArray n b (Array.mk m2) n2 (by rw [notLongL hs, Bool.and_false]; exact Bool.false_ne_true) (by omega) (by omega)) ⟨e, e2, ?_⟩
  refine ⟨.non, _, I.lset (its' := its ++ m2) (ys := xs ++ zs) hH e (by simp) (r.append r2) ?len, rfl, q⟩
  rw [List.length_append]
  exact hz

/-! ### rules that name the written part -/
section
variable {X : Cx}
theorem ixL (K : PySem.W.Frag) (h : X.K = K := by rfl) : IxR X (rIxL K) := by subst h; exact ix_list
theorem ixT (K : PySem.W.Frag) (h : X.K = K := by rfl) : IxR X (rIxT K) := by subst h; exact ix_tup
theorem in_seq (K : PySem.W.Frag) (h : X.K = K := by rfl) : OpR X (compareOp .In) (rIn K false) := by subst h; exact op_in_seq
theorem notIn_seq (K : PySem.W.Frag) (h : X.K = K := by rfl) : OpR X (compareOp .NotIn) (rIn K true) := by subst h; exact op_notIn_seq
theorem eqD (K : PySem.W.Frag) {k : Nat} (hr : Room k X.A) (h : X.K = K := by rfl) : OpR X (compareOp .Eq) (rEqD K) := by subst h; exact op_eqD hr.units
theorem neD (K : PySem.W.Frag) {k : Nat} (hr : Room k X.A) (h : X.K = K := by rfl) : OpR X (compareOp .NotEq) (rNeD K) := by subst h; exact op_neD hr.units
theorem list_of (K : PySem.W.Frag) (h : X.K = K := by rfl) : CallR X (.type "list") (fun xs H Q => ∃ p ys, xs = [.ref p] ∧ (SqL K H p ys ∨ SqT K H p ys) ∧ ∀ l, H l = none → Q (.ref l) (upd H l (.lst ys))) := by subst h; exact call_list_of
theorem tuple_of (K : PySem.W.Frag) (h : X.K = K := by rfl) : CallR X (.type "tuple") (fun xs H Q => ∃ p ys, xs = [.ref p] ∧ ((SqL K H p ys ∧ ∀ l, H l = none → Q (.ref l) (upd H l (.tup ys))) ∨ (SqT K H p ys ∧ Q (.ref p) H))) := by subst h; exact call_tuple_of
theorem len_seq (K : PySem.W.Frag) (h : X.K = K := by rfl) : CallR X (.builtin "len") (fun xs H Q => ∃ p ys, xs = [.ref p] ∧ (SqL K H p ys ∨ SqT K H p ys) ∧ Q (.int ys.length) H) := by subst h; exact call_len_seq
end

/-! ### lists of ints as data -/
theorem dp_ints {K : PySem.W.Frag} {H : Hp} : ∀ ns : List Int, DpAll K H (ns.map V.int) (ns.map PyData.int)
  | [] => .nil
  | n :: r => .cons (.int n) (dp_ints r)
theorem lay_ints : ∀ ns : List Int, PyData.canLayAll0 (ns.map PyData.int) = true
  | [] => by simp [PyData.canLayAll0]
  | n :: r => by simp [PyData.canLayAll0, PyData.canLay0, lay_ints r]
theorem depth_ints : ∀ ns : List Int, PyData.depthAll (ns.map PyData.int) = 0
  | [] => by simp [PyData.depthAll]
  | n :: r => by simp [PyData.depthAll, PyData.depth, depth_ints r]
theorem shaped_ints (ns : List Int) : SeqAt.shaped (.list (ns.map PyData.int)) = true := by
  simp [SeqAt.shaped, PyData.canLay0, PyData.depth, lay_ints, depth_ints]
theorem eqv_nil (ns : List Int) : PyData.eqv (.list (ns.map PyData.int)) (.list []) = decide (ns = []) := by
  cases ns with
  | nil => simp [PyData.eqv, PyData.eqvAll]
  | cons n r => simp [PyData.eqv, PyData.eqvAll]
theorem lt_pow {m c : Int} (h0 : 0 ≤ m) (h1 : m < 2147483647) (c0 : 0 ≤ c) (c1 : c ≤ 10000001) : (m + 104729 * c + 17).natAbs < 2 ^ 64 := by omega
theorem emod_lo (a : Int) {n : Int} (h : 0 < n) : 0 ≤ a % n := Int.emod_nonneg _ (by omega)
theorem emod_hi (a : Int) {n : Int} (h : 0 < n) : a % n < n := Int.emod_lt_of_pos _ h
theorem sq_le {c : Int} (c0 : 0 ≤ c) (c1 : c ≤ 10000001) : 0 ≤ 40503 * c * c ∧ 40503 * c * c ≤ 4050300810060040503 := by
  have h1 : c * c ≤ 10000001 * 10000001 := Int.mul_le_mul c1 c1 c0 (by omega)
  have h2 : 0 ≤ c * c := Int.mul_nonneg c0 c0
  have e : 40503 * c * c = 40503 * (c * c) := Int.mul_assoc _ _ _
  rw [e]
  omega
theorem log_lt {k : Int} (h0 : 0 < k) (h : k ≤ 10 ^ 40) : k.natAbs.log2 < 9000 := by
  refine (Nat.log2_lt (by omega)).mpr (Nat.lt_of_le_of_lt (m := 10 ^ 40) (by omega) ?_)
  exact Nat.lt_of_lt_of_le (show 10 ^ 40 < 2 ^ 140 by decide +kernel) (Nat.pow_le_pow_right (by decide) (by decide))

/-! ### heaps -/
/-- all else is as it was -/
def Old (S L : Addr) (H H' : Hp) : Prop := ∀ b o, b ≠ S → b ≠ L → H b = some o → H' b = some o
theorem Old.refl {S L : Addr} (H : Hp) : Old S L H H := fun _ _ _ _ e => e
theorem Old.trans {S L : Addr} {H H1 H2 : Hp} (a : Old S L H H1) (b : Old S L H1 H2) : Old S L H H2 := fun c o h1 h2 e => b c o h1 h2 (a c o h1 h2 e)
theorem Old.same {S L : Addr} {H H1 : Hp} (a : Same H H1) : Old S L H H1 := fun c o _ _ e => a c o e
theorem same_new {H : Hp} {p : Addr} {o : HO} (h : H p = none) : Same H (upd H p o) := fun b x e => by
  rw [upd_ne (ne_of_none e h)]
  exact e
theorem Old.new {S L : Addr} {H : Hp} {p : Addr} {o : HO} (h : H p = none) : Old S L H (upd H p o) := .same (same_new h)
theorem Old.set {S L : Addr} {H H1 : Hp} {p : Addr} {o : HO} (h : Old S L H H1) (hp : H p = none) : Old S L H (upd H1 p o) := fun b u h1 h2 e => by
  rw [upd_ne (ne_of_none e hp)]
  exact h b u h1 h2 e
theorem Old.none {S L : Addr} {H H1 : Hp} {p : Addr} (h : Old S L H H1) (hp : H1 p = none) (n : p ≠ S ∧ p ≠ L) : H p = none := by
  cases e : H p with
  | none => rfl
  | some o => rw [h _ _ n.1 n.2 e] at hp; cases hp
/-- the law's stream at S over the list at L, of which at most n draws were made -/
def Stm (H : Hp) (S L : Addr) (n : Nat) : Prop := ∃ (ns : List Int) (d c m : Int), H S = some (.lst [.ref L, .int d, .int c, .int m]) ∧ H L = some (.lst (ns.map V.int)) ∧ 0 ≤ d ∧ 0 ≤ c ∧ c ≤ (n : Int) ∧ 0 ≤ m ∧ m < 2147483647
theorem Stm.ne {H : Hp} {S L : Addr} {n : Nat} (h : Stm H S L n) : S ≠ L := by
  obtain ⟨ns, d, c, m, h1, h2, _⟩ := h
  refine ne_of h1 h2 fun e => ?_
  have e' := HO.lst.inj e
  cases ns with
  | nil => cases e'
  | cons a r => rw [List.map_cons] at e'; injection e' with e1; cases e1
theorem Stm.mono {H : Hp} {S L : Addr} {n m : Nat} (h : Stm H S L n) (hm : n ≤ m) : Stm H S L m := by
  obtain ⟨ns, d, c, k, h1, h2, h3, h4, h5, h6⟩ := h
  exact ⟨ns, d, c, k, h1, h2, h3, h4, by omega, h6⟩
theorem Stm.keep {H H' : Hp} {S L : Addr} {n : Nat} (h : Stm H S L n) (s : Same H H') : Stm H' S L n := by
  obtain ⟨ns, d, c, k, h1, h2, h3⟩ := h
  exact ⟨ns, d, c, k, s _ _ h1, s _ _ h2, h3⟩
theorem Stm.noneS {H : Hp} {S L p : Addr} {n : Nat} (h : Stm H S L n) (hp : H p = none) : p ≠ S ∧ p ≠ L := by
  obtain ⟨ns, d, c, k, h1, h2, h3⟩ := h
  exact ⟨Ne.symm (ne_of_none h1 hp), Ne.symm (ne_of_none h2 hp)⟩
theorem Stm.upd {H : Hp} {S L p : Addr} {n : Nat} {o : HO} (h : Stm H S L n) (h1 : p ≠ S) (h2 : p ≠ L) : Stm (upd H p o) S L n := by
  obtain ⟨ns, d, c, k, e1, e2, h3⟩ := h
  exact ⟨ns, d, c, k, by rw [upd_ne (Ne.symm h1)]; exact e1, by rw [upd_ne (Ne.symm h2)]; exact e2, h3⟩
/-! ### two tests whose answers are known -/
theorem or2 {t u : TT} {σ : L2.St} {H : Hp} {Q : Bool → Hp → Prop} (c1 c2 : Bool) (h1 : ∀ Q' : Bool → Hp → Prop, Q' c1 H → t σ H Q') (h2 : c1 = false → ∀ Q' : Bool → Hp → Prop, Q' c2 H → u σ H Q') (hq : Q (c1 || c2) H) : tOr t u σ H Q := by
  refine h1 _ ?_
  cases c1 with
  | true => exact hq
  | false => exact h2 rfl _ hq
theorem and2 {t u : TT} {σ : L2.St} {H : Hp} {Q : Bool → Hp → Prop} (c1 c2 : Bool) (h1 : ∀ Q' : Bool → Hp → Prop, Q' c1 H → t σ H Q') (h2 : c1 = true → ∀ Q' : Bool → Hp → Prop, Q' c2 H → u σ H Q') (hq : Q (c1 && c2) H) : tAnd t u σ H Q := by
  refine h1 _ ?_
  cases c1 with
  | true => exact h2 rfl _ hq
  | false => exact hq
/-- what is known of the heap from here on -/
theorem at_heap {P : Hp → Prop} {H0 : Hp} (φ : Hp → Prop) (h1 : φ H0) (h2 : ∀ H1, φ H1 → P H1) : P H0 := h2 H0 h1
/-! ### comprehensions that change nothing else -/
section
variable {J : It} {n : Nat} {G : Hp → Prop} {Y : Nat → Hp → V → Hp → Prop}
/-- the made list behind i turns -/
def made (xs : List V) (f : V → Option V) (i : Nat) : List V := (xs.take i).filterMap f
theorem made_yes {xs : List V} {f : V → Option V} {i : Nat} {x y : V} (hx : xs[i]? = some x) (hf : f x = some y) : made xs f (i + 1) = made xs f i ++ [y] := by
  unfold made
  rw [List.take_add_one, hx, List.filterMap_append]
  simp [hf]
theorem made_no {xs : List V} {f : V → Option V} {i : Nat} {x : V} (hx : xs[i]? = some x) (hf : f x = none) : made xs f (i + 1) = made xs f i := by
  unfold made
  rw [List.take_add_one, hx, List.filterMap_append]
  simp [hf]
theorem made_len (xs : List V) (f : V → Option V) (i : Nat) : (made xs f i).length ≤ i := by
  unfold made
  exact Nat.le_trans (List.length_filterMap_le _ _) (by rw [List.length_take]; exact Nat.min_le_left _ _)
/-- a comprehension whose turns leave the heap as it is: what each item gives is told by f -/
theorem lc_pure (w : Walk J n G Y) (xs : List V) (f : V → Option V) (hn : xs.length = n) (hY : ∀ i H x H', i < n → Y i H x H' → H' = H ∧ xs[i]? = some x) {g : TG} {tt : TT} {te : TE} {vs : List Nat} {σ : L2.St} {H1 : Hp} {D : Addr} {Qd : Hp → Prop}
    (hz : n < sizeLine) (hG : ∀ acc, G (upd H1 D (.lst acc)))
    (hs : ∀ i x, i < n → xs[i]? = some x → g x (wipe σ vs) (upd H1 D (.lst (made xs f i))) fun σ2 H2 => wipe σ2 vs = wipe σ vs ∧ tt σ2 H2 fun b H3 =>
      if b = true then te σ2 H3 fun y H4 => ∃ acc, H4 D = some (.lst acc) ∧ acc.length < sizeLine ∧ upd H4 D (.lst (acc ++ [y])) = upd H1 D (.lst (made xs f (i + 1))) else H3 = upd H1 D (.lst (made xs f (i + 1))))
    (hd : Qd (upd H1 D (.lst (xs.filterMap f)))) :
    ∃ W : Nat → Nat → Hp → Prop, (∃ m, W 0 m (upd H1 D (.lst []))) ∧ ∀ i m H, W i m H →
      (J.stop i H ∧ Qd H) ∨ (J.go i H ∧ ∃ Nx : Hp → Prop, (∀ H', Nx H' → ∃ m', m' < m ∧ W (i + 1) m' H') ∧ ∀ x H', J.yld i H x H' → g x (wipe σ vs) H' fun σ2 H2 => wipe σ2 vs = wipe σ vs ∧ tt σ2 H2 fun b H3 =>
        if b = true then te σ2 H3 fun y H4 => ∃ acc, H4 D = some (.lst acc) ∧ acc.length < sizeLine ∧ Nx (upd H4 D (.lst (acc ++ [y]))) else Nx H3) := by
  refine lc_it w (fun i H => H = upd H1 D (.lst (made xs f i))) rfl (fun i H _ e => by rw [e]; exact hG _) (fun i x H H' hi e y => ?_) (fun H e => ?_)
  · obtain ⟨e2, hx⟩ := hY i H x H' hi y
    rw [e2, e]
    exact hs i x hi hx
  · have : made xs f n = xs.filterMap f := by unfold made; rw [← hn, List.take_length]
    rw [e, this]
    exact hd
theorem lc_yes {xs : List V} {f : V → Option V} {i : Nat} {x y : V} {H1 : Hp} {D : Addr} {n : Nat} (hx : xs[i]? = some x) (hi : i < n) (hz : n < sizeLine) (hf : f x = some y) :
    ∃ acc, (upd H1 D (.lst (made xs f i))) D = some (.lst acc) ∧ acc.length < sizeLine ∧ upd (upd H1 D (.lst (made xs f i))) D (.lst (acc ++ [y])) = upd H1 D (.lst (made xs f (i + 1))) :=
  ⟨_, upd_same, Nat.lt_of_le_of_lt (made_len _ _ _) (Nat.lt_trans hi hz), by rw [upd_upd, made_yes hx hf]⟩
theorem lc_no {xs : List V} {f : V → Option V} {i : Nat} {x : V} {H1 : Hp} {D : Addr} (hx : xs[i]? = some x) (hf : f x = none) : upd H1 D (.lst (made xs f i)) = upd H1 D (.lst (made xs f (i + 1))) := by rw [made_no hx hf]
/-- the signs of a text as texts -/
def signs (z : Str) : List V := z.cps.toList.map fun c => .str ⟨#[c]⟩
theorem signs_len (z : Str) : (signs z).length = z.cps.size := by unfold signs; rw [List.length_map, Array.length_toList]
theorem yld_str {z : Str} : ∀ (i : Nat) (H : Hp) (x : V) (H' : Hp), i < z.cps.size → (H' = H ∧ ∃ c, z.cps[i]? = some c ∧ x = .str ⟨#[c]⟩) → H' = H ∧ (signs z)[i]? = some x := fun i H x H' _ ⟨e, c, hc, ex⟩ =>
  ⟨e, by unfold signs; rw [List.getElem?_map, Array.getElem?_toList, hc, ex]; rfl⟩
end
def spDraw : Sp := fun vs H Q _ => ∃ (S L : Addr) (n : Nat) (k : Int), vs = [.ref S, .int k] ∧ Stm H S L n ∧ n ≤ 10000000 ∧ 0 < k ∧ k ≤ 10 ^ 40 ∧
  ∀ (H' : Hp) (r : Int), 0 ≤ r → r < k → Stm H' S L (n + 1) → Old S L H H' → Q (.int r) H'
end Ls
namespace Ls
open PySem PySem.Spec PyProof.Rows L2
/-! ### defs that run where no repr is under way -/
/-- the promise of a def, kept wherever no guard of the interpreter's own stands -/
structure FnG (P : Program) (w : World) (K : PySem.W.Frag) (mg : Str → Option Value) (base : Heap) (CX : CXT) (k : Nat) (f : Addr) (fd : FuncData) (ps : List Str) (sp : Sp) : Prop where
  len : ∀ vs H Q E, sp vs H Q E → vs.length = ps.length
  run : ∀ (A : Around) (outer : List Env) (s : Shared) (H : Hp) (args : Args) (us : List Value) (vs : List V) (Q : VK) (E : XK), A.guards = some [] → Room k A → Env0 P w K mg base A outer s H →
    BindsTo s fd args (ps.zip us) → Vals vs us → sp vs H Q E → codeAny (model P w) A (.call (.ref f) args) (CR CX outer P w H s Q E) s
/-- where it stands and how it is bound -/
structure OwnG (P : Program) (w : World) (K : PySem.W.Frag) (mg : Str → Option Value) (base : Heap) (CX : CXT) (k : Nat) (x : Str) (ps : List Str) (sp : Sp) : Prop where
  ex : ∃ (f : Addr) (fd : FuncData), FnG P w K mg base CX k f fd ps sp ∧ mg x = some (.ref f) ∧ PySem.W.keepIn K (.ref f) = true ∧ Binds K fd ps []
section
variable {X : Cx} {k j : Nat} {x : Str} {ps : List Str} {sp : Sp} {p pos : Pos} {e : Expr} {es : List Expr} {t : TA}
theorem own_callG (O : OwnG X.prog X.w X.K X.mg X.base CX0 k x ps sp) (hgd : X.A.guards = some []) (hr : Room j X.A) (hkj : k ≤ j) (ha : PA X (e :: es) t)
    (hg : Gl X x := by rfl) (hdb : (x == ("__debug__" : Str)) = false := by decide) (he : starEach (e :: es) X.env = (false, eval e X.env) :: starEach es X.env := by rfl) (hpl : (backTo pos (starEach es X.env)).any (·.1) = false := by rfl) :
    PE X (.Call (.Name x p) (e :: es) [] pos) (tCall sp [] E0 t) := by
  obtain ⟨f, fd, F, g, kp, b⟩ := O.ex
  refine ⟨fun pins s σ H Q I h => wpAny_Call_Name_kw (ld_glob I hg g (PySem.W.callWith_K (h₀ := X.base) I.ok.mod.kin kp ?_ he hpl) hdb)⟩
  refine thn (ha.run pos pins s σ H _ I h) fun us s1 hh => ?_
  obtain ⟨vs, H1, I1, r, q⟩ := hh
  refine ⟨I1.kIn, wpAny_call ?_⟩
  have q0 : sp vs H1 Q E0 := by simpa using q
  have b1 := b s1 us I1.kIn (by rw [List.append_nil, ← r.length]; exact F.len _ _ _ _ q0)
  rw [List.append_nil] at b1
  refine codeAny_mono (F.run X.A X.stack s1 H1 ⟨us, []⟩ us vs Q E0 hgd (hr.mono hkj) I1.env0 b1 r q0) fun res s2 hq => ?_
  match res, hq with
  | .ok (.ret u), hq => exact I1.after hq
  | .error z, hq => exact False.elim hq
end
section
variable {P : Program} {w : World} {K : PySem.W.Frag} {mg : Str → Option Value} {base : Heap}
/-- a def by its body, where no guard stands -/
theorem fun_okG {x qual : Str} {st : Stmt} {f : Addr} {fd : FuncData} {N ps : List Str} {k : Nat} {sp : Sp} (F : Fun K x qual st f fd) (S : FnScope N ps (defScope st)) (len : ∀ vs H Q E, sp vs H Q E → vs.length = ps.length)
    (body : ∀ (cdv : Value) (A : Around) (outer : List Env) (s : Shared) (H : Hp) (vs : List V) (Q : VK) (E : XK), A.guards = some [] → Room k (A.deeper (envOfC qual (defScope st) s.heap.objs.size f cdv)) → sp vs H Q E →
      ∃ t, PSs (cxOf CX0 P w K mg base N qual (defScope st) f cdv A outer s H E).nox (defBody st) t ∧ t { nx := fun _ H' => Q .non H', rt := Q } (start N vs) H) : FnG P w K mg base CX0 (k + 1) f fd ps sp := by
  obtain ⟨oc, od, kV, doc, pm, an, cdv, ct, osl, rfl, lk, hcd⟩ := F.ex
  refine ⟨len, fun A outer s H args us vs Q E hgd hr e0 hb r hsp => ?_⟩
  have kin : K.In s.heap := e0.mod.kin.keeps fun b o e => (e0.bs b o e).1
  have kinds : ∀ y ∈ ps.zip us, (defScope st).names.lookup y.1 = some .local ∨ ((defScope st).names.lookup y.1 = some .cell ∧ ((cellsFrom (s.heap.objs.size + 1) (defScope st).names []).lookup y.1).isSome = true) := by
    rintro ⟨n, v⟩ hy
    exact (S.par n (List.of_mem_zip hy).1).imp id fun q => ⟨q, PySem.W.cellsFrom_some _ _ _ (.inl q)⟩
  refine codeAny_call_function hr.depth (kin _ _ lk) rfl S.co S.gen rfl (PySem.W.codeRec_of kin hcd) (hb _ _ _ _ (wpAny_newFunctionEnv_cells S.kind kinds fun env he s1 x1 => ?_))
  subst he
  refine ⟨(e0.mod.nolimit.keeps fun b o e => (e0.bs b o e).1).keeps x1.toInCall.keep, codeAny_func ?_⟩
  obtain ⟨t, ht, hq⟩ := body cdv A outer s H vs Q E hgd (hr.deeper _) hsp
  have I := inv_start (P := P) (w := w) (mg := mg) (base := base) (CX := CX0) (E := E) S hr.hd e0 (len _ _ _ _ hsp) r x1
  refine wpAny_mono (ht.nox.run [] s1 (start N vs) H _ I hq) (fun fl s' hs => ?_) fun _ _ hs => hs
  match fl, hs with
  | .ret u, ⟨v, σ', H', J, rv, q⟩ => exact ⟨v, H', J.os, J.bare, J.base, J.hok, rv, q⟩
  | .next, ⟨σ', H', J, q⟩ => exact ⟨V.non, H', J.os, J.bare, J.base, J.hok, rfl, q⟩
  | .brk, ⟨_, _, _, q⟩ => exact False.elim q
  | .cont, ⟨_, _, _, q⟩ => exact False.elim q
theorem FnOk.toG {CX : CXT} {k : Nat} {f : Addr} {fd : FuncData} {ps : List Str} {sp : Sp} (F : FnOk P w K mg base CX k f fd ps sp) : FnG P w K mg base CX k f fd ps sp :=
  ⟨F.len, fun A outer s H args us vs Q E _ hr e0 hb r h => F.run A outer s H args us vs Q E hr e0 hb r h⟩
end
/-! ### repr of data -/
section
variable {X : Cx}
/-- repr(x): the text of x's data -/
def rRepr (K : PySem.W.Frag) : List V → Hp → VK → Prop := fun xs H Q => ∃ (a : Addr) (d : PyData), xs = [.ref a] ∧ Dp K H (.ref a) d ∧ d.showable = true ∧ d.hasDict = false ∧ d.depth ≤ 60 ∧ d.shown.length ≤ sizeLine ∧ Q (.str d.shown) H
theorem call_repr_data {k : Nat} (hgd : X.A.guards = some []) (hr : Room k X.A) : CallR X (.builtin "repr") (rRepr X.K) := by
  intro pins s σ H xs us Q I r h
  obtain ⟨a, d, rfl, hd, hs, hn, hdp, hz, q⟩ := h
  obtain ⟨u, rfl, ru⟩ := r.one
  obtain ⟨as, rd⟩ := Dp.reads I d _ u hd ru
  cases ru
  refine repr_of_reads' rd hs (fun z => by rw [hn] at z; cases z) hgd (by have := hr.un; omega) (fun b o e => e) (fun h' v tk keep => ?_) hz
  exact ⟨.str d.shown, H, I.kept (t' := tk) keep, ⟨_, rfl⟩, q⟩
end
/-! ### the law's own call -/
/-- the script's list, known to the object -/
def scriptO (vs : List Value) : Obj := { cls := .type "list", data := .seq vs.toArray }
/-- what is tracked at the law's entry: the script, if it is no object of the module -/
def H0 (K : PySem.W.Frag) (a : Addr) (vs : List Value) (ns : List Int) : Hp := fun b => if b = a ∧ K.lookup a = none then some (.frz (scriptO vs) (.lst (ns.map V.int))) else none
theorem H0_some {K : PySem.W.Frag} {a b : Addr} {vs : List Value} {ns : List Int} {u : HO} (h : H0 K a vs ns b = some u) : b = a ∧ K.lookup a = none ∧ u = .frz (scriptO vs) (.lst (ns.map V.int)) := by
  unfold H0 at h
  by_cases c : b = a ∧ K.lookup a = none
  · rw [if_pos c] at h
    exact ⟨c.1, c.2, (Option.some.inj h).symm⟩
  · rw [if_neg c] at h
    cases h
theorem ints_vals : ∀ {ns : List Int} {vs : List Value}, IntsAre vs ns → Vals (ns.map V.int) vs
  | _, _, .nil => .nil
  | _, _, .cons _ _ r => .cons ⟨_, rfl⟩ (ints_vals r)
theorem law_callG {P : Program} {w : World} {K : PySem.W.Frag} {mg mb : Str → Option Value} {k : Nat} {fa a : Addr} {fd : FuncData} {x : Str} {sp : Sp} {s₁ : Shared} {vs : List Value} {ns : List Int}
    (kin : K.In s₁.heap) (hm : s₁.heap.Ns mainGlobals mg) (hbl : s₁.heap.Ns builtinsNs mb) (hbt : ∀ y : Str, y ≠ "__name__" → mb y = bootBuiltins y) (lim : s₁.heap.NoLimit) (gens : s₁.gens = #[])
    (obj : s₁.heap.get? a = some (scriptO vs)) (hints : IntsAre vs ns) (size : ns.length ≤ sizeLine) (room : Room k callerA)
    (F : ∀ base : Heap, K.In base → base.Ns mainGlobals mg → FnG P w K mg base CX0 k fa fd [x] sp) (bind : ∀ (s : Shared) (u : Value), BindsTo s fd ⟨[u], []⟩ [(x, u)])
    (want : ∀ H : Hp, SqL K H a (ns.map V.int) → sp [.ref a] H (fun v _ => v = .bl true) E0) :
    codeAny (model P w) callerA (.call (.ref fa) ⟨[.ref a], []⟩) (fun r s' => r = .ok (.ret (.bool true)) ∧ OldK s₁.heap s'.heap ∧ s'.os = s₁.os ∧ AllBare s'.gens) s₁ := by
  have rv := ints_vals hints
  have ok : HOk P w (H0 K a vs ns) s₁.heap := fun b u h => by
    obtain ⟨rfl, _, rfl⟩ := H0_some h
    exact ⟨obj, by rw [List.length_map]; exact size, vs, _, rv, obj⟩
  have sq : SqL K (H0 K a vs ns) a (ns.map V.int) := by
    cases lk : K.lookup a with
    | none => exact .inl (.inr ⟨scriptO vs, if_pos ⟨rfl, lk⟩⟩)
    | some o =>
      have e := kin a o lk
      rw [obj] at e
      cases e
      exact .inr ⟨_, vs.toArray, _, lk, rfl, rfl, rfl, by rw [List.size_toArray, hints.length]; exact size, by simpa using rv⟩
  -- what is not tracked stays in sight
  have seen : ∀ {b : Addr} {o : Obj}, s₁.heap.get? b = some o → (b = a → K.lookup a ≠ none) → (hidT s₁.heap (H0 K a vs ns)).get? b = some o := fun {b o} e n => hidT_get e (by
    cases q : H0 K a vs ns b with
    | none => rfl
    | some u =>
      obtain ⟨h1, h2, _⟩ := H0_some q
      exact absurd h2 (n h1))
  have dicts : ∀ {b : Addr} {m : Str → Option Value}, s₁.heap.Ns b m → (hidT s₁.heap (H0 K a vs ns)).Ns b m := fun {b m} ⟨o, es, ep, e, d, r⟩ => ⟨o, es, ep, seen e (fun z => by
    subst z
    rw [obj] at e
    cases e
    cases (show Data.seq vs.toArray _ = Data.dict es ep from d)), d, r⟩
  have kinB : K.In (hidT s₁.heap (H0 K a vs ns)) := fun b o e => seen (kin b o e) (fun z => by subst z; rw [e]; simp)
  have md : Mod K mg (hidT s₁.heap (H0 K a vs ns)) := ⟨kinB, dicts hm, ⟨mb, dicts hbl, hbt⟩, let ⟨mc, h1, h2⟩ := lim; ⟨mc, dicts h1, h2⟩⟩
  have e0 : Env0 P w K mg (hidT s₁.heap (H0 K a vs ns)) callerA [] s₁ (H0 K a vs ns) :=
    { frames := rfl, mod := md, bs := fun b o e => of_hidT e, bsz := Nat.le_of_eq (hidT_size _ _), funs := trivial, frf := fun b hb => (List.not_mem_nil hb).elim, hok := ok, bare := .of_eq gens }
  refine codeAny_mono ((F _ kinB (dicts hm)).run callerA [] s₁ (H0 K a vs ns) ⟨[.ref a], []⟩ [.ref a] [.ref a] (fun v _ => v = .bl true) E0 rfl room e0 (bind s₁ (.ref a)) (.cons rfl .nil) (want _ sq)) fun r s' h => ?_
  match r, h with
  | .error z, h => exact False.elim h
  | .ok (.ret u), ⟨v, H', os, bare, un, ok', rv', q⟩ =>
    have q' : v = .bl true := q
    subst q'
    obtain rfl : u = Value.bool true := rv'
    refine ⟨rfl, OldK.of_keep fun b o e => ?_, os, bare⟩
    cases t : H0 K a vs ns b with
    | none => exact un.keep b o e t (fun z => (List.not_mem_nil z).elim) (fun z => (List.not_mem_nil z).elim)
    | some u =>
      obtain ⟨rfl, _, rfl⟩ := H0_some t
      have e2 := (ok' b _ (un.frzs b _ _ t)).1
      rw [obj] at e
      cases e
      exact e2
theorem walk_ofG {l : PySem.W.OpenLaw} {n k : Nat} {q : Program} {loose : List Str} {XP : (Str → Option Value) → Heap → Prop} {YP : World → Heap → Prop} {d : DefRec} {K : Params → PySem.W.Frag} {sp : World → Sp} {x : Str}
    (hn : l.most = some n) (hn2 : n ≤ sizeLine) (hdf : d.params.defaults = []) (room : Room k callerA) (hY : ∀ (w : World) (h : Heap), YP w h → (K w.params).In h)
    (F : ∀ (w : World) (mg : Str → Option Value) (fa : Addr) (h : Heap), (K w.params).In h → h.Ns mainGlobals mg → mg d.name = some (.ref fa) →
      ∃ fd : FuncData, (∀ (s : Shared) (u : Value), BindsTo s fd ⟨[u], []⟩ [(x, u)]) ∧ ∀ base : Heap, (K w.params).In base → base.Ns mainGlobals mg → FnG l.prog w (K w.params) mg base CX0 k fa fd [x] (sp w))
    (want : ∀ (w : World) (H : Hp) (a : Addr) (ns : List Int), ns.length ≤ n → SqL (K w.params) H a (ns.map V.int) → sp w [.ref a] H (fun v _ => v = .bl true) E0) :
    PySem.W.WalkO q loose XP YP l.row.toRowW d [] (fun f vs => PySem.call f vs) := by
  refine Att.attach_call hn hdf fun w s₀ s₁ mg mb fa o pm cd doc a vs ns G Y ho hd hcd hmg hobj hints hlen hg => ?_
  have kin := hY w _ Y
  obtain ⟨fd, hb, hF⟩ := F w mg fa _ kin G.T.g hmg
  exact law_callG kin G.T.g G.T.b G.T.builtins G.T.nolimit hg hobj hints (Nat.le_trans hlen hn2) room hF hb fun H hS => want w H a ns hlen hS
end Ls
namespace Ls
open PySem PySem.Spec PyProof.Rows L2
/-- the end over a head by facts, for a law that asks repr: the written part is told by the head -/
theorem walk_ofGE {l : PySem.W.OpenLaw} {n k : Nat} {q : Program} {loose : List Str} {XP : (Str → Option Value) → Heap → Prop} {YP : World → Heap → Prop} {d : DefRec} {x : Str} (hn : l.most = some n) (hn2 : n ≤ sizeLine) (hdf : d.params.defaults = []) (room : Room k callerA)
    (F : ∀ (w : World) (mg : Str → Option Value) (fa : Addr) (h : Heap), YP w h → h.Ns mainGlobals mg → mg d.name = some (.ref fa) → ∃ (K : PySem.W.Frag) (fd : FuncData) (sp : Sp), K.In h ∧ (∀ (s : Shared) (u : Value), BindsTo s fd ⟨[u], []⟩ [(x, u)]) ∧
      (∀ (H : Hp) (a : Addr) (ns : List Int), ns.length ≤ n → SqL K H a (ns.map V.int) → sp [.ref a] H (fun v _ => v = .bl true) E0) ∧ ∀ base : Heap, K.In base → base.Ns mainGlobals mg → FnG l.prog w K mg base CX0 k fa fd [x] sp) :
    PySem.W.WalkO q loose XP YP l.row.toRowW d [] (fun f vs => PySem.call f vs) := by
  refine Att.attach_call hn hdf fun w s₀ s₁ mg mb fa o pm cd doc a vs ns G Y ho hd hcd hmg hobj hints hlen hg => ?_
  obtain ⟨K, fd, sp, kin, hb, want, hF⟩ := F w mg fa _ Y G.T.g hmg
  exact law_callG kin G.T.g G.T.b G.T.builtins G.T.nolimit hg hobj hints (Nat.le_trans hlen hn2) room hF hb fun H hS => want H a ns hlen hS
end Ls
namespace Ls
open PySem PySem.Spec PyProof.Rows L2
/-! ### d.get(k) of a written dict of the module, from texts to numbers -/
structure KDI (K : PySem.W.Frag) (w : World) (d : Addr) (ents : List (Str × Int)) : Prop where
  ex : ∃ es n, KDict K w d es n ∧ ∀ z : Str, match ents.lookup z with | none => PySem.W.nsIn K d z = some none | some i => ∃ t, PySem.W.nsIn K d z = some (some (.int i t))
def getI (ents : List (Str × Int)) (z : Str) : V := match ents.lookup z with | none => .non | some i => .int i
def entB (P : Params) : List DictEntry → List (Str × Int) → Prop
  | [], [] => True
  | e :: r, (z, i) :: q => (∃ t, e.key = .str z t) ∧ e.hash = PyData.keyHash P z ∧ (∃ t, e.val = .int i t) ∧ entB P r q
  | _, _ => False
theorem ent_lit {P : Params} : ∀ {es : List DictEntry} {ents : List (Str × Int)}, entB P es ents → PySem.W.KeysLit P es
  | [], [], _ => trivial
  | [], _ :: _, h => h.elim
  | _ :: _, [], h => h.elim
  | e :: r, (z, i) :: q, ⟨⟨t, h1⟩, h2, _, h4⟩ => ⟨⟨z, t, h1, h2⟩, ent_lit h4⟩
theorem ent_ref {P : Params} : ∀ {es : List DictEntry} {ents : List (Str × Int)}, entB P es ents → (es.any fun x => x.refKey) = false
  | [], [], _ => rfl
  | [], _ :: _, h => h.elim
  | _ :: _, [], h => h.elim
  | e :: r, (z, i) :: q, ⟨⟨t, h1⟩, _, _, h4⟩ => by
    rw [List.any_cons, ent_ref h4]
    unfold DictEntry.refKey
    rw [h1]
    rfl
theorem ent_find {P : Params} (z : Str) : ∀ {es : List DictEntry} {ents : List (Str × Int)}, entB P es ents → match ents.lookup z with | none => es.find? (fun x => x.key.isStr z) = none | some i => ∃ e t, es.find? (fun x => x.key.isStr z) = some e ∧ e.val = .int i t
  | [], [], _ => rfl
  | [], _ :: _, h => h.elim
  | _ :: _, [], h => h.elim
  | e :: r, (y, i) :: q, ⟨⟨t, h1⟩, _, ⟨t2, h3⟩, h4⟩ => by
    have ih := ent_find z h4
    have e1 : e.key.isStr z = (y == z) := by rw [h1]; rfl
    rw [List.lookup_cons, List.find?_cons, e1]
    by_cases h : y = z
    · subst h
      simp only [beq_self_eq_true]
      exact ⟨e, t2, rfl, h3⟩
    · have n1 : (z == y) = false := beq_false_of_ne fun x => h x.symm
      have n2 : (y == z) = false := beq_false_of_ne h
      rw [n1, n2]
      exact ih
theorem kdi_of {K : PySem.W.Frag} {w : World} {d : Addr} {es : Array DictEntry} {n : Nat} {ents : List (Str × Int)} (h1 : List.lookup d K = some { cls := .type "dict", data := .dict es n }) (h2 : entB w.params es.toList ents) (h3 : (d == sysModules) = false) : KDI K w d ents := by
  refine ⟨es, n, ⟨h1, ent_lit h2, h3⟩, fun z => ?_⟩
  have f := ent_find z h2
  have r := ent_ref h2
  unfold PySem.W.nsIn
  rw [h1]
  dsimp only
  cases e : ents.lookup z with
  | none =>
    rw [e] at f
    dsimp only at f ⊢
    rw [f]
    dsimp only
    rw [if_neg (by rw [r]; simp)]
  | some i =>
    rw [e] at f
    dsimp only at f ⊢
    obtain ⟨e, t, h4, h5⟩ := f
    rw [h4]
    exact ⟨t, by rw [← h5]⟩
def tKGet (K : PySem.W.Frag) (w : World) (ents : List (Str × Int)) (d : Addr) (ty : TE) : TE := fun σ H Q => ty σ H fun y H1 => ∃ z, y = .str z ∧ Q (getI ents z) H1
theorem pe_kget {X : Cx} {o e : Expr} {apos cpos : Pos} {ty : TE} {d : Addr} {ents : List (Str × Int)} (D : KDI X.K X.w d ents) (ho : PE X o (tC (.ref d))) (he : PE X e ty) (m : M1 X o "get" apos e cpos) : PE X (.Call (.Attribute o "get" apos) [e] [] cpos) (tKGet X.K X.w ents d ty) := by
  refine ⟨fun pins s σ H Q I h => ?_⟩
  obtain ⟨es, n, D, look⟩ := D.ex
  refine wpAny_Call_method m.base m.few m.line PySem.F.plainAttrs_dict PySem.F.slot_dict_get PySem.F.type_dict_get (thn (ho.run pins s σ H (fun v H1 => v = .ref d ∧ H1 = H) I ⟨rfl, rfl⟩) fun u s1 ⟨x, H1, I1, rx, ex, eH⟩ => ?_)
  subst ex eH
  obtain rfl : u = Value.ref d := rx
  have at0 := D.at_
  have hk : s1.heap.get? d = some { cls := .type "dict", data := .dict es n } := I1.kIn _ _ at0
  refine ⟨⟨_, hk, rfl⟩, fun b eb => by cases eb; exact ⟨_, hk, rfl⟩, ?_⟩
  rw [m.trees]
  refine Calls.callWith_builtin rfl (Calls.evalArgs_plain (Calls.spliced_cons (thn (he.run pins s1 σ H1 _ I1 h) fun iv s2 ⟨y, H2, I2, ry, z, ey, q⟩ => Calls.spliced_nil ?_)))
  subst ey
  obtain ⟨t, rfl⟩ := (show ∃ t, iv = Value.str z t from ry)
  have hk2 : s2.heap.get? d = some { cls := .type "dict", data := .dict es n } := I2.kIn _ _ at0
  refine call_meetsIn PySem.F.slot_dict_get (self := .ref d) ⟨_, hk2, rfl⟩ PySem.F.entry_dict_get (PySem.F.args_dict_get_2 _ _) (meets_dict_get (PySem.strKind X.prog X.w) (k := z) d (strKind_is _ _ _ _) D.low) ⟨_, PySem.W.mapOf_K I2.kIn at0 D.lit, ?_⟩
  have lk := look z
  unfold getI at q
  cases e : ents.lookup z with
  | none =>
    rw [e] at lk q
    rw [PySem.W.find_K at0 lk]
    exact ⟨.non, H2, I2.tok _, rfl, q⟩
  | some i =>
    rw [e] at lk q
    obtain ⟨t2, lk⟩ := lk
    rw [PySem.W.find_K at0 lk]
    exact ⟨.int i, H2, I2.tok _, ⟨t2, rfl⟩, q⟩
end Ls
/-! Own work. A head by one run, with written dicts from texts to numbers. -/
namespace Ls
open PySem PySem.Spec PyProof.Rows L2
theorem key_find {z : Str} {P : Params} : ∀ {l : List DictEntry} {ks : List Str}, l.map He.keyOf = He.keysIn P ks → z ∉ ks → l.find? (fun x => x.key.isStr z) = none ∧ (l.any fun x => x.refKey) = false
  | [], _, _, _ => ⟨rfl, rfl⟩
  | e :: r, [], h, _ => by cases h
  | e :: r, k :: ks, h, n => by
    have h1 : He.keyOf e :: r.map He.keyOf = some (k, PyData.keyHash P k) :: He.keysIn P ks := h
    injection h1 with h2 h3
    obtain ⟨i1, i2⟩ := key_find h3 fun m => n (.tail _ m)
    unfold He.keyOf at h2
    split at h2
    · rename_i x t q
      obtain ⟨h5, h6⟩ := Prod.mk.inj (Option.some.inj h2)
      have hk : e.key.isStr z = (k == z) := by rw [q, h5]; rfl
      refine ⟨?_, ?_⟩
      · have nk : k ≠ z := fun y => n (by rw [y]; exact .head _)
        rw [List.find?_cons, hk, beq_false_of_ne nk]
        exact i1
      · rw [List.any_cons, i2]
        unfold DictEntry.refKey
        rw [q]
        rfl
    · cases h2
/-- the numbers of a written dict, by key -/
def entsB (K : PySem.W.Frag) (d : Addr) (ents : List (Str × Int)) : Bool := ents.all fun q => match PySem.W.nsIn K d q.1 with
  | some (some (.int j _)) => decide (j = q.2)
  | _ => false
theorem ents_ok {K : PySem.W.Frag} {d : Addr} {ents : List (Str × Int)} (h : entsB K d ents = true) {z : Str} {i : Int} (hm : (z, i) ∈ ents) : ∃ t, PySem.W.nsIn K d z = some (some (.int i t)) := by
  have h2 := List.all_eq_true.mp h (z, i) hm
  cases e : PySem.W.nsIn K d z with
  | none => simp only [e] at h2; cases h2
  | some r =>
    cases r with
    | none => simp only [e] at h2; cases h2
    | some u =>
      cases u with
      | int j t =>
        simp only [e, decide_eq_true_eq] at h2
        exact ⟨t, by rw [h2]⟩
      | _ => simp only [e] at h2; cases h2
theorem lookup_mem {α : Type} {z : Str} {i : α} : ∀ {l : List (Str × α)}, l.lookup z = some i → (z, i) ∈ l
  | [], h => by cases h
  | (y, j) :: r, h => by
    rw [List.lookup_cons] at h
    by_cases e : z = y
    · subst e
      simp only [beq_self_eq_true] at h
      cases h
      exact .head _
    · rw [beq_false_of_ne e] at h
      exact .tail _ (lookup_mem h)
theorem lookup_not {α : Type} {z : Str} : ∀ {l : List (Str × α)}, l.lookup z = none → z ∉ l.map (·.1)
  | [], _, m => nomatch m
  | (y, j) :: r, h, m => by
    rw [List.lookup_cons] at h
    by_cases e : z = y
    · subst e
      simp only [beq_self_eq_true] at h
      cases h
    · rw [beq_false_of_ne e] at h
      rcases List.mem_cons.mp m with m | m
      · exact e m
      · exact lookup_not h m
theorem kdi_tab {K : PySem.W.Frag} {w : World} {d : Addr} {ents : List (Str × Int)} (h : He.dicW K d = some (He.keysIn w.params (ents.map (·.1)))) (hv : entsB K d ents = true) : KDI K w d ents := by
  obtain ⟨es, n, D⟩ := He.dicW_ok h
  refine ⟨es, n, D, fun z => ?_⟩
  cases e : ents.lookup z with
  | some i => exact ents_ok hv (lookup_mem e)
  | none =>
    dsimp only
    have h2 := h
    unfold He.dicW at h2
    rw [D.at_] at h2
    have h1 : (match decide (("dict" : Str) = "dict") && ((#[] : Array (Option Value)).isEmpty && !(d == sysModules)) with
            | true => some (es.toList.map He.keyOf)
            | false => none) = some (He.keysIn w.params (ents.map (·.1))) := h2
    rw [D.low] at h1
    have h3 : es.toList.map He.keyOf = He.keysIn w.params (ents.map (·.1)) := Option.some.inj h1
    obtain ⟨f, r⟩ := key_find h3 (lookup_not e)
    unfold PySem.W.nsIn
    rw [D.at_]
    dsimp only
    rw [f]
    dsimp only
    rw [if_neg (by rw [r]; simp)]
abbrev KtW : Type := Str × List (Str × Int)
abbrev TbW : Type := List (Option (List (Option (Str × Int))))
def tabWK (K : PySem.W.Frag) (t : KtW) : Option (List (Option (Str × Int))) := He.dicW K (He.ga K t.1)
def tabWV (P : Params) (t : KtW) : Option (List (Option (Str × Int))) := some (He.keysIn P (t.2.map (·.1)))
def obsWT (as : List Addr) (ds : List WD) (ex : PySem.W.Frag → Bool) (ts : List KtW) (g : Addr → Option Obj) : (Bool × List (Option FdW)) × TbW := (obsW as ds ex g, ts.map fun t => tabWK (He.frG g as) t)
def hookWT (as : List Addr) (ds : List WD) (ex : PySem.W.Frag → Bool) (ts : List KtW) : PySem.W.Hook where
  α := (Bool × List (Option FdW)) × TbW
  obs := fun s => obsWT as ds ex ts s.heap.get?
  val := fun w => ((true, ds.map WD.val), ts.map fun t => tabWV w.params t)
  says := fun w h => ∃ K : PySem.W.Frag, K.In h ∧ ex K = true ∧ (ds.map fun d => wOf K d.at_) = ds.map WD.val ∧ (ts.map fun t => tabWK K t) = ts.map fun t => tabWV w.params t
  of := fun _ _ e => ⟨_, He.frG_in, congrArg (fun z => z.1.1) e, congrArg (fun z => z.1.2) e, congrArg (fun z => z.2) e⟩
  keeps := fun _ _ _ ⟨K, hK, c⟩ k => ⟨K, PySem.W.Frag.In.keeps hK k, c⟩
theorem obsWT_eq {as : List Addr} {ds : List WD} {ex : PySem.W.Frag → Bool} {ts : List KtW} {g : Addr → Option Obj} {s : Shared} (h : ∀ a, g a = s.heap.get? a) : obsWT as ds ex ts g = (hookWT as ds ex ts).obs s := by
  have e : g = s.heap.get? := funext h
  rw [e]
  rfl
theorem tab_at {K : PySem.W.Frag} {P : Params} {ts : List KtW} (c : (ts.map fun t => tabWK K t) = ts.map fun t => tabWV P t) (i : Nat) {t : KtW} (h : ts[i]? = some t) : He.dicW K (He.ga K t.1) = some (He.keysIn P (t.2.map (·.1))) := by
  have e := congrArg (fun l => l[i]?) c
  simp only [List.getElem?_map, h, Option.map_some, Option.some.injEq] at e
  exact e
end Ls
namespace Ls
open PySem PySem.Spec PyProof.Rows L2
def topS (i : Nat) : Stmt := PySem.Challenge.pw_longstrike_k33_weaving_lines_refused.main.body.getD i (.Pass ⟨0, 0, 0, 0⟩)
/-- the built-in names that are called -/
structure Bt (mg : Str → Option Value) : Prop where
  m_int : mg "int" = none
  m_len : mg "len" = none
  m_range : mg "range" = none
  m_list : mg "list" = none
  m_tuple : mg "tuple" = none
  m_dict : mg "dict" = none
  m_isinstance : mg "isinstance" = none
  m_all : mg "all" = none
  m_any : mg "any" = none
  m_repr : mg "repr" = none
  m_str : mg "str" = none
/-! ### short steps -/
local macro_rules | `(tactic| walk_at "ls_ne") => `(tactic| first | assumption | exact Ne.symm (by assumption) | exact ne_of_none (by assumption) (by assumption) | exact Ne.symm (ne_of_none (by assumption) (by assumption)))
local macro_rules | `(tactic| walk_at "ls_hp") => `(tactic| first
  | with_reducible assumption
  | exact upd_same
  | exact Eq.trans (upd_ne (by walk_at "ls_ne")) (by walk_at "ls_hp"))
local macro_rules | `(tactic| walk_at "ls_st") => `(tactic| first
  | with_reducible assumption
  | exact Stm.upd (by walk_at "ls_st") (by first | walk_at "ls_ne" | exact (Stm.noneS (by assumption) (by assumption)).1) (by first | walk_at "ls_ne" | exact (Stm.noneS (by assumption) (by assumption)).2))
local macro_rules | `(tactic| walk_at "ls1") => `(tactic| first
  | refine ⟨_, rfl, ?_⟩
  | refine ⟨_, _, rfl, rfl, ?_⟩
  | refine ⟨_, _, _, _, rfl, rfl, .inl (.inl (by walk_at "ls_hp")), rfl, ?_⟩
  | refine ⟨_, _, _, _, rfl, rfl, (by walk_at "ls_hp"), rfl, ?_⟩
  | refine ⟨rfl, _, rfl, ?_⟩
  | refine ⟨.inl ⟨rfl, _, .inl (.inl (by walk_at "ls_hp"))⟩, ?_⟩)
local macro_rules | `(tactic| walk_at "ls") => `(tactic| repeat (walk_at "ls1"))

section
variable {P : Program} {w : World} {K : PySem.W.Frag} {mg : Str → Option Value} {base : Heap}
/-! ### _law_draw -/
abbrev s__law_draw : Stmt := topS 25
theorem sc__law_draw : FnScope ["_law_stream", "_law_many", "_law_digit", "_law_mixed"] ["_law_stream", "_law_many"] (defScope s__law_draw) := ⟨rfl, rfl, rfl, by decide +kernel, rfl, by decide +kernel, by decide +kernel⟩
abbrev N__law_draw : List Str := ["_law_stream", "_law_many", "_law_digit", "_law_mixed"]
theorem ok_draw {f : Addr} {fd : FuncData} {j : Nat} (F : Fun K "_law_draw" "_law_draw" s__law_draw f fd) (T : Bt mg) : FnOk P w K mg base CX0 (j + 1) f fd ["_law_stream", "_law_many"] spDraw := by
  refine F.ok sc__law_draw (fun vs H Q E h => ?_) (fun cdv A outer s H vs Q E hr h => ?_)
  · obtain ⟨S, L, n, k, rfl, _⟩ := h
    rfl
  · obtain ⟨S, L, n, k, rfl, hst, hn, hk, hk2, q⟩ := h
    have hu := hu_of hr
    refine ⟨_, (pss_cons (ps_asg (pe_op op_add (pe_ix (ixL K) (pv 0) pe_int (fun _ _ => rfl)) pe_int) (pg_sub (pv 0) pe_int set_list))
      (C8.pss_cut (ps_if (PW.pt (pw_and (pt_cmpR op_eq (pe_ix (ixL K) (pv 0) pe_int (fun _ _ => rfl)) pe_int (nomark _)) (pw_and1 (pt_cmpR (neD K hr) (pe_ix (ixL K) (pv 0) pe_int (fun _ _ => rfl)) (pe_lst pa_nil) (nomark _))))) (pss_cons (ps_asg (pe_bm PySem.F.plainAttrs_list PySem.F.slot_list_pop PySem.F.type_list_pop mt_popAt (pe_ix (ixL K) (pv 0) pe_int (fun _ _ => rfl)) (pa_cons pe_int pa_nil)) (pg_sub (pv 0) pe_int set_list))
      (pss_one (ps_if (pt_cmpR op_lt (pe_ix (ixL K) (pv 0) pe_int (fun _ _ => rfl)) (pe_op op_pow pe_int pe_int) (nomark _)) (pss_cons (ps_asg (pe_op op_mod (pe_callTy call_int1 (by rfl) T.m_int (by decide +kernel) (pa_cons (pe_op op_add (pe_op op_add (pe_op op_mul (pe_ix (ixL K) (pv 0) pe_int (fun _ _ => rfl)) pe_int) (pe_ix (ixL K) (pv 0) pe_int (fun _ _ => rfl))) pe_int) pa_nil)) pe_int) (pg_sub (pv 0) pe_int set_list))
      (pss_one (ps_asg pe_int (pg_sub (pv 0) pe_int set_list)))) pss_nil))) pss_nil)
      (pss_cons (ps_if (pt_cmpR op_gt (pe_ix (ixL K) (pv 0) pe_int (fun _ _ => rfl)) pe_int (nomark _)) (pss_cons (ps_set (i := 2) sc__law_draw.nd rfl (Or.inl rfl) (pe_op op_mod (pe_callTy call_int1 (by rfl) T.m_int (by decide +kernel) (pa_cons (pe_ix (ixL K) (pv 0) pe_int (fun _ _ => rfl)) pa_nil)) (pv 1)))
      (pss_cons (ps_asg (pe_op op_fdivW (pe_ix (ixL K) (pv 0) pe_int (fun _ _ => rfl)) (pv 1)) (pg_sub (pv 0) pe_int set_list))
      (pss_one (ps_ret (pv 2))))) pss_nil)
      (pss_cons (ps_set (i := 3) sc__law_draw.nd rfl (Or.inl rfl) (pe_op op_mod (pe_op op_pow (pe_op op_add (pe_op op_add (pe_ix (ixL K) (pv 0) pe_int (fun _ _ => rfl)) (pe_op op_mul pe_int (pe_ix (ixL K) (pv 0) pe_int (fun _ _ => rfl)))) pe_int) pe_int) pe_int))
      (pss_one (ps_ret (pe_op op_mod (pe_op op_mod (pe_op op_pow (pe_op op_add (pe_op op_add (pe_op op_mul (pv 3) pe_int) (pe_op op_mul (pe_op op_mul pe_int (pe_ix (ixL K) (pv 0) pe_int (fun _ _ => rfl))) (pe_ix (ixL K) (pv 0) pe_int (fun _ _ => rfl)))) pe_int) pe_int) pe_int) (pv 1)))))))), ?_⟩
    obtain ⟨ns, d, c, m, hS, hL, d0, c0, cn, m0, m1⟩ := id hst
    have nSL := hst.ne
    walk_at "ls"
    refine ⟨fun σ' H' => σ' = [some (.ref S), some (.int k), none, none] ∧ ∃ (ns : List Int) (d m : Int), H' S = some (.lst [.ref L, .int d, .int (c + 1), .int m]) ∧ H' L = some (.lst (ns.map V.int)) ∧ 0 ≤ d ∧ 0 ≤ m ∧ m < 2147483647 ∧ Old S L H H', ?_, ?_⟩
    · walk_at "ls"
      refine ite2 (fun e => ?_) (fun e => ?_)
      · walk_at "ls"
        refine ⟨by decide, fun p hp => ?_⟩
        have hd : d = 0 := V.int.inj (of_decide_eq_true e)
        subst hd
        have nSp : p ≠ S := fun z => by rw [z, upd_same] at hp; cases hp
        have nLp : p ≠ L := fun z => by rw [z, upd_ne nSL.symm, hL] at hp; cases hp
        refine ⟨.list (ns.map .int), .list [], .lst (.inl (.inl (by walk_at "ls_hp"))) (dp_ints _), .lst (.inl (.inl upd_same)) .nil, shaped_ints ns, by decide +kernel, _, rfl, ?_⟩
        rw [eqv_nil]
        cases ns with
        | nil =>
          rw [decide_eq_true rfl]
          refine iteF ?_
          exact ⟨rfl, [], 0, m, (by walk_at "ls_hp"), (by walk_at "ls_hp"), d0, m0, m1, fun b o h1 h2 e => by rw [upd_ne (ne_of_none (by rw [upd_ne h1]; exact e) hp), upd_ne h1]; exact e⟩
        | cons x r =>
          rw [decide_eq_false (by simp)]
          refine iteT ?_
          walk_at "ls"
          refine ⟨_, _, _, 0, .int x, rfl, rfl, (by walk_at "ls_hp"), by decide, by decide, (ixN_seq (by show ixN ((List.map V.int (x :: r)).length) 0 = some 0; unfold ixN; rw [if_pos (by decide), if_pos (by rw [List.length_map, List.length_cons]; omega)]; rfl)).1, rfl, ?_⟩
          walk_at "ls"
          refine ⟨⟨by decide, by decide, by decide⟩, ?_⟩
          walk_at "ls"
          refine ite2 (fun e => ?_) (fun e => ?_)
          · walk_at "ls"
            refine ⟨.inr ⟨by decide, by decide⟩, ?_⟩
            walk_at "ls"
            refine .inl ⟨_, rfl, ?_⟩
            walk_at "ls"
            refine ⟨(by show (0 : Int) < 2147483647; decide), ?_⟩
            walk_at "ls"
            refine ⟨rfl, r, 0, _, upd_same, (by walk_at "ls_hp"), by decide, emod_lo _ (by decide), emod_hi _ (by decide), fun b o h1 h2 e => ?_⟩
            have np : b ≠ p := ne_of_none (by rw [upd_ne h1]; exact e) hp
            rw [upd_ne h1, upd_ne h1, upd_ne h1, upd_ne h2, upd_ne np, upd_ne h1]
            exact e
          · refine ⟨rfl, r, x, m, upd_same, (by walk_at "ls_hp"), ?_, m0, m1, fun b o h1 h2 e => ?_⟩
            · have hx : ¬ x < 10 ^ (18 : Int).toNat := fun z => e (decide_eq_true z)
              have h18 : (0 : Int) ≤ 10 ^ (18 : Int).toNat := by decide
              omega
            have np : b ≠ p := ne_of_none (by rw [upd_ne h1]; exact e) hp
            rw [upd_ne h1, upd_ne h2, upd_ne np, upd_ne h1]
            exact e
      · exact ⟨rfl, ns, d, m, upd_same, (by walk_at "ls_hp"), d0, m0, m1, fun b o h1 h2 e => by rw [upd_ne h1]; exact e⟩
    · rintro σ' H' ⟨rfl, ns, d, m, hS, hL, d0, m0, m1, hO⟩
      walk_at "ls"
      refine ite2 (fun e => ?_) (fun e => ?_)
      · have hd : 0 < d := of_decide_eq_true e
        walk_at "ls"
        refine .inl ⟨_, rfl, ?_⟩
        walk_at "ls"
        refine ⟨hk, ?_⟩
        walk_at "ls"
        refine ⟨⟨hk, log_lt hk hk2⟩, ?_⟩
        walk_at "ls"
        refine q _ _ (emod_lo _ hk) (emod_hi _ hk) ⟨ns, d / k, c + 1, m, upd_same, (by walk_at "ls_hp"), Int.ediv_nonneg (by omega) (by omega), by omega, by omega, m0, m1⟩ fun b o h1 h2 e => ?_
        rw [upd_ne h1]
        exact hO b o h1 h2 e
      · walk_at "ls"
        refine ⟨.inl ⟨by decide, by decide⟩, ?_⟩
        walk_at "ls"
        refine ⟨⟨by decide, by decide, lt_pow m0 m1 (by omega) (by omega)⟩, ?_⟩
        walk_at "ls"
        refine ⟨(by show (0 : Int) < 2147483629; decide), ?_⟩
        walk_at "ls"
        refine ⟨.inr ⟨by decide, by decide⟩, ?_⟩
        walk_at "ls"
        refine ⟨.inl ⟨by decide, by decide⟩, ?_⟩
        walk_at "ls"
        refine ⟨.inr ⟨by omega, by omega⟩, ?_⟩
        walk_at "ls"
        have hx := emod_hi ((m + 104729 * (c + 1) + 17) ^ Int.toNat 5) (show (0 : Int) < 2147483629 by decide)
        have hx0 := emod_lo ((m + 104729 * (c + 1) + 17) ^ Int.toNat 5) (show (0 : Int) < 2147483629 by decide)
        have hsq := sq_le (c := c + 1) (by omega) (by omega)
        refine ⟨⟨by decide, by decide, ?_⟩, ?_⟩
        · show Int.natAbs ((m + 104729 * (c + 1) + 17) ^ Int.toNat 5 % 2147483629 * 48271 + 40503 * (c + 1) * (c + 1) + 13) < 2 ^ 64
          omega
        walk_at "ls"
        refine ⟨(by show (0 : Int) < 1000000007; decide), ?_⟩
        walk_at "ls"
        refine ⟨hk, ?_⟩
        refine q _ _ (emod_lo _ hk) (emod_hi _ hk) ⟨ns, d, c + 1, m, hS, hL, d0, by omega, by omega, m0, m1⟩ hO
end
end Ls
namespace Ls
open PySem PySem.Spec PyProof.Rows L2
/-! ### short steps -/
local macro_rules | `(tactic| walk_at "ls_ne") => `(tactic| first | assumption | exact Ne.symm (by assumption) | exact ne_of_none (by assumption) (by assumption) | exact Ne.symm (ne_of_none (by assumption) (by assumption)))
local macro_rules | `(tactic| walk_at "ls_hp") => `(tactic| first
  | with_reducible assumption
  | exact upd_same
  | exact Eq.trans (upd_ne (by walk_at "ls_ne")) (by walk_at "ls_hp"))
local macro_rules | `(tactic| walk_at "ls_st") => `(tactic| first
  | with_reducible assumption
  | exact Stm.upd (by walk_at "ls_st") (by first | walk_at "ls_ne" | exact (Stm.noneS (by assumption) (by assumption)).1) (by first | walk_at "ls_ne" | exact (Stm.noneS (by assumption) (by assumption)).2))
local macro_rules | `(tactic| walk_at "ls1") => `(tactic| first
  | refine ⟨_, rfl, ?_⟩
  | refine ⟨_, _, rfl, rfl, ?_⟩
  | refine ⟨_, _, _, _, rfl, rfl, .inl (.inl (by walk_at "ls_hp")), rfl, ?_⟩
  | refine ⟨_, _, _, _, rfl, rfl, (by walk_at "ls_hp"), rfl, ?_⟩
  | refine ⟨rfl, _, rfl, ?_⟩
  | refine ⟨.inl ⟨rfl, _, .inl (.inl (by walk_at "ls_hp"))⟩, ?_⟩)
local macro_rules | `(tactic| walk_at "ls") => `(tactic| repeat (walk_at "ls1"))

/-! ### texts -/
theorem abc_cps : (("abcdefghijklmnopqrstuvwxyz" : Str)).cps.toList = List.range' 97 26 := by decide +kernel
theorem abc_at {i : Int} (h0 : 0 ≤ i) (h1 : i < 26) : ∃ c : Nat, atI (("abcdefghijklmnopqrstuvwxyz" : Str)).cps.toList i = some c ∧ 97 ≤ c ∧ c ≤ 122 := by
  obtain ⟨n, rfl⟩ := Int.eq_ofNat_of_zero_le h0
  refine ⟨97 + n, ?_, by omega, by omega⟩
  rw [atI_nat (j := n) (v := 97 + n)]
  rw [abc_cps, List.getElem?_range' (by omega)]
  simp
/-- one to eight small letters -/
def Nm' (z : Str) : Prop := 1 ≤ z.length ∧ z.length ≤ 8 ∧ ∀ c ∈ z.cps.toList, 97 ≤ c ∧ c ≤ 122
def Nm (z : Str) : Prop := Nm' z ∧ z ≠ "strike"
def words : List Str := ["kind", "open", "column", "from", "to", "check", "fall", "clear", "lone", "fresh", "put", "turn", "fell", "spread", "stuck", "again", "bare", "hold"]
theorem words_nm : ∀ y ∈ words, Nm' y := by
  intro y hy
  have h : words.all (fun y => decide (1 ≤ y.length) && decide (y.length ≤ 8) && y.cps.toList.all fun c => decide (97 ≤ c) && decide (c ≤ 122)) = true := by decide +kernel
  have h2 := List.all_eq_true.mp h y hy
  simp only [Bool.and_eq_true, decide_eq_true_eq, List.all_eq_true] at h2
  exact ⟨h2.1.1, h2.1.2, fun c hc => h2.2 c hc⟩
theorem words_at {i : Int} (h0 : 0 ≤ i) (h1 : i < 18) : ∃ y, atI (words.map V.str) i = some (.str y) ∧ y ∈ words := by
  obtain ⟨n, rfl⟩ := Int.eq_ofNat_of_zero_le h0
  have hl : words.length = 18 := by decide +kernel
  have hn : n < words.length := by omega
  refine ⟨words[n], atI_nat ?_, List.getElem_mem hn⟩
  rw [List.getElem?_map, List.getElem?_eq_getElem hn]
  rfl
theorem all_flat : ∀ ts : List Str, (ts.map V.str).all flatV = true
  | [] => rfl
  | t :: r => by rw [List.map_cons, List.all_cons, all_flat r]; rfl
theorem in_strs (z : Str) : ∀ ts : List Str, inV (.str z) (ts.map V.str) = decide (z ∈ ts)
  | [] => rfl
  | t :: r => by
    have ih := in_strs z r
    unfold inV at ih ⊢
    rw [List.map_cons, List.any_cons, ih]
    by_cases h : t = z
    · subst h
      simp [eqV]
    · have h2 : ¬ z = t := fun e => h e.symm
      simp [eqV, h, h2]
theorem signs_at {z : Str} {i : Nat} {x : V} (h : (signs z)[i]? = some x) : ∃ c, x = .str ⟨#[c]⟩ := by
  unfold signs at h
  rw [List.getElem?_map] at h
  cases e : z.cps.toList[i]? with
  | none => rw [e] at h; cases h
  | some c => rw [e] at h; exact ⟨c, (Option.some.inj h).symm⟩
theorem str_at {ts : List Str} {i : Nat} {x : V} (h : (ts.map V.str)[i]? = some x) : ∃ y, x = .str y := by
  rw [List.getElem?_map] at h
  cases e : ts[i]? with
  | none => rw [e] at h; cases h
  | some c => rw [e] at h; exact ⟨c, (Option.some.inj h).symm⟩
def addQ : V → Option V
  | .str c => some (.str ("q" ++ c))
  | _ => none
def qs : List Str := (List.range' 97 26).map fun c => ("q" : Str) ++ (⟨#[c]⟩ : Str)
theorem addQ_all : (signs "abcdefghijklmnopqrstuvwxyz").filterMap addQ = qs.map V.str := by decide +kernel
theorem qs_nm : ∀ y ∈ qs, Nm y := by
  intro y hy
  have h : qs.all (fun y => decide (1 ≤ y.length) && decide (y.length ≤ 8) && (y.cps.toList.all fun c => decide (97 ≤ c) && decide (c ≤ 122)) && !decide (y = "strike")) = true := by decide +kernel
  have h2 := List.all_eq_true.mp h y hy
  simp only [Bool.and_eq_true, decide_eq_true_eq, List.all_eq_true, Bool.not_eq_true', decide_eq_false_iff_not] at h2
  exact ⟨⟨h2.1.1.1, h2.1.1.2, fun c hc => h2.1.2 c hc⟩, h2.2⟩
def notIn (ts : List Str) (v : V) : Option V := if inV v (ts.map V.str) = true then none else some v
theorem notIn_all (ts : List Str) : ∀ ys : List Str, (ys.map V.str).filterMap (notIn ts) = (ys.filter fun z => !decide (z ∈ ts)).map V.str
  | [] => rfl
  | y :: r => by
    rw [List.map_cons, List.filterMap_cons, List.filter_cons, notIn_all ts r]
    unfold notIn
    rw [in_strs]
    by_cases h : y ∈ ts
    · simp [h]
    · simp [h]
theorem sub_len : ∀ (l : List Str), l.Nodup → ∀ ts : List Str, (∀ x ∈ l, x ∈ ts) → l.length ≤ ts.length
  | [], _, ts, _ => Nat.zero_le _
  | a :: r, nd, ts, h => by
    have ha : a ∈ ts := h a (List.mem_cons_self ..)
    have nd' := List.nodup_cons.mp nd
    have ih := sub_len r nd'.2 (ts.erase a) fun x hx => (List.mem_erase_of_ne (fun e => nd'.1 (by rw [← e]; exact hx))).mpr (h x (List.mem_cons_of_mem _ hx))
    rw [List.length_erase_of_mem ha] at ih
    have : 0 < ts.length := List.length_pos_of_mem ha
    rw [List.length_cons]
    omega
theorem some_q {ts : List Str} (h : ts.length < 26) : ∃ y r, (qs.filter fun z => !decide (z ∈ ts)) = y :: r ∧ y ∈ qs ∧ y ∉ ts := by
  cases e : qs.filter fun z => !decide (z ∈ ts) with
  | nil =>
    have h2 : ∀ x ∈ qs, x ∈ ts := fun x hx => by
      have := List.filter_eq_nil_iff.mp e x hx
      simpa using this
    have h3 := sub_len qs (by decide +kernel) ts h2
    have h4 : qs.length = 26 := by decide +kernel
    omega
  | cons y r =>
    have hm : y ∈ qs.filter fun z => !decide (z ∈ ts) := by rw [e]; exact List.mem_cons_self ..
    have h2 := List.mem_filter.mp hm
    exact ⟨y, r, rfl, h2.1, by simpa using h2.2⟩
/-- a text of one sign -/
def one (c : Nat) : Str := ⟨#[c]⟩
theorem joinL_nil : ∀ ps : List (List Nat), TL.joinL [] ps = ps.flatten
  | [] => rfl
  | [p] => by simp [TL.joinL]
  | p :: q :: r => by
    show p ++ ([] ++ TL.joinL [] (q :: r)) = _
    rw [joinL_nil (q :: r)]
    simp
theorem join_ones (cs : List Nat) : Txt.join "" (cs.map one) = ⟨cs.toArray⟩ := by
  have e : cs.map one = (cs.map fun c => [c]).map SX.S := by rw [List.map_map]; rfl
  have e2 : (("" : Str)) = SX.S [] := by decide +kernel
  rw [e, e2, SX.join_S, joinL_nil]
  have : (cs.map fun c => [c]).flatten = cs := by
    clear e e2
    induction cs with
    | nil => rfl
    | cons a r ih =>
      rw [List.map_cons, List.flatten_cons, ih]
      rfl
  rw [this]
theorem ones_len (cs : List Nat) : ((cs.map one).map (·.length)).sum = cs.length := by
  induction cs with
  | nil => rfl
  | cons a r ih =>
    rw [List.map_cons, List.map_cons, List.sum_cons, ih]
    show (1 : Nat) + _ = _
    rw [List.length_cons]
    omega
section
variable {P : Program} {w : World} {K : PySem.W.Frag} {mg : Str → Option Value} {base : Heap}
theorem Old.sq {S L a : Addr} {H H' : Hp} {xs : List V} (h : Old S L H H') (h1 : a ≠ S) (h2 : a ≠ L) (q : SqL K H a xs) : SqL K H' a xs := by
  rcases q with (q | ⟨o, q⟩) | q
  · exact .inl (.inl (h _ _ h1 h2 q))
  · exact .inl (.inr ⟨o, h _ _ h1 h2 q⟩)
  · exact .inr q
/-! ### _law_pick -/
abbrev s__law_pick : Stmt := topS 26
theorem sc__law_pick : FnScope ["_law_stream", "_law_things"] ["_law_stream", "_law_things"] (defScope s__law_pick) := ⟨rfl, rfl, rfl, by decide +kernel, rfl, by decide +kernel, by decide +kernel⟩
abbrev N__law_pick : List Str := ["_law_stream", "_law_things"]
def spPick (K : PySem.W.Frag) : Sp := fun vs H Q _ => ∃ (S L a : Addr) (n : Nat) (xs : List V), vs = [.ref S, .ref a] ∧ Stm H S L n ∧ n ≤ 10000000 ∧ SqL K H a xs ∧ a ≠ S ∧ a ≠ L ∧ 0 < xs.length ∧ xs.length ≤ 1000000 ∧
  ∀ (H' : Hp) (v : V), v ∈ xs → Stm H' S L (n + 1) → Old S L H H' → Q v H'
theorem atI_mem {xs : List V} {i : Int} (h0 : 0 ≤ i) (h1 : i < (xs.length : Int)) : ∃ v, atI xs i = some v ∧ v ∈ xs := by
  obtain ⟨n, rfl⟩ := Int.eq_ofNat_of_zero_le h0
  have hn : n < xs.length := by omega
  exact ⟨xs[n], atI_nat (List.getElem?_eq_getElem hn), List.getElem_mem hn⟩
theorem ok_pick {f : Addr} {fd : FuncData} (F : Fun K "_law_pick" "_law_pick" s__law_pick f fd) (T : Bt mg) (O__law_draw : Own P w K mg base CX0 1 "_law_draw" ["_law_stream", "_law_many"] spDraw) : FnOk P w K mg base CX0 2 f fd ["_law_stream", "_law_things"] (spPick K) := by
  refine F.ok sc__law_pick (fun vs H Q E h => ?_) (fun cdv A outer s H vs Q E hr h => ?_)
  · obtain ⟨S, L, a, n, xs, rfl, _⟩ := h
    rfl
  · obtain ⟨S, L, a, n, xs, rfl, hst, hn, hq, aS, aL, x0, x1, q⟩ := h
    have hu := hu_of hr
    refine ⟨_, (pss_one (ps_ret (pe_ix (ixL K) (pv 1) (own_call O__law_draw hr (by first | decide | omega) (pa_cons (pv 0) (pa_cons (pe_callB (len_seq K) (by rfl) T.m_len (by decide +kernel) (pa_cons (pv 1) pa_nil)) pa_nil))) (fun _ _ => rfl)))), ?_⟩
    walk_at "ls"
    refine ⟨_, _, rfl, .inl hq, ?_⟩
    refine ⟨S, L, n, _, rfl, hst, hn, by omega, by omega, fun H' r r0 r1 hst' hO => ?_⟩
    obtain ⟨v, hv, hm⟩ := atI_mem r0 r1
    exact ⟨_, _, _, v, rfl, rfl, hO.sq aS aL hq, hv, q H' v hm hst' hO⟩
/-! ### _law_fresh -/
abbrev s__law_fresh : Stmt := topS 28
theorem sc__law_fresh : FnScope ["_law_stream", "_law_taken", "_law_letters", "_law_words", "_law_name", "_law_k", "_law_one", "_law_sign"] ["_law_stream", "_law_taken"] (defScope s__law_fresh) := ⟨rfl, rfl, rfl, by decide +kernel, rfl, by decide +kernel, by decide +kernel⟩
abbrev N__law_fresh : List Str := ["_law_stream", "_law_taken", "_law_letters", "_law_words", "_law_name", "_law_k", "_law_one", "_law_sign"]
def spFresh : Sp := fun vs H Q _ => ∃ (S L a : Addr) (n : Nat) (ts : List Str), vs = [.ref S, .ref a] ∧ Stm H S L n ∧ n ≤ 9999900 ∧ H a = some (.lst (ts.map V.str)) ∧ a ≠ S ∧ a ≠ L ∧ ts.length < 26 ∧
  ∀ (H' : Hp) (z : Str), Nm z → z ∉ ts → Stm H' S L (n + 12) → Old S L H H' → Q (.str z) H'
theorem ok_fresh {f : Addr} {fd : FuncData} (F : Fun K "_law_fresh" "_law_fresh" s__law_fresh f fd) (T : Bt mg) (O__law_draw : Own P w K mg base CX0 1 "_law_draw" ["_law_stream", "_law_many"] spDraw) : FnOk P w K mg base CX0 2 f fd ["_law_stream", "_law_taken"] spFresh := by
  refine F.ok sc__law_fresh (fun vs H Q E h => ?_) (fun cdv A outer s H vs Q E hr h => ?_)
  · obtain ⟨S, L, a, n, ts, rfl, _⟩ := h
    rfl
  · obtain ⟨S, L, a, n, ts, rfl, hst, hn, ha, aS, aL, tl, q⟩ := h
    have hu := hu_of hr
    refine ⟨_, (pss_cons (ps_asg (pe_tup (pa_cons pe_str (pa_cons (pe_lst (pa_cons pe_str (pa_cons pe_str (pa_cons pe_str (pa_cons pe_str (pa_cons pe_str (pa_cons pe_str (pa_cons pe_str pa_nil)))))))) pa_nil))) (pg_tup rfl (pgs_cons (pg_name (i := 2) sc__law_fresh.nd rfl (Or.inr rfl)) (pgs_cons (pg_name (i := 3) sc__law_fresh.nd rfl (Or.inl rfl)) pgs_nil))))
      (pss_cons (ps_set (i := 3) sc__law_fresh.nd rfl (Or.inl rfl) (pe_op op_cat (pv 3) (pe_lst (pa_cons pe_str (pa_cons pe_str (pa_cons pe_str (pa_cons pe_str (pa_cons pe_str (pa_cons pe_str (pa_cons pe_str (pa_cons pe_str (pa_cons pe_str (pa_cons pe_str (pa_cons pe_str pa_nil))))))))))))))
      (pss_cons (ps_set (i := 4) sc__law_fresh.nd rfl (Or.inl rfl) (pe_join pe_str (pe_lc (own := [("_law_k", 5)]) (g := gName 5) (by rfl) sc__law_fresh.nd (pi_range1 rfl T.m_range (pa_cons (pe_op op_add pe_int (own_call O__law_draw hr (by first | decide | omega) (pa_cons (pv 0) (pa_cons pe_int pa_nil)))) pa_nil)) (blkOk_by (own := [("_law_k", 5)]) (N := N__law_fresh) (sc := defScope s__law_fresh) (by decide +kernel)) (fun _ _ _ _ _ => (pg_name (i := 5) sc__law_fresh.nd rfl (Or.inl rfl) (Or.inr rfl))) (fun _ _ _ _ _ => pts_nil) (fun _ _ _ _ _ => (pe_ix ix_str (pv 2) (own_call O__law_draw hr (by first | decide | omega) (pa_cons (pv 0) (pa_cons pe_int pa_nil))) (fun _ _ => rfl))))))
      (C8.pss_cut (ps_set (i := 4) sc__law_fresh.nd rfl (Or.inl rfl) (pe_ifExp (pt_cmpR op_eq (own_call O__law_draw hr (by first | decide | omega) (pa_cons (pv 0) (pa_cons pe_int pa_nil))) pe_int (nomark _)) (pe_ix (ixL K) (pv 3) (own_call O__law_draw hr (by first | decide | omega) (pa_cons (pv 0) (pa_cons pe_int pa_nil))) (fun _ _ => rfl)) (pv 4)))
      (pss_cons (ps_if (PW.pt (pw_or (pt_cmpR (in_seq K) (pv 4) (pv 1) (by rfl)) (pw_or1 (pt_cmpR op_eq (pv 4) pe_str (nomark _))))) (pss_one (ps_ret (pe_ix (ixL K) (pe_lc (own := [("_law_one", 6)]) (g := gName 6) (by rfl) sc__law_fresh.nd (pi_list (pe_lc (own := [("_law_sign", 7)]) (g := gName 7) (by rfl) sc__law_fresh.nd (pi_str (pv 2)) (blkOk_by (own := [("_law_sign", 7)]) (N := N__law_fresh) (sc := defScope s__law_fresh) (by decide +kernel)) (fun _ _ _ _ _ => (pg_name (i := 7) sc__law_fresh.nd rfl (Or.inl rfl) (Or.inr rfl))) (fun _ _ _ _ _ => pts_nil) (fun _ _ _ _ _ => (pe_op op_add_str pe_str (pv 7))))) (blkOk_by (own := [("_law_one", 6)]) (N := N__law_fresh) (sc := defScope s__law_fresh) (by decide +kernel)) (fun _ _ _ _ _ => (pg_name (i := 6) sc__law_fresh.nd rfl (Or.inl rfl) (Or.inr rfl))) (fun _ _ _ _ _ => (pts_one (pt_cmpR (notIn_seq K) (pv 6) (pv 1) (by rfl)))) (fun _ _ _ _ _ => (pv 6))) pe_int (fun _ _ => rfl)))) pss_nil)
      (pss_one (ps_ret (pv 4)))))))), ?_⟩
    refine ⟨(by show 7 ≤ sizeLine; decide), fun w0 hw0 => ⟨(by show 2 ≤ sizeLine; decide), fun t0 ht0 => ?_⟩⟩
    have nw0 := hst.noneS hw0
    have nt0 : t0 ≠ w0 := fun e => by rw [e, upd_same] at ht0; cases ht0
    refine ⟨_, _, rfl, .inl (.inl upd_same), rfl, _, _, rfl, _, _, rfl, rfl, ?_⟩
    walk_at "ls"
    refine ⟨(by show 11 ≤ sizeLine; decide), fun w1 hw1 => ?_⟩
    have n10 : w1 ≠ w0 := fun e => by rw [e, upd_ne nt0.symm, upd_same] at hw1; cases hw1
    refine ⟨_, _, _, _, rfl, rfl, (by rw [upd_ne n10.symm, upd_ne nt0.symm]; exact upd_same), upd_same, (by show 7 + 11 ≤ sizeLine; decide), fun w2 hw2 => ?_⟩
    have mt := (Stm.upd hst nw0.1 nw0.2).noneS ht0
    have m1 := (Stm.upd (Stm.upd hst nw0.1 nw0.2) mt.1 mt.2).noneS hw1
    have m2 := (Stm.upd (Stm.upd (Stm.upd hst nw0.1 nw0.2) mt.1 mt.2) m1.1 m1.2).noneS hw2
    refine at_heap (φ := fun H1 => Stm H1 S L n ∧ Old S L H H1 ∧ H1 w2 = some (.lst (words.map V.str)) ∧ w2 ≠ S ∧ w2 ≠ L) ⟨?_, ?_, upd_same, m2⟩ ?_
    · exact (((hst.upd nw0.1 nw0.2).upd mt.1 mt.2).upd m1.1 m1.2).upd m2.1 m2.2
    · exact (((Old.new hw0).trans (.new ht0)).trans (.new hw1)).trans (.new hw2)
    rintro H1 ⟨st1, od1, h2, nw2⟩
    walk_at "ls"
    refine ⟨⟨_, rfl⟩, ?_⟩
    walk_at "ls"
    refine ⟨S, L, n, 8, rfl, st1, by omega, by decide, by decide, fun H2 r r0 r1 st2 od2 => ?_⟩
    walk_at "ls"
    refine ⟨by omega, by omega, fun D hD => ?_⟩
    have nD := st2.noneS hD
    refine lc_it walk_range (fun i H3 => ∃ cs : List Nat, cs.length = i ∧ (∀ c ∈ cs, 97 ≤ c ∧ c ≤ 122) ∧ H3 D = some (.lst ((cs.map one).map V.str)) ∧ Stm H3 S L (n + 1 + i) ∧ Old S L H2 H3) ⟨[], rfl, (fun _ h => nomatch h), upd_same, st2.upd nD.1 nD.2, .new hD⟩ (fun _ _ _ _ => trivial) (fun i x H3 H4 hi hP hy => ?_) (fun H3 hP => ?_)
    · obtain ⟨cs, hl, hc, h3, st3, od3⟩ := hP
      obtain ⟨rfl, rfl⟩ := hy
      refine ⟨rfl, ?_⟩
      walk_at "ls"
      refine ⟨S, L, n + 1 + i, 26, rfl, st3, by omega, by decide, by decide, fun H5 q0 q1 q2 st5 od5 => ?_⟩
      obtain ⟨c, hcat, hc1, hc2⟩ := abc_at q1 q2
      refine ⟨_, _, c, rfl, rfl, (by decide +kernel), hcat, _, od5 D _ nD.1 nD.2 h3, ?_, cs ++ [c], ?_, ?_, ?_, ?_, ?_⟩
      · rw [List.length_map, List.length_map, hl]
        exact small1000 (by omega)
      · rw [List.length_append, hl]
        rfl
      · intro d hd
        rcases List.mem_append.mp hd with h | h
        · exact hc d h
        · rw [List.mem_singleton.mp h]
          exact ⟨hc1, hc2⟩
      · rw [upd_same, List.map_append, List.map_append]
        rfl
      · exact (st5.mono (by omega)).upd nD.1 nD.2
      · intro b o h1 h2 e
        rw [upd_ne (ne_of_none e hD)]
        exact od5 b o h1 h2 (od3 b o h1 h2 e)
    · obtain ⟨cs, hl, hc, h3, st3, od3⟩ := hP
      refine ⟨_, D, cs.map one, rfl, rfl, .inl (.inl (.inl h3)), ?_, ?_⟩
      · rw [ones_len, List.length_map]
        show cs.length + cs.length * 0 ≤ 16777216
        omega
      rw [join_ones]
      refine at_heap (φ := fun H4 => Stm H4 S L (n + 10) ∧ Old S L H H4 ∧ H4 w2 = some (.lst (words.map V.str))) ⟨st3.mono (by omega), (od1.trans od2).trans od3, od3 _ _ nw2.1 nw2.2 (od2 _ _ nw2.1 nw2.2 h2)⟩ ?_
      rintro H4 ⟨st4, od4, h4⟩
      refine ⟨fun σ' H' => ∃ z, Nm' z ∧ σ' = [some (.ref S), some (.ref a), some (.str "abcdefghijklmnopqrstuvwxyz"), some (.ref w2), some (.str z), none, none, none] ∧ Stm H' S L (n + 12) ∧ Old S L H H', ?_, ?_⟩
      · walk_at "ls"
        refine ⟨S, L, n + 10, 8, rfl, st4, by omega, by decide, by decide, fun H5 q0 q1 q2 st5 od5 => ?_⟩
        walk_at "ls"
        refine ite2 (fun e => ?_) (fun e => ?_)
        · walk_at "ls"
          refine ⟨S, L, n + 11, 18, rfl, st5, by omega, by decide, by decide, fun H6 u0 u1 u2 st6 od6 => ?_⟩
          obtain ⟨y, hy, hm⟩ := words_at u1 u2
          exact ⟨_, _, _, _, rfl, rfl, .inl (.inl (od6 _ _ nw2.1 nw2.2 (od5 _ _ nw2.1 nw2.2 h4))), hy, y, words_nm y hm, rfl, st6, (od4.trans od5).trans od6⟩
        · walk_at "ls"
          exact ⟨_, ⟨(by show 1 ≤ cs.toArray.size; rw [List.size_toArray]; omega), (by show cs.toArray.size ≤ 8; rw [List.size_toArray]; omega), fun c h => hc c h⟩, rfl, st5.mono (by omega), od4.trans od5⟩
      · rintro σ' H6 ⟨z, hz, rfl, st6, od6⟩
        have ha6 : H6 a = some (.lst (ts.map V.str)) := od6 _ _ aS aL ha
        refine or2 (decide (z ∈ ts)) (decide (V.str z = V.str "strike")) (fun Q' q' => ?_) (fun _ Q' q' => ?_) ?_
        · walk_at "ls"
          refine ⟨_, _, rfl, .inl (.inl (.inl ha6)), rfl, all_flat ts, _, rfl, ?_⟩
          rw [in_strs]
          exact q'
        · walk_at "ls"
          exact q'
        refine ite2 (fun e => ?_) (fun e => ?_)
        · -- some name that is not taken
          walk_at "ls"
          intro D1 hD1
          refine lc_pure walk_str (signs "abcdefghijklmnopqrstuvwxyz") addQ (signs_len _) yld_str (by decide +kernel) (fun _ => trivial) (fun i x hi hx => ?_) ?_
          · obtain ⟨c, rfl⟩ := signs_at hx
            refine ⟨rfl, ?_⟩
            walk_at "ls"
            exact ⟨(by show 1 + 1 ≤ sizeLine; decide), lc_yes hx hi (by decide +kernel) rfl⟩
          have nd1 := st6.noneS hD1
          refine ⟨_, rfl, ⟨_, .inl (.inl upd_same)⟩, fun D2 hD2 => ?_⟩
          rw [addQ_all] at hD2 ⊢
          have n12 : D1 ≠ D2 := fun e => by rw [← e, upd_same] at hD2; cases hD2
          have naD : a ≠ D1 := ne_of_none ha6 hD1
          have ha7 : ∀ acc, (upd (upd H6 D1 (.lst (qs.map V.str))) D2 (.lst acc)) a = some (.lst (ts.map V.str)) := fun acc => by
            have naD2 : a ≠ D2 := ne_of_none (show (upd H6 D1 (.lst (qs.map V.str))) a = some _ by rw [upd_ne naD]; exact ha6) hD2
            rw [upd_ne naD2, upd_ne naD]
            exact ha6
          refine lc_pure (walk_list (xs := qs.map V.str)) (qs.map V.str) (notIn ts) rfl (fun i H x H' hi hy => hy) (by decide +kernel) (fun acc => .inl (.inl (by rw [upd_ne n12]; exact upd_same))) (fun i x hi hx => ?_) ?_
          · obtain ⟨y, rfl⟩ := str_at hx
            refine ⟨rfl, ?_⟩
            walk_at "ls"
            refine ⟨_, _, rfl, .inl (.inl (.inl (ha7 _))), rfl, all_flat ts, _, rfl, ?_⟩
            show if (!inV (V.str y) (ts.map V.str)) = true then _ else _
            rw [in_strs]
            refine ite2 (fun e => ?_) (fun e => ?_)
            · walk_at "ls"
              exact lc_yes hx hi (by decide +kernel) (by unfold notIn; rw [in_strs]; simpa using e)
            · exact lc_no hx (by unfold notIn; rw [in_strs]; simpa using e)
          · rw [notIn_all]
            obtain ⟨y, r, hy, hq, hn⟩ := some_q tl
            rw [hy]
            walk_at "ls"
            refine ⟨_, _, _, _, rfl, rfl, .inl (.inl upd_same), atI_nat (j := 0) rfl, q _ y (qs_nm y hq) hn ?_ ?_⟩
            · have nd2 := (st6.upd nd1.1 nd1.2).noneS hD2
              exact (st6.upd nd1.1 nd1.2).upd nd2.1 nd2.2
            · exact (od6.trans (.new hD1)).trans (.new hD2)
        · walk_at "ls"
          rw [Bool.or_eq_true, not_or, decide_eq_true_eq, decide_eq_true_eq] at e
          exact q H6 z ⟨hz, fun h => e.2 (congrArg V.str h)⟩ e.1 st6 od6
end
end Ls
namespace Ls
open PySem PySem.Spec PyProof.Rows L2 NdefX
open PySem.W (InstAt ks_superObj ksEnv mg_none_of)

/-! ### an own error over ValueError whose __init__ says super().__init__('..') ahead -/
abbrev bmVE : List Value := [.type "ValueError", .type "Exception", .type "BaseException", .type "object"]
/-- the class at C, the cell of its name, the code object of its __init__ -/
structure SupC (P : Program) (K : PySem.W.Frag) (C cc cda : Addr) : Prop where
  ox : OexC K C
  code : ∃ ccl cdd vs ccs file tf, K.lookup cda = some ⟨ccl, cdd, .fields vs, ccs⟩ ∧ vs[2]? = some (.str file tf) ∧ ((P.main.file : Str) == file) = true
  cell : ∃ cl cld csl, K.lookup cc = some ⟨cl, cld, .cell (some (.ref C)), csl⟩
  sub : PySem.W.mroIn K C (.ref C) = some true
  nsup : PySem.W.nsIn K mainGlobals "super" = some none
  opq : PySem.W.nsIn K cStatics "thirdparty.any" = some none
  sup : PySem.W.ks_superIn K C C "__init__" = some (some (.builtin "ValueError.__init__"))
  subV : PySem.W.subIn K (.ref C) (.type "ValueError") = some true
  ini : PySem.W.excInitIn K C bmVE "ValueError.__new__" = true
  top : (P.main.scope.names.lookup ("super" : Str)).isSome = false

section
variable {prog : Program} {w : World} {A : Around} {E : Value → Shared → Prop} {s : Shared} {h₀ : Heap} {L : Addr} {m mg : Str → Option Value} {K : PySem.W.Frag} {news : List (Addr × Obj)} {x C f cc cda : Addr} {ox : Obj} {odx : Option Obj}
  {body : List Stmt} {q : Str} {scope : Scope} {p0 p1 p2 p3 p4 p5 : Pos} {fd : FuncData} {ar : Arg} {oc : Value} {od : Option Addr} {osl : Array (Option Value)}
theorem sup_node {whole : Sem Value} {Q : Value → Shared → Prop} (T : SupC prog K C cc cda) (F : Fr h₀ L s.heap m) (M : Mod K mg h₀) (N : News h₀ L s.heap news)
    (hf : K.lookup f = some ⟨oc, od, .func fd, osl⟩) (hp : (fd.params.posonlyargs ++ fd.params.args).head? = some ar) (hv : m ar.arg = some (.ref x)) (I : InstAt s.heap x ox C odx)
    (hks : scope.names.lookup ("super" : Str) = some .globalImplicit) (hkc : scope.names.lookup ("__class__" : Str) = some .free) (hka : scope.names.lookup ar.arg = some .local) (hk : scope.kind = .function)
    (h : ∀ so h', Fr h₀ L h' m → News h₀ L h' ((so, ks_superObj C x C) :: news) → (∀ p ∈ news, p.1 < so) → Q (.ref so) { s with heap := h' }) :
    _root_.PySem.wpAt (model prog w) A (.func body (ksEnv q scope L f (.ref cda) cc)) (attributeBase (.Call (.Name "super" p0) [] [] p1) "__init__" (ksEnv q scope L f (.ref cda) cc) whole) Q E s := by
  have KH : K.In s.heap := M.kin.keeps F.keep
  obtain ⟨ccl, cdd, vs, ccs, file, tf, hcode, hvs, hfile⟩ := T.code
  obtain ⟨cl, cld, csl, hcell⟩ := T.cell
  obtain ⟨nm, qn, N', bs, bm, sn, sub, ab, col, dd, k0, k1, k2, k3, k5, hC, _⟩ := T.ox.cls
  obtain ⟨mb, hb, hbt⟩ := M.blt
  obtain ⟨hh, g, d, t, os⟩ := s
  have oC := KH _ _ hC
  refine ks_wpAt_super_base (env := ksEnv q scope L f (.ref cda) cc) hks hkc (by decide) rfl (KH _ _ hf) rfl hp rfl (KH _ _ hcode) rfl hvs hfile T.top ?_
  refine PySem.W.ks_loadName_global hk hks ?_
  refine Calls.loadGlobal_builtin (env := ksEnv q scope L f (.ref cda) cc) (M.glob.keeps F.keep) (mg_none_of M.kin M.glob T.nsup) (hb.keeps F.keep) ((hbt _ (by decide +kernel)).trans PyProof.Rows.Boot.«super») ⟨rfl, ?_⟩
  refine wpAny_loadName_free hk hkc rfl ⟨_, KH _ _ hcell, rfl⟩ ?_
  refine wpAny_loadName_local hk hka F.ns hv ?_
  refine ks_wpAny_isType_cls oC rfl ⟨rfl, ?_⟩
  have nc : ∀ c, ox.data ≠ .cls c := fun c e => by
    have z := I.no
    unfold PySem.W.notCls at z
    rw [e] at z
    exact Bool.noConfusion z
  refine ks_wpAny_call_super oC rfl I.at_ I.cls nc (PySem.W.looks_mroIn KH T.sub) fun h' e k => ?_
  obtain ⟨F', N', l'⟩ := PySem.W.ks_newsPush (s := ⟨hh, g, d, t, os⟩) F N rfl e k
  exact h _ _ F' N' l'
/-- how that call reads in its frame -/
def SupEv (q : Str) (scope : Scope) (f cc cda : Addr) (txt : Str) (j : Nat) (p0 p1 p2 p3 p4 : Pos) : Prop := ∀ L, ∃ pl : Sem Bool, eval (.Call (.Attribute (.Call (.Name "super" p0) [] [] p1) "__init__" p2) [.Constant (.str txt) j p3] [] p4) (ksEnv q scope L f (.ref cda) cc) = (do
  let ov ← attributeBase (.Call (.Name "super" p0) [] [] p1) "__init__" (ksEnv q scope L f (.ref cda) cc) (eval (.Call (.Name "super" p0) [] [] p1) (ksEnv q scope L f (.ref cda) cc))
  standAt p2.atName
  let (f', first) ← holding [ov] (getMethod ov "__init__" pl)
  callWith p4 f' first (backTo p4 (starEach [.Constant (.str txt) j p3] (ksEnv q scope L f (.ref cda) cc))) [])
/-- the statement super().__init__('..') -/
theorem sup_first {txt : Str} {j : Nat} {t0 : Addr} {Q : Flow → Shared → Prop} (T : SupC prog K C cc cda) (F : Fr h₀ L s.heap m) (M : Mod K mg h₀) (hx : s.heap.get? x = some (PySem.W.excObj C t0 none .none)) (xL : x ≠ L) (x0 : h₀.get? x = none)
    (hf : K.lookup f = some ⟨oc, od, .func fd, osl⟩) (hp : (fd.params.posonlyargs ++ fd.params.args).head? = some ar) (hv : m ar.arg = some (.ref x))
    (hks : scope.names.lookup ("super" : Str) = some .globalImplicit) (hkc : scope.names.lookup ("__class__" : Str) = some .free) (hka : scope.names.lookup ar.arg = some .local) (hk : scope.kind = .function)
    (hev : SupEv q scope f cc cda txt j p0 p1 p2 p3 p4) (h : ∀ h' tk t1, Fr h₀ L h' m → h'.get? x = some (PySem.W.excObj C t1 none .none) → Q .next { s with heap := h', toks := tk }) :
    _root_.PySem.wpAt (model prog w) A (.func body (ksEnv q scope L f (.ref cda) cc)) (exec (.Expr (.Call (.Attribute (.Call (.Name "super" p0) [] [] p1) "__init__" p2) [.Constant (.str txt) j p3] [] p4) p5) (ksEnv q scope L f (.ref cda) cc)) Q E s := by
  have N : News h₀ L s.heap [(x, PySem.W.excObj C t0 none .none)] := fun p hp => by
    rcases List.mem_singleton.mp hp with rfl
    exact ⟨hx, xL, x0⟩
  obtain ⟨pl, hcl⟩ := hev L
  refine ks_wpAt_Expr_any (ks_wpAt_MethodCall (pl := pl) ?_ hcl) (hi := by show (scope.kind == .module && _) = false; rw [hk]; rfl)
  refine sup_node (ox := PySem.W.excObj C t0 none .none) (odx := none) T F M N hf hp hv ⟨hx, rfl, rfl, trivial⟩ hks hkc hka hk fun so h1 F1 N1 l1 => ?_
  refine PySem.W.kxs_method PySem.W.kxs_ValueError F1 M.kin N1 (List.mem_cons_self ..) (ox := PySem.W.excObj C t0 none .none) (odx := none) ⟨(N1 _ (.tail _ (.head _))).1, rfl, rfl, trivial⟩ T.opq T.sup T.subV rfl fun u h2 F2 N2 l2 => ?_
  have xs : x ≠ so := Nat.ne_of_lt (l1 (x, PySem.W.excObj C t0 none .none) (.head _))
  have xu : x ≠ u := Nat.ne_of_lt (l2 (x, PySem.W.excObj C t0 none .none) (.tail _ (.head _)))
  refine PySem.W.kxs_callWith1 N2 (.head _) ?_
  refine Calls.spliced_cons (Calls.Constant_str (k := j) (pos := p3) (Calls.spliced_nil ⟨PySem.W.kxs_at N2 (.head _), ?_⟩))
  refine PySem.W.kxs_call F2 M.kin N2 PySem.F.excBase_ValueError T.ini (.head _) (PySem.W.UpdF.tail (Ne.symm xu) (PySem.W.UpdF.tail (Ne.symm xs) (PySem.W.UpdF.head fun p hp => nomatch hp))) (by show 1 ≤ sizeLine; rw [sizeLine_eq]; omega) fun t' h3 F3 N3 l3 => ?_
  exact h h3 _ t' F3 (N3 _ (.tail _ (.tail _ (.tail _ (.head _))))).1
end

/-- no error leaves -/
abbrev CXN : CXT := fun _ _ _ _ _ _ => False
/-- THE RULE: such an __init__ by what stands behind super().__init__('..') -/
theorem sup_fn {CX : CXT} {P : Program} {w : World} {K : PySem.W.Frag} {mg : Str → Option Value} {base : Heap} {k : Nat} {fI C cc cda : Addr} {name qual : Str} {params : Arguments} {body rest : List Stmt} {scope : Scope} {doc pm ct oc : Value}
    {od : Option Addr} {osl : Array (Option Value)} {N ps : List Str} {sp : Sp} {txt : Str} {j : Nat} {p0 p1 p2 p3 p4 p5 : Pos} {ar : Arg} (T : SupC P K C cc cda)
    (lk : K.lookup fI = some ⟨oc, od, .func (PySem.W.fnX name qual params body scope [("__class__", cc)] .none .none doc pm none (.ref cda) ct), osl⟩) (hcd : PySem.W.codeIn K (.ref cda) qual = true) (S : NScope N ps ["__class__"] scope)
    (hbd : body = .Expr (.Call (.Attribute (.Call (.Name "super" p0) [] [] p1) "__init__" p2) [.Constant (.str txt) j p3] [] p4) p5 :: rest)
    (hp : (params.posonlyargs ++ params.args).head? = some ar) (ha : ps[0]? = some ar.arg) (hks : scope.names.lookup ("super" : Str) = some .globalImplicit) (hev : SupEv qual scope fI cc cda txt j p0 p1 p2 p3 p4)
    (len : ∀ vs H Q E, sp vs H Q E → vs.length = ps.length)
    (self : ∀ vs H Q E, sp vs H Q E → ∃ a, vs[0]? = some (.ref a) ∧ H a = some (exo a C none))
    (hbody : ∀ (A : Around) (outer : List Env) (s : Shared) (H : Hp) (vs : List V) (Q : VK) (E : XK), sp vs H Q E →
      ∃ t, PSs (ncx CXN P w K mg base N ⟨name, qual, params, body, scope, [("__class__", cc)], cda⟩ fI A outer s H E) rest t ∧ t { nx := fun _ H' => Q .non H', rt := Q } (startF N vs [some (.ref C)]) H) :
    FnOk P w K mg base CX (k + 1) fI (PySem.W.fnX name qual params body scope [("__class__", cc)] .none .none doc pm none (.ref cda) ct) ps sp := by
  refine ⟨len, fun A outer s H args us vs Q E hr e0 hb r hsp => ?_⟩
  have hl := len _ _ _ _ hsp
  obtain ⟨a, hv0, hHa⟩ := self _ _ _ _ hsp
  obtain ⟨u0, hu0, ru0⟩ := r.get hv0
  obtain rfl : u0 = Value.ref a := ru0
  have bk : ∀ b o, base.get? b = some o → s.heap.get? b = some o := fun b o e => (e0.bs b o e).1
  have KX : K.In s.heap := e0.mod.kin.keeps bk
  have lim : s.heap.NoLimit := e0.mod.nolimit.keeps bk
  obtain ⟨t1, hoa⟩ := exo_at e0.hok hHa
  obtain ⟨cl, cld, csl, hcell⟩ := T.cell
  have C0 : CellsAt [("__class__", cc)] ["__class__"] [some (.ref C)] s.heap H := {
    len := rfl
    all := fun y c e => by
      have z : y = "__class__" ∧ c = cc := by
        by_cases hy : y = ("__class__" : Str)
        · subst hy
          simp [List.lookup] at e
          exact ⟨rfl, e.symm⟩
        · have e2 : (y == ("__class__" : Str)) = false := by simpa using hy
          simp [List.lookup, e2] at e
      obtain ⟨_, rfl⟩ := z
      refine ⟨?_, _, _, KX _ _ hcell, rfl⟩
      exact (e0.bs _ _ (e0.mod.kin _ _ hcell)).2
    inj := fun x y c e1 e2 => by
      have one : ∀ {y : Str}, List.lookup y [(("__class__" : Str), cc)] = some c → y = "__class__" := fun {y} e => by
        by_cases hy : y = ("__class__" : Str)
        · exact hy
        · have e2 : (y == ("__class__" : Str)) = false := by simpa using hy
          simp [List.lookup, e2] at e
      rw [one e1, one e2]
    has := fun i y e => by
      cases i with
      | succ i => simp at e
      | zero =>
        simp at e
        subst e
        refine ⟨cc, by simp [List.lookup], fun v hv => ?_⟩
        simp at hv
        subst hv
        exact ⟨.ref C, rfl, _, KX _ _ hcell, rfl⟩ }
  refine codeAny_call_function hr.depth (KX _ _ lk) rfl S.co S.gen rfl (PySem.W.codeRec_of KX hcd) (hb _ _ _ _ ?_)
  refine wpAny_newFunctionEnv S.nocell (fun ⟨n, _⟩ hy => S.par n (List.of_mem_zip hy).1) (fun h₁ hns hsb => ⟨lim.fresh _ hsb, ?_⟩) S.kind
  have kp : ∀ b o, s.heap.get? b = some o → h₁.get? b = some o := fun b o e => hsb.extBut b o (Nat.ne_of_lt (Heap.lt_size e)) (Heap.get?_push_of_some _ e)
  obtain ⟨t, ht, hq⟩ := hbody A outer s H vs Q E hsp
  have I1 : Inv (ncx CXN P w K mg base N ⟨name, qual, params, body, scope, [("__class__", cc)], cda⟩ fI A outer s H E) [] (startF N vs [some (.ref C)]) H { s with heap := h₁, toks := s.toks + (ps.zip us).length } := inv_startN S hr.hd e0 hl r C0 hns kp
  have aL : a ≠ s.heap.objs.size := Nat.ne_of_lt (Heap.lt_size hoa)
  have hid : ∀ b o, (PySem.W.hideAll s.heap [a]).get? b = some o → s.heap.get? b = some o := fun b o e => PySem.W.of_hideAll _ e
  have G0 : ∀ b o, base.get? b = some o → (PySem.W.hideAll s.heap [a]).get? b = some o := fun b o e => PySem.W.hideAll_get _ (bk b o e) fun z => by
    have z' := List.mem_singleton.mp z
    subst z'
    rw [(e0.bs _ _ e).2] at hHa
    cases hHa
  have M0 : Mod K mg (PySem.W.hideAll s.heap [a]) := ⟨e0.mod.kin.keeps G0, e0.mod.glob.keeps G0, by
    obtain ⟨mb, hb, hbt⟩ := e0.mod.blt
    exact ⟨mb, hb.keeps G0, hbt⟩, e0.mod.nolimit.keeps G0⟩
  have ndP : ps.Nodup := by
    have q := S.nd.sublist (List.take_sublist (ps.length + [("__class__" : Str)].length) N)
    rw [S.pre] at q
    exact (List.nodup_append.mp q).1
  have F1 : Fr (PySem.W.hideAll s.heap [a]) s.heap.objs.size h₁ (fun y => (ps.zip us).reverse.lookup y) := ⟨hns, fun b o e => kp _ _ (hid _ _ e), Nat.le_of_eq (PySem.W.hideAll_size _ _)⟩
  show codeAny _ _ (.func body (envF ⟨name, qual, params, body, scope, [("__class__", cc)], cda⟩ fI s.heap.objs.size)) _ _
  refine ks_codeAny_funcAt ?_
  show _root_.PySem.wpAt _ _ (.func body (ksEnv qual scope s.heap.objs.size fI (.ref cda) cc)) (execs body (ksEnv qual scope s.heap.objs.size fI (.ref cda) cc)) _ _ _
  have hbx : execs body (ksEnv qual scope s.heap.objs.size fI (.ref cda) cc) = execs (.Expr (.Call (.Attribute (.Call (.Name "super" p0) [] [] p1) "__init__" p2) [.Constant (.str txt) j p3] [] p4) p5 :: rest) (ksEnv qual scope s.heap.objs.size fI (.ref cda) cc) := by rw [hbd]
  rw [hbx]
  refine ks_wpAt_execs_cons ?_
  refine sup_first (x := a) T F1 M0 (kp _ _ hoa) aL (PySem.W.hideAll_none _ (List.mem_singleton.mpr rfl)) lk hp (zip_look ndP ha hu0) hks (S.frk _ (List.mem_singleton.mpr rfl)) (S.par _ (List.mem_of_getElem? ha)) S.kind hev fun h3 tk t3 F3 hx3 => ?_
  have k3 : ∀ b o, b ≠ a → s.heap.get? b = some o → h3.get? b = some o := fun b o hb e => F3.keep _ _ (PySem.W.hideAll_get _ e fun z => hb (List.mem_singleton.mp z))
  have old : ∀ b o, b ≠ s.heap.objs.size → h₁.get? b = some o → s.heap.get? b = some o := fun b o hb e => by
    exact (Heap.get?_push_ne _ _ _ hb).symm.trans ((hsb.2 b hb).symm.trans e)
  have na : ∀ {b : Addr}, H b = none → b ≠ a := fun {b} n z => by
    rw [z, hHa] at n
    cases n
  have eu : upd H a (exo a C none) = H := by
    funext b
    by_cases hb : b = a
    · rw [hb, upd_same, hHa]
    · rw [upd_ne hb]
  have hok3 : HOk P w H h3 := by
    have z := e0.hok.write (x := a) (e := a) (o' := exo a C none) (h' := h3) (by rw [hHa]; exact True.intro) (.inl rfl) k3 ⟨_, hx3⟩ (exo_ok hx3)
    rw [eu] at z
    exact z
  have I3 : Inv (ncx CXN P w K mg base N ⟨name, qual, params, body, scope, [("__class__", cc)], cda⟩ fI A outer s H E) [] (startF N vs [some (.ref C)]) H { s with heap := h3, toks := tk } := by
    refine Inv.step (s := { s with heap := h₁, toks := s.toks + (ps.zip us).length }) (h' := h3) I1 (g' := s.gens) (d' := s.drawn) (t' := tk) (ch := []) (fun _ z => nomatch z) (fun b o hL _ _ e n => k3 b o (na n) (old b o hL e)) (fun b o hL _ _ e n => ⟨o.slots, k3 b o (na n) (old b o hL e)⟩) (fun _ _ _ _ n => n) (fun b o _ e => ?_)
      (fun _ _ z => z) (fun _ _ _ z => z) (fun b ps z => ⟨#[], by rw [z]; simp⟩) (fun m hm => ?_) hok3 e0.bare
    · by_cases hL : b = s.heap.objs.size
      · obtain ⟨o', _, _, q, _⟩ := F3.ns
        exact ⟨o', by rw [hL]; exact q⟩
      · by_cases hb : b = a
        · exact ⟨_, by rw [hb]; exact hx3⟩
        · exact ⟨o, k3 b o hb (old b o hL e)⟩
    · have q : m = fun y => (ps.zip us).reverse.lookup y := funext fun y => Heap.Ns.agree (show h₁.Ns s.heap.objs.size m from hm) hns y
      rw [q]
      exact F3.ns
  refine wpAt_of_wpAny ?_
  refine wpAny_mono (ht.run [] _ (startF N vs [some (.ref C)]) H _ I3 hq) (fun fl s' hs => ?_) fun e s' hs => ?_
  · have fin : ∀ {σ' : L2.St} {H' : Hp} {v : V} {u : Value}, Inv (ncx CXN P w K mg base N ⟨name, qual, params, body, scope, [("__class__", cc)], cda⟩ fI A outer s H E) [] σ' H' s' → L2.RelV v u → Q v H' → CE outer P w H s Q u s' :=
      fun {σ' H' v u} J rv q => ⟨v, H', J.os, J.bare, J.base, J.hok, rv, q⟩
    cases fl with
    | ret u =>
      obtain ⟨v, σ', H', J, rv, q⟩ := hs
      exact fin J rv q
    | next =>
      obtain ⟨σ', H', J, q⟩ := hs
      exact fin (v := V.non) (u := Value.none) J rfl q
    | brk =>
      obtain ⟨_, _, _, q⟩ := hs
      exact False.elim q
    | cont =>
      obtain ⟨_, _, _, q⟩ := hs
      exact False.elim q
  · exact wpAny_mono hs (fun _ _ z => z.elim) fun _ _ z => z.elim
end Ls
namespace Ls
open PySem PySem.Spec PyProof.Rows L2 NdefX
open PySem.W (ksEnv)

/-! ### the texts of such __init__ -/
/-- self.f = f -/
def StoreSt (f : Str) (st : Stmt) : Prop := (∃ p p' p'' pos, st = .Assign [.Attribute (.Name "self" p) f p'] (.Name f p'') pos) ∧ (f == ("__debug__" : Str)) = false ∧ (f == ("__classdict__" : Str)) = false
def Stores : List Str → List Stmt → Prop
  | [], [] => True
  | f :: fs, st :: r => StoreSt f st ∧ Stores fs r
  | _, _ => False
/-- what is asked of the text st of an own error's __init__ with the fields fs -/
structure ErrTx (st : Stmt) (qual : Str) (fs : List Str) : Prop where
  nsc : NScope (("self" : Str) :: (fs ++ [("__class__" : Str)])) (("self" : Str) :: fs) [("__class__" : Str)] (defScope st)
  hsup : (defScope st).names.lookup ("super" : Str) = some .globalImplicit
  par : ∃ ar, ((defArgs st).posonlyargs ++ (defArgs st).args).head? = some ar ∧ ar.arg = "self"
  body : ∃ (txt : Str) (j : Nat) (p0 p1 p2 p3 p4 p5 : Pos) (rest : List Stmt), defBody st = .Expr (.Call (.Attribute (.Call (.Name "super" p0) [] [] p1) "__init__" p2) [.Constant (.str txt) j p3] [] p4) p5 :: rest ∧ Stores fs rest ∧
    ∀ f cc cda, SupEv qual (defScope st) f cc cda txt j p0 p1 p2 p3 p4
  bind : ∀ (cc cda : Addr) (doc pm ct : Value) (us : List Value), us.length = (("self" : Str) :: fs).length → bindArgs (PySem.W.fnX "__init__" qual (defArgs st) (defBody st) (defScope st) [("__class__", cc)] .none .none doc pm none (.ref cda) ct) ⟨us, []⟩ = pure ((("self" : Str) :: fs).zip us)

/-! ### what they promise -/
/-- an exception of C at a, its dict (fields fs) at d -/
def exoD (H : Hp) (a C d : Addr) (fs : List (Str × V)) : Hp := upd (upd H d (exd d fs)) a (exo a C (some d))
def spI0 (C : Addr) : Sp := fun vs H Q _ => ∃ a, vs = [.ref a] ∧ H a = some (exo a C none) ∧ Q .non H
def spI1 (C : Addr) (f : Str) : Sp := fun vs H Q _ => ∃ a v, vs = [.ref a, v] ∧ H a = some (exo a C none) ∧ ∀ d, H d = none → d ≠ a → Q .non (exoD H a C d [(f, v)])
def spI2 (C : Addr) (f g : Str) : Sp := fun vs H Q _ => ∃ a v w, vs = [.ref a, v, w] ∧ H a = some (exo a C none) ∧ ∀ d, H d = none → d ≠ a → Q .non (exoD H a C d [(g, w), (f, v)])

section
variable {CX : CXT} {P : Program} {w : World} {K : PySem.W.Frag} {mg : Str → Option Value} {base : Heap} {fI C cc cda : Addr} {st : Stmt} {qual f g : Str} {doc pm ct oc : Value} {od : Option Addr} {osl : Array (Option Value)}
theorem err_fn0 (T : SupC P K C cc cda) (Tx : ErrTx st qual [])
    (lk : K.lookup fI = some ⟨oc, od, .func (PySem.W.fnX "__init__" qual (defArgs st) (defBody st) (defScope st) [("__class__", cc)] .none .none doc pm none (.ref cda) ct), osl⟩) (hcd : PySem.W.codeIn K (.ref cda) qual = true) :
    FnOk P w K mg base CX 1 fI (PySem.W.fnX "__init__" qual (defArgs st) (defBody st) (defScope st) [("__class__", cc)] .none .none doc pm none (.ref cda) ct) ["self"] (spI0 C) := by
  obtain ⟨txt, j, p0, p1, p2, p3, p4, p5, rest, hb, hst, hev⟩ := Tx.body
  obtain ⟨ar, hp, ha⟩ := Tx.par
  refine sup_fn (N := ["self", "__class__"]) T lk hcd Tx.nsc hb hp (by rw [ha]; rfl) Tx.hsup (hev _ _ _) (fun vs H Q E ⟨a, e, _⟩ => by rw [e]; rfl) (fun vs H Q E ⟨a, e, h, _⟩ => ⟨a, by rw [e]; rfl, h⟩) fun A outer s H vs Q E ⟨a, e, h, q⟩ => ?_
  cases rest with
  | nil => exact ⟨_, pss_nil, q⟩
  | cons x r => exact hst.elim
theorem err_fn1 (T : SupC P K C cc cda) (Tx : ErrTx st qual [f]) (hno : PySem.W.findIn K (.ref C) f = some none)
    (lk : K.lookup fI = some ⟨oc, od, .func (PySem.W.fnX "__init__" qual (defArgs st) (defBody st) (defScope st) [("__class__", cc)] .none .none doc pm none (.ref cda) ct), osl⟩) (hcd : PySem.W.codeIn K (.ref cda) qual = true) :
    FnOk P w K mg base CX 1 fI (PySem.W.fnX "__init__" qual (defArgs st) (defBody st) (defScope st) [("__class__", cc)] .none .none doc pm none (.ref cda) ct) ["self", f] (spI1 C f) := by
  obtain ⟨txt, j, p0, p1, p2, p3, p4, p5, rest, hb, hst, hev⟩ := Tx.body
  obtain ⟨ar, hp, ha⟩ := Tx.par
  refine sup_fn (N := ["self", f, "__class__"]) T lk hcd Tx.nsc hb hp (by rw [ha]; rfl) Tx.hsup (hev _ _ _) (fun vs H Q E ⟨a, v, e, _⟩ => by rw [e]; rfl) (fun vs H Q E ⟨a, v, e, h, _⟩ => ⟨a, by rw [e]; rfl, h⟩) fun A outer s H vs Q E ⟨a, v, e, h, q⟩ => ?_
  subst e
  match rest, hst with
  | [x], hst =>
    obtain ⟨⟨⟨q1, q2, q3, q4, rfl⟩, d1, d2⟩, _⟩ := hst
    refine ⟨_, pss_one (ps_ost (pe_var (i := 0) rfl (.inl (Tx.nsc.par _ (List.mem_cons_self ..)))) (pe_var (i := 1) rfl (.inl (Tx.nsc.par _ (.tail _ (.head _)))) d1 d2)), ?_⟩
    exact ⟨v, rfl, .ref a, rfl, a, C, rfl, T.ox, hno, .inl ⟨h, fun dx n ne => q dx n ne⟩⟩
  | [], hst => exact hst.elim
  | _ :: _ :: _, hst => exact hst.2.elim
theorem err_fn2 (T : SupC P K C cc cda) (Tx : ErrTx st qual [f, g]) (hno : PySem.W.findIn K (.ref C) f = some none) (hno2 : PySem.W.findIn K (.ref C) g = some none)
    (lk : K.lookup fI = some ⟨oc, od, .func (PySem.W.fnX "__init__" qual (defArgs st) (defBody st) (defScope st) [("__class__", cc)] .none .none doc pm none (.ref cda) ct), osl⟩) (hcd : PySem.W.codeIn K (.ref cda) qual = true) :
    FnOk P w K mg base CX 1 fI (PySem.W.fnX "__init__" qual (defArgs st) (defBody st) (defScope st) [("__class__", cc)] .none .none doc pm none (.ref cda) ct) ["self", f, g] (spI2 C f g) := by
  obtain ⟨txt, j, p0, p1, p2, p3, p4, p5, rest, hb, hst, hev⟩ := Tx.body
  obtain ⟨ar, hp, ha⟩ := Tx.par
  refine sup_fn (N := ["self", f, g, "__class__"]) T lk hcd Tx.nsc hb hp (by rw [ha]; rfl) Tx.hsup (hev _ _ _) (fun vs H Q E ⟨a, v, u, e, _⟩ => by rw [e]; rfl) (fun vs H Q E ⟨a, v, u, e, h, _⟩ => ⟨a, by rw [e]; rfl, h⟩) fun A outer s H vs Q E ⟨a, v, u, e, h, q⟩ => ?_
  subst e
  match rest, hst with
  | [x, y], hst =>
    obtain ⟨⟨⟨q1, q2, q3, q4, rfl⟩, d1, d2⟩, ⟨⟨q5, q6, q7, q8, rfl⟩, d3, d4⟩, _⟩ := hst
    refine ⟨_, pss_cons (ps_ost (pe_var (i := 0) rfl (.inl (Tx.nsc.par _ (List.mem_cons_self ..)))) (pe_var (i := 1) rfl (.inl (Tx.nsc.par _ (.tail _ (.head _)))) d1 d2))
      (pss_one (ps_ost (pe_var (i := 0) rfl (.inl (Tx.nsc.par _ (List.mem_cons_self ..)))) (pe_var (i := 2) rfl (.inl (Tx.nsc.par _ (.tail _ (.tail _ (.head _))))) d3 d4))), ?_⟩
    refine ⟨v, rfl, .ref a, rfl, a, C, rfl, T.ox, hno, .inl ⟨h, fun dx n ne => ?_⟩⟩
    refine ⟨u, rfl, .ref a, rfl, a, C, rfl, T.ox, hno2, .inr ⟨dx, [(f, v)], upd_same, (upd_ne ne).trans upd_same, Nat.le_of_ble_eq_true rfl, ?_⟩⟩
    have e : upd (upd (upd H dx (exd dx [(f, v)])) a (exo a C (some dx))) dx (exd dx [(g, u), (f, v)]) = exoD H a C dx [(g, u), (f, v)] := by
      funext b
      unfold exoD
      by_cases hb : b = dx
      · subst hb
        rw [upd_same, upd_ne ne, upd_same]
      · rw [upd_ne hb]
        by_cases h2 : b = a
        · subst h2
          rw [upd_same, upd_same]
        · rw [upd_ne h2, upd_ne h2, upd_ne hb, upd_ne hb]
    show Q _ (upd (upd (upd H dx (exd dx [(f, v)])) a (exo a C (some dx))) dx (exd dx [(g, u), (f, v)]))
    rw [e]
    exact q dx n ne
  | [], hst => exact hst.elim
  | [_], hst => exact hst.2.elim
  | _ :: _ :: _ :: _, hst => exact hst.2.2.elim
end
end Ls
namespace Ls
open PySem PySem.Spec PyProof.Rows L2 NdefX

/-! ### a class of own errors -/
/-- x names the class at C, its fields fs, sp what its __init__ promises -/
structure OwnX (P : Program) (w : World) (K : PySem.W.Frag) (mg : Str → Option Value) (base : Heap) (x : Str) (fs : List Str) (sp : Sp) (C : Addr) : Prop where
  ox : OexC K C
  xf : XfC K C
  gl : mg x = some (.ref C)
  nof : ∀ f ∈ fs, PySem.W.findIn K (.ref C) f = some none
  ini : ∃ (fI : Addr) (fd : FuncData), PySem.W.findIn K (.ref C) "__init__" = some (some (.ref fI)) ∧ PySem.W.typeIn K (.ref fI) = some (.type "function") ∧ FnOk P w K mg base CX0 1 fI fd (("self" : Str) :: fs) sp ∧ Binds K fd (("self" : Str) :: fs) []

/-- a reading of arguments that may be weakened -/
def upA (ta : TA) : TA := fun σ H Q => ∃ Q' : List V → Hp → Prop, ta σ H Q' ∧ ∀ vs H', Q' vs H' → Q vs H'
section
variable {X : Cx} {x f g : Str} {C : Addr} {fs : List Str} {sp : Sp} {e : Expr} {es : List Expr} {ta : TA} {p pos : Pos}
theorem pa_up (h : PA X es ta) : PA X es (upA ta) := ⟨fun pos pins s σ H Q I ⟨Q', h', k⟩ => thn (h.run pos pins s σ H Q' I h') fun us s1 ⟨vs, H1, I1, r, q⟩ => ⟨vs, H1, I1, r, k _ _ q⟩⟩
theorem pmk_imp {t t' : L2.St → Hp → XK → Prop} (h : PMk X e t) (i : ∀ σ H Q, t' σ H Q → t σ H Q) : PMk X e t' := fun pins s σ H Q I q => h pins s σ H Q I (i _ _ _ q)
theorem pass0E {E : XK} : Passes CX0 X E := fun _ _ _ _ _ _ _ h => h.elim
theorem exoD_end {H : Hp} {a d : Addr} {l : List (Str × V)} (ha : H a = none) : upd (del (exoD (upd H a (exo a C none)) a C d l) a) d (.xd l) = upd H d (.xd l) := by
  funext b
  by_cases hb : b = d
  · rw [hb, upd_same, upd_same]
  · rw [upd_ne hb, upd_ne hb]
    by_cases h2 : b = a
    · rw [h2, del_same, ha]
    · unfold exoD
      rw [del_ne h2, upd_ne h2, upd_ne hb, upd_ne h2]
def tErr1 (C : Addr) (f : Str) (ta : TA) : L2.St → Hp → XK → Prop := fun σ H Q => ta σ H fun vs H1 => ∃ v, vs = [v] ∧ ∀ d, H1 d = none → Q (.ref C) (some d) (upd H1 d (.xd [(f, v)]))
def tErr2 (C : Addr) (f g : Str) (ta : TA) : L2.St → Hp → XK → Prop := fun σ H Q => ta σ H fun vs H1 => ∃ v w, vs = [v, w] ∧ ∀ d, H1 d = none → Q (.ref C) (some d) (upd H1 d (.xd [(g, w), (f, v)]))
def tErr0 (C : Addr) : L2.St → Hp → XK → Prop := fun _ H Q => Q (.ref C) none H
theorem xd_of {H : Hp} {a d : Addr} {l : List (Str × V)} : exoD H a C d l a = some (exo a C (some d)) := upd_same
/-- x(e) -/
theorem pmk_err1 (O : OwnX X.prog X.w X.K X.mg X.base x [f] (spI1 C f) C) (hr : Room 2 X.A) (ha : PA X [e] ta) (hg : Gl X x := by rfl) (hdb : (x == ("__debug__" : Str)) = false := by decide)
    (he : starEach [e] X.env = (false, eval e X.env) :: starEach [] X.env := by rfl) : PMk X (.Call (.Name x p) [e] [] pos) (tErr1 C f ta) := by
  obtain ⟨fI, fd, iC, tI, F1, hb⟩ := O.ini
  refine pmk_imp (pmk_oex O.ox iC tI F1 hr hb .nil pass0E hg O.gl (pa_up ha) hdb he rfl) fun σ H Q q => ?_
  refine ⟨_, q, fun vs H1 ⟨v, ev, k⟩ => ?_⟩
  subst ev
  refine ⟨Nat.le_of_ble_eq_true rfl, fun a ha => ⟨a, v, rfl, upd_same, fun d hd hda => ⟨rfl, d, [(f, v)], xd_of, ?_, ?_, ?_⟩⟩⟩
  · unfold exoD
    rw [upd_ne hda, upd_same]
  · rw [upd_ne hda] at hd
    exact hd
  · rw [exoD_end ha]
    rw [upd_ne hda] at hd
    exact k d hd
/-- x(e, e2) -/
theorem pmk_err2 {e2 : Expr} (O : OwnX X.prog X.w X.K X.mg X.base x [f, g] (spI2 C f g) C) (hr : Room 2 X.A) (ha : PA X [e, e2] ta) (hg : Gl X x := by rfl) (hdb : (x == ("__debug__" : Str)) = false := by decide)
    (he : starEach [e, e2] X.env = (false, eval e X.env) :: starEach [e2] X.env := by rfl) (hpl : (backTo pos (starEach [e2] X.env)).any (·.1) = false := by rfl) : PMk X (.Call (.Name x p) [e, e2] [] pos) (tErr2 C f g ta) := by
  obtain ⟨fI, fd, iC, tI, F1, hb⟩ := O.ini
  refine pmk_imp (pmk_oex O.ox iC tI F1 hr hb .nil pass0E hg O.gl (pa_up ha) hdb he hpl) fun σ H Q q => ?_
  refine ⟨_, q, fun vs H1 ⟨v, w, ev, k⟩ => ?_⟩
  subst ev
  refine ⟨Nat.le_of_ble_eq_true rfl, fun a ha => ⟨a, v, w, rfl, upd_same, fun d hd hda => ⟨rfl, d, [(g, w), (f, v)], xd_of, ?_, ?_, ?_⟩⟩⟩
  · unfold exoD
    rw [upd_ne hda, upd_same]
  · rw [upd_ne hda] at hd
    exact hd
  · rw [exoD_end ha]
    rw [upd_ne hda] at hd
    exact k d hd
/-- the end of x(): the exception, which has no dict, is let go -/
theorem mk_endN {pins : List (Addr × Obj)} {σ : L2.St} {H1 : Hp} {Q : XK} {hp hp2 h2 : Heap} {g1 g2 : Array GenState} {d1 d2 : Drawn} {t1 t2 : Nat} {os1 os2 : OsState} {a : Addr} (T : Raises X (.ref C)) (I1 : Inv X pins σ H1 ⟨hp, g1, d1, t1, os1⟩)
    (ha : hp.objs.size ≤ a) (k : ∀ b o, hp.get? b = some o → hp2.get? b = some o) (un : Un (frs X.stack) [] (upd H1 a (exo a C none)) (upd H1 a (exo a C none)) hp2 h2) (hok : HOk X.prog X.w (upd H1 a (exo a C none)) h2) (ho : os2 = os1) (hb : AllBare g2)
    (q : Q (.ref C) none H1) : MkP X pins σ Q (.ref a) ⟨h2, g2, d2, t2, os2⟩ := by
  obtain ⟨t0, hoe⟩ := exo_at (e := a) (C := C) (d := none) hok upd_same
  have hn : H1 a = none := I1.hok.fresh ha
  obtain ⟨G, g1', g2'⟩ := restrict h2 fun b => decide (b ≠ a)
  have gk : ∀ b, b ≠ a → G.get? b = h2.get? b := fun b hb => g1' b (decide_eq_true hb)
  have ge : G.get? a = none := g2' a (by simp)
  have nha : ∀ {b : Addr} {o : Obj}, hp.get? b = some o → b ≠ a := fun {b o} z => Nat.ne_of_lt (Nat.lt_of_lt_of_le (Heap.lt_size z) ha)
  have up : ∀ {b : Addr}, b ≠ a → H1 b = none → upd H1 a (exo a C none) b = none := fun {b} hb n => by rw [upd_ne hb]; exact n
  have U : Un (frs X.stack) [] H1 H1 hp G := {
    keep := fun b o z n hf hx => by
      rw [gk b (nha z)]
      exact un.keep b o (k b o z) (up (nha z) n) hf hx
    slot := fun b o z n hf hx => by
      rw [gk b (nha z)]
      exact un.slot b o (k b o z) (up (nha z) n) hf hx
    free := fun b o z n hx => n
    there := fun b o z hx => by
      rw [gk b (nha z)]
      exact un.there b o (k b o z) hx
    tups := fun b xs z => z
    frzs := fun b o v z => z
    tbls := fun b ps z => ⟨#[], by rw [z]; simp⟩ }
  have hok3 : HOk X.prog X.w H1 G := fun b o z => by
    have hba : b ≠ a := fun e => by
      rw [e, hn] at z
      cases z
    have z2 : upd H1 a (exo a C none) b = some o := (upd_ne hba).trans z
    have noa : ∀ {c : Addr}, upd H1 a (exo a C none) c = some (.own b) → c ≠ a := fun {c} hc e => by
      rw [e, upd_same] at hc
      exact exo_own (Option.some.inj hc)
    exact (hok b o z2).stay (fun c v hc y => by
        have hca : c ≠ a := by
          rcases hc with hc | hc
          · rw [hc]
            exact hba
          · exact noa hc
        rw [gk c hca]
        exact y)
      (fun c hc => by rw [upd_ne (noa hc)] at hc; exact hc) (fun c xs hc => by
        have hca : c ≠ a := fun e => by
          rw [e, upd_same] at hc
          exact exo_tup (Option.some.inj hc)
        rw [upd_ne hca] at hc
        exact hc)
  have J : Inv X pins σ H1 ⟨G, g2, d2, t2, os2⟩ := I1.call' (ch := []) ho U hok3 hb (fun b z => absurd z (by simp))
  refine ⟨a, _, _, ⟨G, g2, d2, t2, os2⟩, H1, .ref C, none, rfl, J, fun b o z => ?_, ge, hoe, ⟨rfl, rfl⟩, rfl, rfl, hn, rfl, hb, T, q⟩
  by_cases hba : b = a
  · rw [hba, ge] at z
    cases z
  · exact (gk b hba).symm.trans z
/-- x() -/
theorem pmk_err0 (O : OwnX X.prog X.w X.K X.mg X.base x [] (spI0 C) C) (hr : Room 2 X.A) (hg : Gl X x := by rfl) (hdb : (x == ("__debug__" : Str)) = false := by decide) : PMk X (.Call (.Name x p) [] [] pos) (tErr0 C) := by
  obtain ⟨fI, fd, iC, tI, F1, hb⟩ := O.ini
  intro pins s σ H Q I h
  obtain ⟨nm, q, N, bs, bm, sn, sub, ab, col, dd, k0, k1, k2, k3, k5, hC, hbm⟩ := O.ox.cls
  refine wpAny_Call_Name_kw (ld_glob I hg O.gl ?_ hdb)
  refine PySem.W.callWith_K0 I.kIn O.ox.kC ?_
  show wpAny _ _ (call (.ref C) []) _ _ _
  obtain ⟨hp, g, dr, tk, os⟩ := s
  have hsz : hp.objs.size ≤ hp.objs.size + 1 := Nat.le_succ _
  have hn : H (hp.objs.size + 1) = none := I.hok.fresh hsz
  have kk : ∀ b o, hp.get? b = some o → ((hp.push (PySem.W.kdv_tup [])).push (PySem.HandSPX.excO C hp.objs.size)).get? b = some o := fun b o e => Heap.get?_push_of_some _ (Heap.get?_push_of_some _ e)
  have hget : ((hp.push (PySem.W.kdv_tup [])).push (PySem.HandSPX.excO C hp.objs.size)).get? (hp.objs.size + 1) = some (PySem.HandSPX.excO C hp.objs.size) := by heap_get
  have I2 : Inv X pins σ (upd H (hp.objs.size + 1) (exo (hp.objs.size + 1) C none)) ⟨(hp.push (PySem.W.kdv_tup [])).push (PySem.HandSPX.excO C hp.objs.size), g, dr, tk, os⟩ :=
    I.laid (t' := tk) (a := hp.objs.size + 1) (o := exo (hp.objs.size + 1) C none) (h' := (hp.push (PySem.W.kdv_tup [])).push (PySem.HandSPX.excO C hp.objs.size)) kk hsz (exo_ok hget)
  have r2 : Vals [V.ref (hp.objs.size + 1)] [Value.ref (hp.objs.size + 1)] := .cons rfl .nil
  have hq : spI0 C [V.ref (hp.objs.size + 1)] (upd H (hp.objs.size + 1) (exo (hp.objs.size + 1) C none)) (fun v H2 => v = .non ∧ H2 = upd H (hp.objs.size + 1) (exo (hp.objs.size + 1) C none)) (fun _ _ _ => False) := ⟨_, rfl, upd_same, rfl, rfl⟩
  refine wpAny_call (PySem.HandSPX.call_own F.excBase_ValueError (fun Y => PySem.HandSPX.refsVE_contains Y bm hbm) (I.kIn _ _ hC) (PySem.W.looks_findIn I.kIn iC) (fun self => PySem.W.bind_fn I.kIn self tI) (Nat.zero_le _)
    (codeAny_mono (F1.run _ X.stack _ _ ⟨[Value.ref (hp.objs.size + 1)], []⟩ [Value.ref (hp.objs.size + 1)] _ _ (fun _ _ _ => False) ((hr.mono (by omega : 2 ≤ 2)).make C [] [] |>.mono (Nat.le_refl _)) (I2.env0.make C [] []) (hb _ [Value.ref (hp.objs.size + 1)] I2.kIn rfl) r2 hq) fun r s' hq' => ?_))
  cases r with
  | error er => exact hq'.elim
  | ok fl =>
    cases fl with
    | ret u =>
      obtain ⟨v, H2, os2, bare2, un2, hok2, rv, ev, eH⟩ := hq'
      subst ev
      subst eH
      obtain ⟨h2, g2, d2, t2, os'⟩ := s'
      exact ⟨rv, mk_endN (raises_own O.ox.exC O.ox.tyC) I hsz kk un2 hok2 os2 bare2 h⟩
    | next => exact False.elim hq'
    | brk => exact False.elim hq'
    | cont => exact False.elim hq'
end
end Ls
namespace Ls
open PySem PySem.Spec PyProof.Rows L2

/-! ### several clauses «except X as e» -/
/-- the ends of a suite behind which the name at slot i goes -/
def asEnds (D : Ends) (i : Nat) : Ends := { nx := fun σ' H' => D.nx (σ'.set i none) H', rt := D.rt, bk := fun σ' H' => D.bk (σ'.set i none) H', ct := fun σ' H' => D.ct (σ'.set i none) H' }
/-- a clause: its class, its name's slot, its suite -/
structure AsCl where
  c : Value
  i : Nat
  ts : Addr → Value → Option Addr → TS
/-- what the clauses wish of an exception of the body -/
def wAsM (K : PySem.W.Frag) (Wout : WX) (D : Ends) : List AsCl → WX
  | [] => Wout
  | q :: r => fun cls d σ H => ∃ b, PySem.W.exmOne K cls q.c = some b ∧ (b = true → ∀ a, H a = none → q.ts a cls d (asEnds D q.i) (σ.set q.i (some (.ref a))) H) ∧ (b = false → wAsM K Wout D r cls d σ H)
inductive AsOk (X : Cx) : List ExceptHandler → List AsCl → Prop
  | nil : AsOk X [] []
  | cons {x n : Str} {q : AsCl} {st : Stmt} {sts : List Stmt} {p1 p2 : Pos} {hds : List ExceptHandler} {l : List AsCl} (hi : X.N[q.i]? = some n) (hl : X.env.kindOf n = some .local) (hc : Names X x q.c)
      (hsu : ∀ (a : Addr) (oe : Obj) (cls : Value) (d : Option Addr) (pn : List (Addr × Obj)), Zc cls d oe → (∃ vs, oe.data = .fields vs) → PSs (X.suite a ((a, oe) :: pn)) (st :: sts) (q.ts a cls d)) (r : AsOk X hds l) :
      AsOk X (.ExceptHandler (some (.Name x p1)) (some n) (st :: sts) p2 :: hds) (q :: l)
/-- where an exception of the body arrives -/
abbrev xeAs (X : Cx) (pins : List (Addr × Obj)) (hds : List ExceptHandler) (D : Ends) : Value → Shared → Prop := fun e s₁ =>
  wpAny (model X.prog X.w) X.A (noteFrame e X.env) (fun _ s₂ => wpAny (model X.prog X.w) X.A (setFlight e none) (fun _ s₃ => wpAny (model X.prog X.w) X.A (handleBy e X.env hds) (SP X pins D) X.xe s₃) X.xe s₂) X.xe s₁
section
variable {X : Cx} {body : List Stmt} {h₀ : ExceptHandler} {hds : List ExceptHandler} {l : List AsCl} {pos : Pos} {tb : WX → TS} {Wout : WX} {pins : List (Addr × Obj)} {D : Ends}
theorem as_takes (ok : X.Ok) (hs : X.stack = X.env :: X.outer) (hf : X.env.frame = some X.env.locals) (hN : X.N.Nodup) (tk : Takes X Wout) (hh : AsOk X hds l) : Takes (X.tr (X.pn ++ pins) (xeAs X pins hds D)) (wAsM X.K Wout D l) := by
  intro u s' xx
  have hfr : X.A.frames = some (X.env :: X.outer) := by rw [ok.frames, hs]
  obtain ⟨a, B, sI, pins', σ', H', cls, d, rfl, JT, nb, up, sky, na, os, ag, w0⟩ := xx
  have J : Inv X pins σ' H' sI := JT.ofTry ok
  have sky2 : Sky B (X.env :: X.outer) a (Zc cls d) X.env.locals s'.heap := by
    rw [← hs]
    exact sky
  show wpAny _ _ (noteFrame (.ref a) X.env) _ _ _
  refine Sky.land Zc.steady hfr hf sky2 fun hA flA upA => ?_
  have JA : Inv X pins σ' H' { s' with heap := hA } := J.landed nb flA.1 (up.trans upA) os ag
  obtain ⟨oA, vA, eA, zA, dA⟩ := flA.there
  have nfr : a ∉ frs (X.env :: X.outer) := fun hm => by
    obtain ⟨_, o', e', hnf⟩ := (flA.2.2.1).mem hm
    have e2 := eA.symm.trans e'
    cases e2
    exact hnf _ dA
  have nL : a ≠ X.env.locals := fun z => nfr (List.mem_filterMap.mpr ⟨X.env, List.mem_cons_self, by rw [hf, z]⟩)
  have nF : a ∉ X.fs := fun hm => by
    obtain ⟨y, hy, q⟩ := List.mem_filterMap.mp hm
    exact nfr (List.mem_filterMap.mpr ⟨y, .tail _ hy, q⟩)
  have SA := JA.suite eA dA na nL nF
  have LT : PySem.W.Looks (model X.prog X.w) hA (typeOf (.ref a)) cls := fun A Q E s k q => wpAny_typeOf_ref (k _ _ eA) (by rw [zA.1]; exact q)
  have go : ∀ {hds' : List ExceptHandler} {l' : List AsCl}, AsOk X hds' l' → wAsM X.K Wout D l' cls d σ' H' → wpAny (model X.prog X.w) X.A (handleBy (.ref a) X.env hds') (SP X pins D) X.xe { s' with heap := hA } := by
    intro hds' l' hk
    induction hk with
    | nil =>
      intro w
      refine wpAny_handleBy_nil ?_
      obtain ⟨_, _, _, oe, vs, T, _, _, he, _, hd, h1, _⟩ := id flA
      unfold PySem.passOn
      refine wpAny_bind (wpAny_field he hd h1 ?_)
      have nt : ¬ ((Value.ref T == Value.none) = true) := by simp
      rw [if_neg nt]
      have fin : wpAny (model X.prog X.w) X.A (setFlight (.ref a) X.env.frame) (fun _ s4 => wpAny (model X.prog X.w) X.A (throw (.ref a) : Sem Flow) (SP X pins D) X.xe s4) X.xe { s' with heap := hA } := by
        rw [hf]
        refine HandSPX.setFlight_upZ flA fun hB skyB upB => wpAny_throw (tk _ _ ?_)
        refine ⟨a, B, sI, pins, σ', H', cls, d, rfl, J, nb, (up.trans upA).trans upB, .inr (.inr ?_), na, os, ag, w⟩
        rw [hs]
        exact skyB
      first
        | exact wpAny_bind (wpAny_pure (wpAny_bind fin))
        | exact wpAny_bind fin
    | @cons x n q st sts p1 p2 hds2 l2 hi hl hc hsu r ih =>
      intro w
      obtain ⟨b, hb, hyes, hno⟩ := w
      refine wpAny_handleBy_cons (codeAny_handlers_test ?_) (by intro z; cases z)
      have LM := PySem.W.exm_one (M := model X.prog X.w) JA.kIn LT hb
      have test : ∀ {Q : Value → Shared → Prop} {E : Value → Shared → Prop}, Q q.c { s' with heap := hA } → wpAny (model X.prog X.w) (X.A.mark (some (.ref a))) (eval (.Name x p1) X.env) Q E { s' with heap := hA } := fun {Q E} z => by
        obtain ⟨hg, hdb, hm | ⟨hm, hv, hnn⟩⟩ := hc
        · exact ld_glob (X := X.suite a ((a, oA) :: (X.pn ++ pins))) SA hg hm z hdb
        · exact ld_blt (X := X.suite a ((a, oA) :: (X.pn ++ pins))) SA hg hm hv z hnn hdb
      refine test (LM.here ?_)
      cases b with
      | false =>
        show wpAny _ X.A (handleBy (.ref a) X.env hds2) _ _ _
        exact ih (hno rfl)
      | true =>
        refine codeAny_handlers_suite_as ?_
        refine HandSPX.lands_againZ flA fun hB flB upB => ?_
        have JB : Inv X pins σ' H' { s' with heap := hB } := J.landed nb flB.1 ((up.trans upA).trans upB) os ag
        obtain ⟨oB, vB, eB, zB, dB⟩ := flB.there
        have SB := JB.suite eB dB na nL nF
        refine store_ok (X := X.suite a ((a, oB) :: (X.pn ++ pins))) (v := .ref a) SB hN hi (.inl hl) rfl (fun s5 S5 => ?_) (.inr hl)
        refine wpAny_mono ((hsu a oB cls d (X.pn ++ pins) zB ⟨_, dB⟩).run [] s5 _ H' _ S5 (hyes rfl a na)) (fun f s6 hsp => ?_) (fun _ _ z => z.elim)
        have gone : ∀ {σ6 : L2.St} {H6 : Hp} {Q : Shared → Prop}, Inv (X.suite a ((a, oB) :: (X.pn ++ pins))) [] σ6 H6 s6 → (∀ s7, Inv X pins (σ6.set q.i none) H6 s7 → Q s7) →
            wpAny (model X.prog X.w) X.A (do bindName X.env n .none; unbindBehindTheSuite X.env n p2) (fun _ s7 => Q s7) X.xe s6 := fun {σ6 H6 Q} S6 hq => gone_ok (S6.unsuite ok) hN hi hl hq
        cases f with
        | ret u =>
          obtain ⟨v6, σ6, H6, S6, r6, q6⟩ := hsp
          exact gone S6 fun s7 J7 => ⟨v6, _, _, J7, r6, q6⟩
        | next =>
          obtain ⟨σ6, H6, S6, q6⟩ := hsp
          exact gone S6 fun s7 J7 => ⟨_, _, J7, q6⟩
        | brk =>
          obtain ⟨σ6, H6, S6, q6⟩ := hsp
          exact gone S6 fun s7 J7 => ⟨_, _, J7, q6⟩
        | cont =>
          obtain ⟨σ6, H6, S6, q6⟩ := hsp
          exact gone S6 fun s7 J7 => ⟨_, _, J7, q6⟩
  exact go hh w0
/-- THE RULE: try: body / except X as e: .. / except Y as f: .. -/
theorem ps_try_asM (hs : X.stack = X.env :: X.outer) (hf : X.env.frame = some X.env.locals) (hN : X.N.Nodup) (tk : Takes X Wout)
    (hb : ∀ (W : WX) (pn : List (Addr × Obj)) (xe : Value → Shared → Prop), Takes (X.tr pn xe) W → PassesOwn (model X.prog X.w) X.A X.env xe → PSs (X.tr pn xe) body (tb W))
    (hh : AsOk X (h₀ :: hds) l) : PS X (.Try body (h₀ :: hds) [] [] pos) (fun D σ H => tb (wAsM X.K Wout D l) D σ H) := by
  refine ⟨fun pins s σ H D I h => ?_⟩
  have ok := I.ok
  refine wpAny_Try_except ?_
  have PB := hb (wAsM X.K Wout D l) (X.pn ++ pins) (xeAs X pins (h₀ :: hds) D) (as_takes ok hs hf hN tk hh) PassesOwn.looking
  refine wpAny_mono (PB.run [] s σ H D (I.toTry _) h) (fun f s1 hsp => ?_) (fun e s1 he => he)
  cases f with
  | next =>
    obtain ⟨σ', H', J', q⟩ := hsp
    exact wpAny_execs_nil ⟨σ', H', J'.ofTry ok, q⟩
  | ret u =>
    obtain ⟨v, σ', H', J', r, q⟩ := hsp
    exact ⟨v, σ', H', J'.ofTry ok, r, q⟩
  | brk =>
    obtain ⟨σ', H', J', q⟩ := hsp
    exact ⟨σ', H', J'.ofTry ok, q⟩
  | cont =>
    obtain ⟨σ', H', J', q⟩ := hsp
    exact ⟨σ', H', J'.ofTry ok, q⟩
end
end Ls
namespace Ls
open PySem PySem.Spec PyProof.Rows L2

/-! ### several clauses, some with a name, some without -/
inductive MixCl
  | as (q : AsCl)
  | no (c : Value) (ts : Addr → Value → Option Addr → TS)
def wMix (K : PySem.W.Frag) (Wout : WX) (D : Ends) : List MixCl → WX
  | [] => Wout
  | .as q :: r => fun cls d σ H => ∃ b, PySem.W.exmOne K cls q.c = some b ∧ (b = true → ∀ a, H a = none → q.ts a cls d (asEnds D q.i) (σ.set q.i (some (.ref a))) H) ∧ (b = false → wMix K Wout D r cls d σ H)
  | .no c ts :: r => fun cls d σ H => ∃ b, PySem.W.exmOne K cls c = some b ∧ (b = true → ∀ a, H a = none → ts a cls d D σ H) ∧ (b = false → wMix K Wout D r cls d σ H)
inductive MixOk (X : Cx) : List ExceptHandler → List MixCl → Prop
  | nil : MixOk X [] []
  | as {x n : Str} {q : AsCl} {st : Stmt} {sts : List Stmt} {p1 p2 : Pos} {hds : List ExceptHandler} {l : List MixCl} (hi : X.N[q.i]? = some n) (hl : X.env.kindOf n = some .local) (hc : Names X x q.c)
      (hsu : ∀ (a : Addr) (oe : Obj) (cls : Value) (d : Option Addr) (pn : List (Addr × Obj)), Zc cls d oe → (∃ vs, oe.data = .fields vs) → PSs (X.suite a ((a, oe) :: pn)) (st :: sts) (q.ts a cls d)) (r : MixOk X hds l) :
      MixOk X (.ExceptHandler (some (.Name x p1)) (some n) (st :: sts) p2 :: hds) (.as q :: l)
  | no {x : Str} {c : Value} {ts : Addr → Value → Option Addr → TS} {st : Stmt} {sts : List Stmt} {p1 p2 : Pos} {hds : List ExceptHandler} {l : List MixCl} (hc : Names X x c)
      (hsu : ∀ (a : Addr) (oe : Obj) (cls : Value) (d : Option Addr) (pn : List (Addr × Obj)), Zc cls d oe → (∃ vs, oe.data = .fields vs) → PSs (X.suite a ((a, oe) :: pn)) (st :: sts) (ts a cls d)) (r : MixOk X hds l) :
      MixOk X (.ExceptHandler (some (.Name x p1)) none (st :: sts) p2 :: hds) (.no c ts :: l)
section
variable {X : Cx} {body : List Stmt} {h₀ : ExceptHandler} {hds : List ExceptHandler} {l : List MixCl} {pos : Pos} {tb : WX → TS} {Wout : WX} {pins : List (Addr × Obj)} {D : Ends}
theorem mix_takes (ok : X.Ok) (hs : X.stack = X.env :: X.outer) (hf : X.env.frame = some X.env.locals) (hN : X.N.Nodup) (tk : Takes X Wout) (hh : MixOk X hds l) : Takes (X.tr (X.pn ++ pins) (xeAs X pins hds D)) (wMix X.K Wout D l) := by
  intro u s' xx
  have hfr : X.A.frames = some (X.env :: X.outer) := by rw [ok.frames, hs]
  obtain ⟨a, B, sI, pins', σ', H', cls, d, rfl, JT, nb, up, sky, na, os, ag, w0⟩ := xx
  have J : Inv X pins σ' H' sI := JT.ofTry ok
  have sky2 : Sky B (X.env :: X.outer) a (Zc cls d) X.env.locals s'.heap := by
    rw [← hs]
    exact sky
  show wpAny _ _ (noteFrame (.ref a) X.env) _ _ _
  refine Sky.land Zc.steady hfr hf sky2 fun hA flA upA => ?_
  have JA : Inv X pins σ' H' { s' with heap := hA } := J.landed nb flA.1 (up.trans upA) os ag
  obtain ⟨oA, vA, eA, zA, dA⟩ := flA.there
  have nfr : a ∉ frs (X.env :: X.outer) := fun hm => by
    obtain ⟨_, o', e', hnf⟩ := (flA.2.2.1).mem hm
    have e2 := eA.symm.trans e'
    cases e2
    exact hnf _ dA
  have nL : a ≠ X.env.locals := fun z => nfr (List.mem_filterMap.mpr ⟨X.env, List.mem_cons_self, by rw [hf, z]⟩)
  have nF : a ∉ X.fs := fun hm => by
    obtain ⟨y, hy, q⟩ := List.mem_filterMap.mp hm
    exact nfr (List.mem_filterMap.mpr ⟨y, .tail _ hy, q⟩)
  have SA := JA.suite eA dA na nL nF
  have LT : PySem.W.Looks (model X.prog X.w) hA (typeOf (.ref a)) cls := fun A Q E s k q => wpAny_typeOf_ref (k _ _ eA) (by rw [zA.1]; exact q)
  have test : ∀ {x : Str} {c : Value} {p1 : Pos} {Q : Value → Shared → Prop} {E : Value → Shared → Prop}, Names X x c → Q c { s' with heap := hA } → wpAny (model X.prog X.w) (X.A.mark (some (.ref a))) (eval (.Name x p1) X.env) Q E { s' with heap := hA } := fun {x c p1 Q E} hc z => by
    obtain ⟨hg, hdb, hm | ⟨hm, hv, hnn⟩⟩ := hc
    · exact ld_glob (X := X.suite a ((a, oA) :: (X.pn ++ pins))) SA hg hm z hdb
    · exact ld_blt (X := X.suite a ((a, oA) :: (X.pn ++ pins))) SA hg hm hv z hnn hdb
  have go : ∀ {hds' : List ExceptHandler} {l' : List MixCl}, MixOk X hds' l' → wMix X.K Wout D l' cls d σ' H' → wpAny (model X.prog X.w) X.A (handleBy (.ref a) X.env hds') (SP X pins D) X.xe { s' with heap := hA } := by
    intro hds' l' hk
    induction hk with
    | nil =>
      intro w
      refine wpAny_handleBy_nil ?_
      obtain ⟨_, _, _, oe, vs, T, _, _, he, _, hd, h1, _⟩ := id flA
      unfold PySem.passOn
      refine wpAny_bind (wpAny_field he hd h1 ?_)
      have nt : ¬ ((Value.ref T == Value.none) = true) := by simp
      rw [if_neg nt]
      have fin : wpAny (model X.prog X.w) X.A (setFlight (.ref a) X.env.frame) (fun _ s4 => wpAny (model X.prog X.w) X.A (throw (.ref a) : Sem Flow) (SP X pins D) X.xe s4) X.xe { s' with heap := hA } := by
        rw [hf]
        refine HandSPX.setFlight_upZ flA fun hB skyB upB => wpAny_throw (tk _ _ ?_)
        refine ⟨a, B, sI, pins, σ', H', cls, d, rfl, J, nb, (up.trans upA).trans upB, .inr (.inr ?_), na, os, ag, w⟩
        rw [hs]
        exact skyB
      first
        | exact wpAny_bind (wpAny_pure (wpAny_bind fin))
        | exact wpAny_bind fin
    | @as x n q st sts p1 p2 hds2 l2 hi hl hc hsu r ih =>
      intro w
      obtain ⟨b, hb, hyes, hno⟩ := w
      refine wpAny_handleBy_cons (codeAny_handlers_test ?_) (by intro z; cases z)
      have LM := PySem.W.exm_one (M := model X.prog X.w) JA.kIn LT hb
      refine test hc (LM.here ?_)
      cases b with
      | false =>
        show wpAny _ X.A (handleBy (.ref a) X.env hds2) _ _ _
        exact ih (hno rfl)
      | true =>
        refine codeAny_handlers_suite_as ?_
        refine HandSPX.lands_againZ flA fun hB flB upB => ?_
        have JB : Inv X pins σ' H' { s' with heap := hB } := J.landed nb flB.1 ((up.trans upA).trans upB) os ag
        obtain ⟨oB, vB, eB, zB, dB⟩ := flB.there
        have SB := JB.suite eB dB na nL nF
        refine store_ok (X := X.suite a ((a, oB) :: (X.pn ++ pins))) (v := .ref a) SB hN hi (.inl hl) rfl (fun s5 S5 => ?_) (.inr hl)
        refine wpAny_mono ((hsu a oB cls d (X.pn ++ pins) zB ⟨_, dB⟩).run [] s5 _ H' _ S5 (hyes rfl a na)) (fun f s6 hsp => ?_) (fun _ _ z => z.elim)
        have gone : ∀ {σ6 : L2.St} {H6 : Hp} {Q : Shared → Prop}, Inv (X.suite a ((a, oB) :: (X.pn ++ pins))) [] σ6 H6 s6 → (∀ s7, Inv X pins (σ6.set q.i none) H6 s7 → Q s7) →
            wpAny (model X.prog X.w) X.A (do bindName X.env n .none; unbindBehindTheSuite X.env n p2) (fun _ s7 => Q s7) X.xe s6 := fun {σ6 H6 Q} S6 hq => gone_ok (S6.unsuite ok) hN hi hl hq
        cases f with
        | ret u =>
          obtain ⟨v6, σ6, H6, S6, r6, q6⟩ := hsp
          exact gone S6 fun s7 J7 => ⟨v6, _, _, J7, r6, q6⟩
        | next =>
          obtain ⟨σ6, H6, S6, q6⟩ := hsp
          exact gone S6 fun s7 J7 => ⟨_, _, J7, q6⟩
        | brk =>
          obtain ⟨σ6, H6, S6, q6⟩ := hsp
          exact gone S6 fun s7 J7 => ⟨_, _, J7, q6⟩
        | cont =>
          obtain ⟨σ6, H6, S6, q6⟩ := hsp
          exact gone S6 fun s7 J7 => ⟨_, _, J7, q6⟩
    | @no x c ts st sts p1 p2 hds2 l2 hc hsu r ih =>
      intro w
      obtain ⟨b, hb, hyes, hno⟩ := w
      refine wpAny_handleBy_cons (codeAny_handlers_test ?_) (by intro z; cases z)
      have LM := PySem.W.exm_one (M := model X.prog X.w) JA.kIn LT hb
      refine test hc (LM.here ?_)
      cases b with
      | false =>
        show wpAny _ X.A (handleBy (.ref a) X.env hds2) _ _ _
        exact ih (hno rfl)
      | true =>
        refine codeAny_handlers_suite ?_
        refine HandSPX.lands_againZ flA fun hB flB upB => ?_
        have JB : Inv X pins σ' H' { s' with heap := hB } := J.landed nb flB.1 ((up.trans upA).trans upB) os ag
        obtain ⟨oB, vB, eB, zB, dB⟩ := flB.there
        have SB := JB.suite eB dB na nL nF
        refine wpAny_mono ((hsu a oB cls d (X.pn ++ pins) zB ⟨_, dB⟩).run [] _ _ H' _ SB (hyes rfl a na)) (fun f s6 hsp => ?_) (fun _ _ z => z.elim)
        cases f with
        | ret u =>
          obtain ⟨v6, σ6, H6, S6, r6, q6⟩ := hsp
          exact ⟨_, _, _, S6.unsuite ok, r6, q6⟩
        | next =>
          obtain ⟨σ6, H6, S6, q6⟩ := hsp
          exact ⟨_, _, S6.unsuite ok, q6⟩
        | brk =>
          obtain ⟨σ6, H6, S6, q6⟩ := hsp
          exact ⟨_, _, S6.unsuite ok, q6⟩
        | cont =>
          obtain ⟨σ6, H6, S6, q6⟩ := hsp
          exact ⟨_, _, S6.unsuite ok, q6⟩
  exact go hh w0
/-- THE RULE: try: body / except X: .. / except Y as f: .. -/
theorem ps_try_mix (hs : X.stack = X.env :: X.outer) (hf : X.env.frame = some X.env.locals) (hN : X.N.Nodup) (tk : Takes X Wout)
    (hb : ∀ (W : WX) (pn : List (Addr × Obj)) (xe : Value → Shared → Prop), Takes (X.tr pn xe) W → PassesOwn (model X.prog X.w) X.A X.env xe → PSs (X.tr pn xe) body (tb W))
    (hh : MixOk X (h₀ :: hds) l) : PS X (.Try body (h₀ :: hds) [] [] pos) (fun D σ H => tb (wMix X.K Wout D l) D σ H) := by
  refine ⟨fun pins s σ H D I h => ?_⟩
  have ok := I.ok
  refine wpAny_Try_except ?_
  have PB := hb (wMix X.K Wout D l) (X.pn ++ pins) (xeAs X pins (h₀ :: hds) D) (mix_takes ok hs hf hN tk hh) PassesOwn.looking
  refine wpAny_mono (PB.run [] s σ H D (I.toTry _) h) (fun f s1 hsp => ?_) (fun e s1 he => he)
  cases f with
  | next =>
    obtain ⟨σ', H', J', q⟩ := hsp
    exact wpAny_execs_nil ⟨σ', H', J'.ofTry ok, q⟩
  | ret u =>
    obtain ⟨v, σ', H', J', r, q⟩ := hsp
    exact ⟨v, σ', H', J'.ofTry ok, r, q⟩
  | brk =>
    obtain ⟨σ', H', J', q⟩ := hsp
    exact ⟨σ', H', J'.ofTry ok, q⟩
  | cont =>
    obtain ⟨σ', H', J', q⟩ := hsp
    exact ⟨σ', H', J'.ofTry ok, q⟩
end
end Ls
namespace AL
open PySem PySem.Spec PyProof.Rows L2 Ls
/-! ### data that never change, told without the heap -/
inductive Dat where
  | non | bl (b : Bool) | int (i : Int) | str (z : Str) | ty (n : String) | ref (a : Addr)
  | lst (xs : List Dat) | tup (xs : List Dat) | con (xs : List Dat)
  | dK (es : List (Key × Dat)) | dT (es : List (List Key × Dat))
  | err (a : Addr) (C : Value) (d : Option Addr) (fs : List (Str × Dat))
  | ins (C : Addr) (fs : List (Str × Dat))
  | ob (φ : Hp → Addr → Prop)
/-- what is kept of one's own beside them: lists, dicts, instances that may change -/
inductive Raw where
  | lst (xs : List Dat) | dK (es : List (Key × Dat)) | dT (es : List (List Key × Dat))
  | ins (C dx : Addr) (fs : List (Str × Dat)) | frz (o : Obj) (u : HO) (r : Raw) | own (x : Addr) | hid (o : HO)
inductive Cell where
  | raw (r : Raw) | box (P : (Addr → Option Raw) → Prop)
abbrev AS := Addr → Option Cell
abbrev Ga := List (Option Dat)
def supd (s : AS) (a : Addr) (c : Cell) : AS := fun b => if b = a then some c else s b
def sdel (s : AS) (a : Addr) : AS := fun b => if b = a then none else s b
theorem supd_same {s : AS} {a : Addr} {c : Cell} : supd s a c a = some c := by unfold supd; rw [if_pos rfl]
theorem supd_ne {s : AS} {a b : Addr} {c : Cell} (h : b ≠ a) : supd s a c b = s b := by unfold supd; rw [if_neg h]
theorem supd_supd {s : AS} {a : Addr} {c c' : Cell} : supd (supd s a c) a c' = supd s a c' := by
  funext b
  unfold supd
  split <;> rfl
theorem supd_comm {s : AS} {a b : Addr} {c d : Cell} (h : a ≠ b) : supd (supd s a c) b d = supd (supd s b d) a c := by
  funext x
  unfold supd
  by_cases e : x = b
  · rw [if_pos e]
    by_cases e2 : x = a
    · exact absurd (e2.symm.trans e) h
    · rw [if_neg e2, if_pos e]
  · rw [if_neg e]
    by_cases e2 : x = a
    · rw [if_pos e2]
      rw [if_pos e2]
    · rw [if_neg e2, if_neg e2, if_neg e]
theorem sdel_supd {s : AS} {a : Addr} {c : Cell} (h : s a = none) : sdel (supd s a c) a = s := by
  funext b
  unfold sdel supd
  by_cases e : b = a
  · rw [if_pos e, e, h]
  · rw [if_neg e, if_neg e]
theorem supd_id {s : AS} {a : Addr} {c : Cell} (h : s a = some c) : supd s a c = s := by
  funext b
  unfold supd
  by_cases e : b = a
  · rw [if_pos e, e, h]
  · rw [if_neg e]
theorem sne {s : AS} {a b : Addr} {c : Cell} (h : s a = some c) (h' : s b = none) : a ≠ b := fun e => by
  rw [e, h'] at h
  cases h
mutual
inductive At (K : PySem.W.Frag) (H : Hp) : V → Dat → Prop
  | non : At K H .non .non
  | bl (b : Bool) : At K H (.bl b) (.bl b)
  | int (i : Int) : At K H (.int i) (.int i)
  | str (z : Str) : At K H (.str z) (.str z)
  | ty (n : String) : At K H (.ty n) (.ty n)
  | ref (a : Addr) : At K H (.ref a) (.ref a)
  | lst {a : Addr} {xs : List V} {ds : List Dat} : H a = some (.lst xs) → Ats K H xs ds → At K H (.ref a) (.lst ds)
  | tup {a : Addr} {xs : List V} {ds : List Dat} : H a = some (.tup xs) → Ats K H xs ds → At K H (.ref a) (.tup ds)
  | con {a : Addr} {xs : List V} {ds : List Dat} : SqT K H a xs → Ats K H xs ds → At K H (.ref a) (.con ds)
  | dK {a : Addr} {kvs : List (Key × V)} {es : List (Key × Dat)} : H a = some (.dK kvs) → kvs.map (·.1) = es.map (·.1) → Ats K H (kvs.map (·.2)) (es.map (·.2)) → At K H (.ref a) (.dK es)
  | dT {a : Addr} {kvs : List (List Key × V)} {es : List (List Key × Dat)} : H a = some (.dT kvs) → kvs.map (·.1) = es.map (·.1) → Ats K H (kvs.map (·.2)) (es.map (·.2)) → At K H (.ref a) (.dT es)
  | err0 {a : Addr} {C : Value} {d : Option Addr} : At K H (.ref a) (.err a C d [])
  | err {a dd : Addr} {C : Value} {l : List (Str × V)} {fs : List (Str × Dat)} : H dd = some (.xd l) → l.map (·.1) = fs.map (·.1) → Ats K H (l.map (·.2)) (fs.map (·.2)) → At K H (.ref a) (.err a C (some dd) fs)
  | ins {a dx C : Addr} {gs : List (Str × V)} {fs : List (Str × Dat)} : H a = some (.ins C dx gs) → gs.map (·.1) = fs.map (·.1) → Ats K H (gs.map (·.2)) (fs.map (·.2)) → At K H (.ref a) (.ins C fs)
  | ob {a : Addr} {φ : Hp → Addr → Prop} : (∀ H', Same H H' → φ H' a) → At K H (.ref a) (.ob φ)
inductive Ats (K : PySem.W.Frag) (H : Hp) : List V → List Dat → Prop
  | nil : Ats K H [] []
  | cons {v : V} {vs : List V} {d : Dat} {ds : List Dat} : At K H v d → Ats K H vs ds → Ats K H (v :: vs) (d :: ds)
end
theorem sqT_same {K : PySem.W.Frag} {H H' : Hp} {a : Addr} {xs : List V} (s : Same H H') (h : SqT K H a xs) : SqT K H' a xs := by
  rcases h with (h | ⟨o, h⟩) | h
  · exact .inl (.inl (s _ _ h))
  · exact .inl (.inr ⟨o, s _ _ h⟩)
  · exact .inr h
mutual
theorem At.same {K : PySem.W.Frag} {H H' : Hp} (s : Same H H') : ∀ {v : V} {d : Dat}, At K H v d → At K H' v d
  | _, _, .non => .non
  | _, _, .bl b => .bl b
  | _, _, .int b => .int b
  | _, _, .str b => .str b
  | _, _, .ty b => .ty b
  | _, _, .ref b => .ref b
  | _, _, .lst h r => .lst (s _ _ h) (Ats.same s r)
  | _, _, .tup h r => .tup (s _ _ h) (Ats.same s r)
  | _, _, .con h r => .con (sqT_same s h) (Ats.same s r)
  | _, _, .dK h e r => .dK (s _ _ h) e (Ats.same s r)
  | _, _, .dT h e r => .dT (s _ _ h) e (Ats.same s r)
  | _, _, .err0 => .err0
  | _, _, .err h e r => .err (s _ _ h) e (Ats.same s r)
  | _, _, .ins h e r => .ins (s _ _ h) e (Ats.same s r)
  | _, _, .ob h => .ob fun H2 s2 => h H2 (s.trans s2)
theorem Ats.same {K : PySem.W.Frag} {H H' : Hp} (s : Same H H') : ∀ {vs : List V} {ds : List Dat}, Ats K H vs ds → Ats K H' vs ds
  | _, _, .nil => .nil
  | _, _, .cons a r => .cons (At.same s a) (Ats.same s r)
end
section
variable {K : PySem.W.Frag} {H H' Hf Hf' : Hp}
theorem Ats.len : ∀ {vs : List V} {ds : List Dat}, Ats K H vs ds → vs.length = ds.length
  | _, _, .nil => rfl
  | _, _, .cons _ r => by rw [List.length_cons, List.length_cons, Ats.len r]
theorem Ats.append : ∀ {vs us : List V} {ds es : List Dat}, Ats K H vs ds → Ats K H us es → Ats K H (vs ++ us) (ds ++ es)
  | _, _, _, _, .nil, h => h
  | _, _, _, _, .cons a r, h => .cons a (Ats.append r h)
theorem Ats.get : ∀ {vs : List V} {ds : List Dat} {i : Nat} {d : Dat}, Ats K H vs ds → ds[i]? = some d → ∃ v, vs[i]? = some v ∧ At K H v d
  | _, _, _, _, .nil, e => by simp at e
  | _, _, 0, _, .cons a _, e => by simp at e; subst e; exact ⟨_, rfl, a⟩
  | _, _, i + 1, d, .cons _ r, e => by
    obtain ⟨v, h1, h2⟩ := Ats.get (i := i) (d := d) r (by simpa using e)
    exact ⟨v, by simpa using h1, h2⟩
theorem Ats.getV : ∀ {vs : List V} {ds : List Dat} {i : Nat} {v : V}, Ats K H vs ds → vs[i]? = some v → ∃ d, ds[i]? = some d ∧ At K H v d
  | _, _, _, _, .nil, e => by simp at e
  | _, _, 0, _, .cons a _, e => by simp at e; subst e; exact ⟨_, rfl, a⟩
  | _, _, i + 1, d, .cons _ r, e => by
    obtain ⟨v, h1, h2⟩ := Ats.getV (i := i) (v := d) r (by simpa using e)
    exact ⟨v, by simpa using h1, h2⟩
theorem Ats.set {v : V} {d : Dat} (a : At K H v d) : ∀ {vs : List V} {ds : List Dat} (i : Nat), Ats K H vs ds → Ats K H (vs.set i v) (ds.set i d)
  | _, _, _, .nil => .nil
  | _, _, 0, .cons _ r => .cons a r
  | _, _, i + 1, .cons b r => .cons b (Ats.set a i r)
theorem Ats.take : ∀ {vs : List V} {ds : List Dat} (n : Nat), Ats K H vs ds → Ats K H (vs.take n) (ds.take n)
  | _, _, 0, _ => .nil
  | _, _, _ + 1, .nil => .nil
  | _, _, n + 1, .cons a r => .cons a (Ats.take n r)
theorem Ats.drop : ∀ {vs : List V} {ds : List Dat} (n : Nat), Ats K H vs ds → Ats K H (vs.drop n) (ds.drop n)
  | _, _, 0, r => r
  | _, _, _ + 1, .nil => .nil
  | _, _, n + 1, .cons _ r => Ats.drop n r
theorem Ats.erase : ∀ {vs : List V} {ds : List Dat} (n : Nat), Ats K H vs ds → Ats K H (vs.eraseIdx n) (ds.eraseIdx n)
  | _, _, _, .nil => .nil
  | _, _, 0, .cons _ r => r
  | _, _, n + 1, .cons a r => .cons a (Ats.erase n r)
theorem Ats.dropLast : ∀ {vs : List V} {ds : List Dat}, Ats K H vs ds → Ats K H vs.dropLast ds.dropLast
  | _, _, .nil => .nil
  | _, _, .cons _ .nil => .nil
  | _, _, .cons a (.cons b r) => .cons a (Ats.dropLast (.cons b r))
theorem Ats.rev : ∀ {vs : List V} {ds : List Dat}, Ats K H vs ds → Ats K H vs.reverse ds.reverse
  | _, _, .nil => .nil
  | _, _, .cons a r => by
    rw [List.reverse_cons, List.reverse_cons]
    exact (Ats.rev r).append (.cons a .nil)
theorem ats_strs : ∀ zs : List Str, Ats K H (zs.map V.str) (zs.map Dat.str)
  | [] => .nil
  | z :: r => .cons (.str z) (ats_strs r)
theorem ats_ints : ∀ zs : List Int, Ats K H (zs.map V.int) (zs.map Dat.int)
  | [] => .nil
  | z :: r => .cons (.int z) (ats_ints r)
theorem ats_bls : ∀ zs : List Bool, Ats K H (zs.map V.bl) (zs.map Dat.bl)
  | [] => .nil
  | z :: r => .cons (.bl z) (ats_bls r)
theorem ats_strs_inv : ∀ {zs : List Str} {xs : List V}, Ats K H xs (zs.map Dat.str) → xs = zs.map V.str
  | [], _, .nil => rfl
  | z :: r, _, .cons a b => by cases a; rw [ats_strs_inv b]; rfl
theorem ats_ints_inv : ∀ {zs : List Int} {xs : List V}, Ats K H xs (zs.map Dat.int) → xs = zs.map V.int
  | [], _, .nil => rfl
  | z :: r, _, .cons a b => by cases a; rw [ats_ints_inv b]; rfl
theorem ats_bls_inv : ∀ {zs : List Bool} {xs : List V}, Ats K H xs (zs.map Dat.bl) → xs = zs.map V.bl
  | [], _, .nil => rfl
  | z :: r, _, .cons a b => by cases a; rw [ats_bls_inv b]; rfl
/-! ### what a changing thing is in the heap -/
def RawHO (K : PySem.W.Frag) (Hf : Hp) : Raw → HO → Prop
  | .lst ds, ho => ∃ xs, ho = .lst xs ∧ Ats K Hf xs ds
  | .dK es, ho => ∃ kvs, ho = .dK kvs ∧ kvs.map (·.1) = es.map (·.1) ∧ Ats K Hf (kvs.map (·.2)) (es.map (·.2))
  | .dT es, ho => ∃ kvs, ho = .dT kvs ∧ kvs.map (·.1) = es.map (·.1) ∧ Ats K Hf (kvs.map (·.2)) (es.map (·.2))
  | .ins C dx fs, ho => ∃ gs, ho = .ins C dx gs ∧ gs.map (·.1) = fs.map (·.1) ∧ Ats K Hf (gs.map (·.2)) (fs.map (·.2))
  | .frz o u r, ho => ho = .frz o u ∧ RawHO K Hf r u
  | .own x, ho => ho = .own x
  | .hid o, ho => ho = o ∧ ∀ xs, o ≠ .tup xs
theorem RawHO.same (s : Same Hf Hf') : ∀ {r : Raw} {ho : HO}, RawHO K Hf r ho → RawHO K Hf' r ho
  | .lst ds, ho, ⟨xs, e, a⟩ => ⟨xs, e, a.same s⟩
  | .dK es, ho, ⟨xs, e, e2, a⟩ => ⟨xs, e, e2, a.same s⟩
  | .dT es, ho, ⟨xs, e, e2, a⟩ => ⟨xs, e, e2, a.same s⟩
  | .ins C dx fs, ho, ⟨xs, e, e2, a⟩ => ⟨xs, e, e2, a.same s⟩
  | .frz o u r, ho, ⟨e, a⟩ => ⟨e, RawHO.same s a⟩
  | .own o, ho, e => e
  | .hid o, ho, e => e
def CellOk (K : PySem.W.Frag) (Hf H : Hp) (φ : Addr → Option Addr) (r : Addr) : Cell → Prop
  | .raw w => ∃ ho, H r = some ho ∧ RawHO K Hf w ho
  | .box P => ∃ sm : Addr → Option Raw, P sm ∧ sm r ≠ none ∧ ∀ a w, sm a = some w → φ a = some r ∧ ∃ ho, H a = some ho ∧ RawHO K Hf w ho
/-- Hf: what stands for good; s: what may change; together they stand in H -/
structure Rep0 (K : PySem.W.Frag) (Hf H : Hp) (s : AS) : Prop where
  sub : Same Hf H
  ex : ∃ φ : Addr → Option Addr, (∀ a r, φ a = some r → Hf a = none ∧ H a ≠ none ∧ s r ≠ none) ∧ ∀ r c, s r = some c → φ r = some r ∧ CellOk K Hf H φ r c
theorem CellOk.imp {φ φ' : Addr → Option Addr} {r : Addr} {c : Cell} (s : Same Hf Hf') (hh : ∀ a, φ a = some r → φ' a = some r ∧ ∀ ho, H a = some ho → H' a = some ho) (hr : φ r = some r) (h : CellOk K Hf H φ r c) : CellOk K Hf' H' φ' r c := by
  cases c with
  | raw w =>
    obtain ⟨ho, h1, h2⟩ := h
    exact ⟨ho, (hh r hr).2 _ h1, h2.same s⟩
  | box P =>
    obtain ⟨sm, p, n, k⟩ := h
    refine ⟨sm, p, n, fun a w e => ?_⟩
    obtain ⟨h1, ho, h2, h3⟩ := k a w e
    exact ⟨(hh a h1).1, ho, (hh a h1).2 _ h2, h3.same s⟩
variable {s s' : AS} {p : Addr}
theorem Rep0.free (R : Rep0 K Hf H s) (h : H p = none) : s p = none ∧ Hf p = none := by
  obtain ⟨φ, h1, h2⟩ := R.ex
  refine ⟨?_, ?_⟩
  · cases e : s p with
    | none => rfl
    | some c => exact absurd h (h1 p p (h2 p c e).1).2.1
  · cases e : Hf p with
    | none => rfl
    | some c => exact absurd (R.sub _ _ e) (by rw [h]; simp)
theorem Rep0.off (R : Rep0 K Hf H s) {c : Cell} (h : s p = some c) : Hf p = none := by
  obtain ⟨φ, h1, h2⟩ := R.ex
  exact (h1 p p (h2 p c h).1).1
theorem same_new' {H : Hp} {p : Addr} {o : HO} (h : H p = none) : Same H (upd H p o) := fun b u e => by
  rw [upd_ne (ne_of_none e h)]
  exact e
/-- a new thing that stands for good -/
theorem Rep0.grow (R : Rep0 K Hf H s) (h : H p = none) (o : HO) : Rep0 K (upd Hf p o) (upd H p o) s ∧ Same Hf (upd Hf p o) := by
  have hf := (R.free h).2
  obtain ⟨φ, h1, h2⟩ := R.ex
  have np : ∀ {a r : Addr}, φ a = some r → a ≠ p := fun {a r} e z => (h1 a r e).2.1 (z ▸ h)
  refine ⟨⟨fun b u e => ?_, φ, fun a r e => ?_, fun r c e => ?_⟩, same_new' hf⟩
  · by_cases z : b = p
    · rw [z, upd_same] at e ⊢
      exact e
    · rw [upd_ne z] at e ⊢
      exact R.sub _ _ e
  · rw [upd_ne (np e), upd_ne (np e)]
    exact h1 a r e
  · have h3 := h2 r c e
    refine ⟨h3.1, h3.2.imp (same_new' hf) (fun a ha => ⟨ha, fun ho e2 => ?_⟩) h3.1⟩
    rw [upd_ne (np ha)]
    exact e2
/-- a new thing of one's own -/
theorem Rep0.new (R : Rep0 K Hf H s) (h : H p = none) {w : Raw} {o : HO} (ho : RawHO K Hf w o) : Rep0 K Hf (upd H p o) (supd s p (.raw w)) := by
  obtain ⟨hs, hf⟩ := R.free h
  obtain ⟨φ, h1, h2⟩ := R.ex
  have np : ∀ {a r : Addr}, φ a = some r → a ≠ p := fun {a r} e z => (h1 a r e).2.1 (z ▸ h)
  refine ⟨fun b u e => ?_, fun a => if a = p then some p else φ a, fun a r e => ?_, fun r c e => ?_⟩
  · rw [upd_ne (ne_of_none (R.sub _ _ e) h)]
    exact R.sub _ _ e
  · dsimp only at e
    by_cases z : a = p
    · rw [if_pos z] at e
      cases e
      exact ⟨by rw [z]; exact hf, by rw [z, upd_same]; simp, by rw [supd_same]; simp⟩
    · rw [if_neg z] at e
      obtain ⟨a1, a2, a3⟩ := h1 a r e
      refine ⟨a1, by rw [upd_ne z]; exact a2, ?_⟩
      by_cases zr : r = p
      · rw [zr, supd_same]
        simp
      · rw [supd_ne zr]
        exact a3
  · by_cases z : r = p
    · rw [z, supd_same] at e
      cases e
      refine ⟨by dsimp only; rw [if_pos z, z], o, by rw [z]; exact upd_same, ho⟩
    · rw [supd_ne z] at e
      have h3 := h2 r c e
      refine ⟨by dsimp only; rw [if_neg z]; exact h3.1, h3.2.imp (Same.refl _) (fun a ha => ⟨by rw [if_neg (np ha)]; exact ha, fun ho e2 => ?_⟩) h3.1⟩
      rw [upd_ne (np ha)]
      exact e2
theorem Rep0.read (R : Rep0 K Hf H s) {w : Raw} (h : s p = some (.raw w)) : ∃ ho, H p = some ho ∧ RawHO K Hf w ho := by
  obtain ⟨φ, h1, h2⟩ := R.ex
  exact (h2 p _ h).2
theorem Rep0.write (R : Rep0 K Hf H s) {w w' : Raw} {o : HO} (h : s p = some (.raw w)) (ho : RawHO K Hf w' o) : Rep0 K Hf (upd H p o) (supd s p (.raw w')) := by
  have hf := R.off h
  obtain ⟨φ, h1, h2⟩ := R.ex
  have hp := (h2 p _ h).1
  refine ⟨fun b u e => ?_, φ, fun a r e => ?_, fun r c e => ?_⟩
  · rw [upd_ne (ne_of_none e hf)]
    exact R.sub _ _ e
  · obtain ⟨a1, a2, a3⟩ := h1 a r e
    refine ⟨a1, ?_, ?_⟩
    · by_cases z : a = p
      · rw [z, upd_same]
        simp
      · rw [upd_ne z]
        exact a2
    · by_cases zr : r = p
      · rw [zr, supd_same]
        simp
      · rw [supd_ne zr]
        exact a3
  · by_cases z : r = p
    · rw [z, supd_same] at e
      cases e
      exact ⟨by rw [z]; exact hp, o, by rw [z]; exact upd_same, ho⟩
    · rw [supd_ne z] at e
      have h3 := h2 r c e
      refine ⟨h3.1, h3.2.imp (Same.refl _) (fun a ha => ⟨ha, fun ho e2 => ?_⟩) h3.1⟩
      rw [upd_ne (fun y => z (Option.some.inj ((ha.symm.trans (congrArg φ y)).trans hp)))]
      exact e2
theorem Rep0.drop (R : Rep0 K Hf H s) (h : ∀ a c, s' a = some c → s a = some c) : Rep0 K Hf H s' := by
  classical
  obtain ⟨φ, h1, h2⟩ := R.ex
  refine ⟨R.sub, fun a => (φ a).bind fun r => if s' r = none then none else some r, fun a r e => ?_, fun r c e => ?_⟩
  · obtain ⟨r2, e2, e3⟩ := Option.bind_eq_some_iff.mp e
    split at e3
    · cases e3
    · rename_i n
      cases e3
      exact ⟨(h1 a r e2).1, (h1 a r e2).2.1, n⟩
  · have h3 := h2 r c (h r c e)
    have k : ∀ a, φ a = some r → ((φ a).bind fun r => if s' r = none then none else some r) = some r := fun a ha => by
      rw [ha]
      show (if s' r = none then none else some r) = some r
      rw [if_neg (by rw [e]; simp)]
    exact ⟨k r h3.1, h3.2.imp (Same.refl _) (fun a ha => ⟨k a ha, fun _ e => e⟩) h3.1⟩
/-- a thing of one's own stands for good from now on -/
theorem Rep0.freeze (R : Rep0 K Hf H s) {w : Raw} (h : s p = some (.raw w)) : ∃ ho, H p = some ho ∧ RawHO K Hf w ho ∧ Same Hf (upd Hf p ho) ∧ Rep0 K (upd Hf p ho) H (sdel s p) := by
  have hf := R.off h
  obtain ⟨ho, e0, k0⟩ := R.read h
  have sm : Same Hf (upd Hf p ho) := same_new' hf
  refine ⟨ho, e0, k0, sm, ?_⟩
  have R2 : Rep0 K Hf H (sdel s p) := R.drop fun a c e => by
    unfold sdel at e
    split at e
    · cases e
    · exact e
  obtain ⟨φ, h1, h2⟩ := R.ex
  have hp := (h2 p _ h).1
  refine ⟨fun b u e => ?_, fun a => if φ a = some p then none else φ a, fun a r e => ?_, fun r c e => ?_⟩
  · by_cases z : b = p
    · rw [z, upd_same] at e
      rw [z]
      cases e
      exact e0
    · rw [upd_ne z] at e
      exact R.sub _ _ e
  · dsimp only at e
    split at e
    · cases e
    · rename_i n
      obtain ⟨a1, a2, a3⟩ := h1 a r e
      have zr : r ≠ p := fun z => n (z ▸ e)
      refine ⟨?_, a2, ?_⟩
      · rw [upd_ne (fun z => ?_)]
        · exact a1
        · rw [z] at e
          exact zr (Option.some.inj (e.symm.trans hp))
      · unfold sdel
        rw [if_neg zr]
        exact a3
  · unfold sdel at e
    split at e
    · cases e
    · rename_i z
      have h3 := h2 r c e
      have k : ∀ a, φ a = some r → (if φ a = some p then none else φ a) = some r := fun a ha => by
        rw [ha, if_neg (fun y => z (Option.some.inj y))]
      exact ⟨k r h3.1, h3.2.imp sm (fun a ha => ⟨k a ha, fun _ e => e⟩) h3.1⟩
/-- the heap has grown by what one does not know -/
theorem Rep0.after (R : Rep0 K Hf H s) (sm : Same H H') : ∃ Hf', Same Hf Hf' ∧ Rep0 K Hf' H' s ∧ ∀ a o, H a = none → H' a = some o → Hf' a = some o := by
  classical
  obtain ⟨φ, h1, h2⟩ := R.ex
  have g : Same Hf (fun a => if H a = none then H' a else Hf a) := fun b u e => by
    show (if H b = none then H' b else Hf b) = some u
    rw [if_neg (by rw [R.sub _ _ e]; simp)]
    exact e
  refine ⟨fun a => if H a = none then H' a else Hf a, g, ⟨fun b u e => ?_, φ, fun a r e => ?_, fun r c e => ?_⟩, fun a o h e => ?_⟩
  · have e : (if H b = none then H' b else Hf b) = some u := e
    split at e
    · exact e
    · exact sm _ _ (R.sub _ _ e)
  · obtain ⟨a1, a2, a3⟩ := h1 a r e
    refine ⟨?_, ?_, a3⟩
    · show (if H a = none then H' a else Hf a) = none
      rw [if_neg a2]
      exact a1
    · cases e2 : H a with
      | none => exact absurd e2 a2
      | some o => rw [sm _ _ e2]; simp
  · have h3 := h2 r c e
    exact ⟨h3.1, h3.2.imp g (fun a ha => ⟨ha, fun ho e2 => sm _ _ e2⟩) h3.1⟩
  · show (if H a = none then H' a else Hf a) = some o
    rw [if_pos h]
    exact e
/-! ### boxes -/
def ovr (s : AS) (m : Addr) (sm : Addr → Option Raw) : AS := fun a => match sm a with
  | some w => some (.raw w)
  | none => if a = m then none else s a
theorem Rep0.open (R : Rep0 K Hf H s) {P : (Addr → Option Raw) → Prop} (h : s p = some (.box P)) : ∃ sm, P sm ∧ (∀ a, sm a ≠ none → a = p ∨ s a = none) ∧ Rep0 K Hf H (ovr s p sm) := by
  obtain ⟨φ, h1, h2⟩ := R.ex
  obtain ⟨hp, sm, hP, n, k⟩ := h2 p _ h
  have apart : ∀ a, sm a ≠ none → a = p ∨ s a = none := fun a ha => by
    cases e : s a with
    | none => exact .inr rfl
    | some c =>
      cases e2 : sm a with
      | none => exact absurd e2 ha
      | some w => exact .inl (Option.some.inj ((h2 a c e).1.symm.trans (k a w e2).1))
  refine ⟨sm, hP, apart, R.sub, fun a => if sm a = none then (if φ a = some p then none else φ a) else some a, fun a r e => ?_, fun r c e => ?_⟩
  · dsimp only at e
    split at e
    · rename_i n1
      split at e
      · cases e
      · rename_i n2
        obtain ⟨a1, a2, a3⟩ := h1 a r e
        refine ⟨a1, a2, ?_⟩
        have zr : r ≠ p := fun z => n2 (z ▸ e)
        show ovr s p sm r ≠ none
        unfold ovr
        cases e2 : sm r with
        | some w => simp
        | none =>
          dsimp only
          rw [if_neg zr]
          exact a3
    · rename_i n1
      cases e
      cases e2 : sm a with
      | none => exact absurd e2 n1
      | some w =>
        obtain ⟨h3, ho, h4, h5⟩ := k a w e2
        refine ⟨(h1 a p h3).1, (h1 a p h3).2.1, ?_⟩
        unfold ovr
        rw [e2]
        simp
  · unfold ovr at e
    cases e2 : sm r with
    | some w =>
      rw [e2] at e
      dsimp only at e
      cases e
      refine ⟨by dsimp only; rw [e2, if_neg (by simp)], ?_⟩
      exact (k r w e2).2
    | none =>
      rw [e2] at e
      dsimp only at e
      split at e
      · cases e
      · rename_i zr
        have h3 := h2 r c e
        have kk : ∀ a, φ a = some r → (if sm a = none then (if φ a = some p then none else φ a) else some a) = some r := fun a ha => by
          cases e4 : sm a with
          | none => rw [if_pos rfl, ha, if_neg (fun y => zr (Option.some.inj y))]
          | some w => exact absurd (Option.some.inj (ha.symm.trans (k a w e4).1)) zr
        exact ⟨kk r h3.1, h3.2.imp (Same.refl _) (fun a ha => ⟨kk a ha, fun _ e => e⟩) h3.1⟩
theorem Rep0.close {s1 : AS} (R : Rep0 K Hf H s1) {P : (Addr → Option Raw) → Prop} {sm : Addr → Option Raw} (hP : P sm) (hm : sm p ≠ none) (k : ∀ a w, sm a = some w → s1 a = some (.raw w)) (hs : ∀ a c, a ≠ p → s a = some c → s1 a = some c ∧ sm a = none) : Rep0 K Hf H (supd s p (.box P)) := by
  classical
  obtain ⟨φ, h1, h2⟩ := R.ex
  have own : ∀ a, sm a ≠ none → φ a = some a := fun a ha => by
    cases e : sm a with
    | none => exact absurd e ha
    | some w => exact (h2 a _ (k a w e)).1
  refine ⟨R.sub, fun a => if sm a = none then ((φ a).bind fun r => if sm r = none ∧ r ≠ p ∧ s r ≠ none then some r else none) else some p, fun a r e => ?_, fun r c e => ?_⟩
  · dsimp only at e
    split at e
    · obtain ⟨r2, e2, e3⟩ := Option.bind_eq_some_iff.mp e
      split at e3
      · rename_i n
        cases e3
        refine ⟨(h1 a r e2).1, (h1 a r e2).2.1, ?_⟩
        rw [supd_ne n.2.1]
        exact n.2.2
      · cases e3
    · rename_i n
      cases e
      have := h1 a a (own a n)
      refine ⟨this.1, this.2.1, ?_⟩
      rw [supd_same]
      simp
  · by_cases z : r = p
    · rw [z, supd_same] at e
      cases e
      refine ⟨by dsimp only; rw [z, if_neg hm], sm, hP, by rw [z]; exact hm, fun a w e => ?_⟩
      refine ⟨?_, (h2 a _ (k a w e)).2⟩
      dsimp only
      rw [if_neg (by rw [e]; simp), z]
    · rw [supd_ne z] at e
      obtain ⟨e1, e2⟩ := hs r c z e
      have h3 := h2 r c e1
      have kk : ∀ a, φ a = some r → (if sm a = none then ((φ a).bind fun r => if sm r = none ∧ r ≠ p ∧ s r ≠ none then some r else none) else some p) = some r := fun a ha => by
        have na : sm a = none := by
          cases e4 : sm a with
          | none => rfl
          | some w =>
            have := own a (by rw [e4]; simp)
            rw [this] at ha
            cases ha
            rw [e2] at e4
            cases e4
        rw [if_pos na, ha]
        show (if sm r = none ∧ r ≠ p ∧ s r ≠ none then some r else none) = some r
        rw [if_pos ⟨e2, z, by rw [e]; simp⟩]
      exact ⟨kk r h3.1, h3.2.imp (Same.refl _) (fun a ha => ⟨kk a ha, fun _ e => e⟩) h3.1⟩
end

theorem sdel_same {s : AS} {a : Addr} : sdel s a a = none := by unfold sdel; rw [if_pos rfl]
theorem sdel_ne {s : AS} {a b : Addr} (h : b ≠ a) : sdel s a b = s b := by unfold sdel; rw [if_neg h]
theorem ovr_some {s : AS} {m a : Addr} {sm : Addr → Option Raw} {w : Raw} (h : sm a = some w) : ovr s m sm a = some (.raw w) := by unfold ovr; rw [h]
theorem ovr_same {s : AS} {m : Addr} {sm : Addr → Option Raw} (h : sm m = none) : ovr s m sm m = none := by unfold ovr; rw [h]; dsimp only; rw [if_pos rfl]
theorem ovr_ne {s : AS} {m a : Addr} {sm : Addr → Option Raw} (h : sm a = none) (n : a ≠ m) : ovr s m sm a = s a := by unfold ovr; rw [h]; dsimp only; rw [if_neg n]
/-! ### with what stands beside it (the frame) -/
def jn (s F : AS) : AS := fun a => match s a with | some c => some c | none => F a
theorem jn_s {s F : AS} {a : Addr} {c : Cell} (h : s a = some c) : jn s F a = some c := by unfold jn; rw [h]
theorem jn_n {s F : AS} {a : Addr} (h : s a = none) : jn s F a = F a := by unfold jn; rw [h]
theorem jn_none {s F : AS} {a : Addr} (h : jn s F a = none) : s a = none ∧ F a = none := by
  cases e : s a with
  | some c => rw [jn_s e] at h; cases h
  | none => exact ⟨rfl, (jn_n e).symm.trans h⟩
theorem jn_upd {s F : AS} {p : Addr} {c : Cell} : jn (supd s p c) F = supd (jn s F) p c := by
  funext a
  by_cases z : a = p
  · rw [z, supd_same, jn_s supd_same]
  · rw [supd_ne z]
    unfold jn
    rw [supd_ne z]
theorem jn_updF {s F : AS} {p : Addr} {c : Cell} (h : s p = none) : jn s (supd F p c) = supd (jn s F) p c := by
  funext a
  by_cases z : a = p
  · rw [z, supd_same, jn_n h, supd_same]
  · rw [supd_ne z]
    unfold jn
    rw [supd_ne z]
structure Rep (K : PySem.W.Frag) (F : AS) (Hf H : Hp) (s : AS) : Prop where
  r0 : Rep0 K Hf H (jn s F)
  dis : ∀ a c, s a = some c → F a = none
section
variable {K : PySem.W.Frag} {F : AS} {H H' Hf Hf' : Hp} {s s' : AS} {p : Addr}
theorem Rep.sub (R : Rep K F Hf H s) : Same Hf H := R.r0.sub
theorem Rep.free (R : Rep K F Hf H s) (h : H p = none) : s p = none ∧ F p = none ∧ Hf p = none := by
  obtain ⟨a, b⟩ := R.r0.free h
  obtain ⟨c, d⟩ := jn_none a
  exact ⟨c, d, b⟩
theorem Rep.grow (R : Rep K F Hf H s) (h : H p = none) (o : HO) : Rep K F (upd Hf p o) (upd H p o) s ∧ Same Hf (upd Hf p o) := ⟨⟨(R.r0.grow h o).1, R.dis⟩, (R.r0.grow h o).2⟩
theorem Rep.new (R : Rep K F Hf H s) (h : H p = none) {w : Raw} {o : HO} (ho : RawHO K Hf w o) : Rep K F Hf (upd H p o) (supd s p (.raw w)) := by
  refine ⟨?_, fun a c e => ?_⟩
  · rw [jn_upd]
    exact R.r0.new h ho
  · by_cases z : a = p
    · rw [z]
      exact (R.free h).2.1
    · rw [supd_ne z] at e
      exact R.dis a c e
theorem Rep.read (R : Rep K F Hf H s) {w : Raw} (h : s p = some (.raw w)) : ∃ ho, H p = some ho ∧ RawHO K Hf w ho := R.r0.read (jn_s h)
theorem Rep.write (R : Rep K F Hf H s) {w w' : Raw} {o : HO} (h : s p = some (.raw w)) (ho : RawHO K Hf w' o) : Rep K F Hf (upd H p o) (supd s p (.raw w')) := by
  refine ⟨?_, fun a c e => ?_⟩
  · rw [jn_upd]
    exact R.r0.write (jn_s h) ho
  · by_cases z : a = p
    · rw [z]
      exact R.dis p _ h
    · rw [supd_ne z] at e
      exact R.dis a c e
theorem Rep.drop (R : Rep K F Hf H s) (h : ∀ a c, s' a = some c → s a = some c) : Rep K F Hf H s' := by
  refine ⟨R.r0.drop fun a c e => ?_, fun a c e => R.dis a c (h a c e)⟩
  cases e2 : s' a with
  | some c2 =>
    rw [jn_s e2] at e
    cases e
    exact jn_s (h a c e2)
  | none =>
    rw [jn_n e2] at e
    cases e3 : s a with
    | none => rw [jn_n e3]; exact e
    | some c3 => rw [R.dis a c3 e3] at e; cases e
theorem Rep.freeze (R : Rep K F Hf H s) {w : Raw} (h : s p = some (.raw w)) : ∃ ho, H p = some ho ∧ RawHO K Hf w ho ∧ Same Hf (upd Hf p ho) ∧ Rep K F (upd Hf p ho) H (sdel s p) := by
  obtain ⟨ho, h1, h2, h3, h4⟩ := R.r0.freeze (jn_s h)
  refine ⟨ho, h1, h2, h3, ?_, fun a c e => ?_⟩
  · have : jn (sdel s p) F = sdel (jn s F) p := by
      funext a
      by_cases z : a = p
      · rw [z, sdel_same, jn_n sdel_same, R.dis p _ h]
      · rw [sdel_ne z]
        unfold jn
        rw [sdel_ne z]
    rw [this]
    exact h4
  · unfold sdel at e
    split at e
    · cases e
    · exact R.dis a c e
theorem Rep.after (R : Rep K F Hf H s) (sm : Same H H') : ∃ Hf', Same Hf Hf' ∧ Rep K F Hf' H' s ∧ ∀ a o, H a = none → H' a = some o → Hf' a = some o := by
  obtain ⟨Hf', h1, h2, h3⟩ := R.r0.after sm
  exact ⟨Hf', h1, ⟨h2, R.dis⟩, h3⟩
theorem Rep.open (R : Rep K F Hf H s) {P : (Addr → Option Raw) → Prop} (h : s p = some (.box P)) : ∃ sm, P sm ∧ (∀ a, sm a ≠ none → a = p ∨ s a = none) ∧ Rep K F Hf H (ovr s p sm) := by
  obtain ⟨sm, h1, h2, h3⟩ := R.r0.open (jn_s h)
  have fr : ∀ a, sm a ≠ none → F a = none := fun a ha => by
    rcases h2 a ha with e | e
    · rw [e]
      exact R.dis p _ h
    · exact (jn_none e).2
  refine ⟨sm, h1, fun a ha => (h2 a ha).imp id fun e => (jn_none e).1, ?_, fun a c e => ?_⟩
  · have : jn (ovr s p sm) F = ovr (jn s F) p sm := by
      funext a
      cases e : sm a with
      | some w => rw [ovr_some e, jn_s (ovr_some e)]
      | none =>
        by_cases z : a = p
        · subst z
          rw [ovr_same e, jn_n (ovr_same e)]
          exact R.dis a _ h
        · rw [ovr_ne e z]
          unfold jn
          rw [ovr_ne e z]
    rw [this]
    exact h3
  · unfold ovr at e
    cases e2 : sm a with
    | some w => exact fr a (by rw [e2]; simp)
    | none =>
      rw [e2] at e
      dsimp only at e
      split at e
      · cases e
      · exact R.dis a c e
theorem Rep.close {s1 : AS} (R : Rep K F Hf H s1) {P : (Addr → Option Raw) → Prop} {sm : Addr → Option Raw} (hP : P sm) (hm : sm p ≠ none) (k : ∀ a w, sm a = some w → s1 a = some (.raw w)) (hs : ∀ a c, a ≠ p → s a = some c → s1 a = some c ∧ sm a = none) : Rep K F Hf H (supd s p (.box P)) := by
  have fp : ∀ a, sm a ≠ none → F a = none := fun a ha => by
    cases e : sm a with
    | none => exact absurd e ha
    | some w => exact R.dis a _ (k a w e)
  have fs : ∀ a c, a ≠ p → s a = some c → F a = none := fun a c z e => R.dis a c (hs a c z e).1
  refine ⟨?_, fun a c e => ?_⟩
  · rw [jn_upd]
    refine Rep0.close (s1 := jn s1 F) R.r0 hP hm (fun a w e => jn_s (k a w e)) fun a c z e => ?_
    cases e2 : s a with
    | some c2 =>
      rw [jn_s e2] at e
      cases e
      exact ⟨jn_s (hs a c z e2).1, (hs a c z e2).2⟩
    | none =>
      rw [jn_n e2] at e
      have n1 : s1 a = none := by
        cases e3 : s1 a with
        | none => rfl
        | some c3 => rw [R.dis a c3 e3] at e; cases e
      refine ⟨by rw [jn_n n1]; exact e, ?_⟩
      cases e4 : sm a with
      | none => rfl
      | some w => rw [fp a (by rw [e4]; simp)] at e; cases e
  · by_cases z : a = p
    · rw [z]
      exact fp p hm
    · rw [supd_ne z] at e
      exact fs a c z e
/-- a thing put into the frame, changed there, taken out for good -/
theorem Rep.hide (R : Rep K F Hf H s) (h : H p = none) {w : Raw} {o : HO} (ho : RawHO K Hf w o) : Rep K (supd F p (.raw w)) Hf (upd H p o) s := by
  have hs := (R.free h).1
  refine ⟨?_, fun a c e => ?_⟩
  · rw [jn_updF hs]
    exact R.r0.new h ho
  · rw [supd_ne (sne e hs)]
    exact R.dis a c e
theorem Rep.readF {w : Raw} (R : Rep K (supd F p (.raw w)) Hf H s) : s p = none ∧ ∃ ho, H p = some ho ∧ RawHO K Hf w ho := by
  have hs : s p = none := by
    cases e : s p with
    | none => rfl
    | some c => have := R.dis p c e; rw [supd_same] at this; cases this
  exact ⟨hs, R.r0.read ((jn_n hs).trans supd_same)⟩
theorem Rep.writeF {w w' : Raw} {o : HO} (R : Rep K (supd F p (.raw w)) Hf H s) (ho : RawHO K Hf w' o) : Rep K (supd F p (.raw w')) Hf (upd H p o) s := by
  obtain ⟨hs, _⟩ := R.readF
  refine ⟨?_, fun a c e => ?_⟩
  · have := R.r0.write (w := w) (w' := w') (p := p) ((jn_n hs).trans supd_same) ho
    rw [← jn_updF hs, supd_supd] at this
    exact this
  · rw [supd_ne (sne e hs)]
    have := R.dis a c e
    rw [supd_ne (sne e hs)] at this
    exact this
theorem Rep.showF {w : Raw} (R : Rep K (supd F p (.raw w)) Hf H s) (hF : F p = none) : ∃ ho, H p = some ho ∧ RawHO K Hf w ho ∧ Same Hf (upd Hf p ho) ∧ Rep K F (upd Hf p ho) H s := by
  obtain ⟨hs, _⟩ := R.readF
  obtain ⟨ho, h1, h2, h3, h4⟩ := R.r0.freeze (p := p) ((jn_n hs).trans supd_same)
  refine ⟨ho, h1, h2, h3, ?_, fun a c e => ?_⟩
  · rw [jn_updF hs, sdel_supd (by rw [jn_n hs]; exact hF)] at h4
    exact h4
  · have := R.dis a c e
    rw [supd_ne (sne e hs)] at this
    exact this
/-- a tuple that is met belongs to what stands for good -/
theorem RawHO.notTup : ∀ {r : Raw} {ho : HO} {xs : List V}, RawHO K Hf r ho → ho ≠ .tup xs
  | .lst _, _, _, ⟨_, e, _⟩, z => by rw [e] at z; cases z
  | .dK _, _, _, ⟨_, e, _⟩, z => by rw [e] at z; cases z
  | .dT _, _, _, ⟨_, e, _⟩, z => by rw [e] at z; cases z
  | .ins _ _ _, _, _, ⟨_, e, _⟩, z => by rw [e] at z; cases z
  | .frz _ _ _, _, _, ⟨e, _⟩, z => by rw [e] at z; cases z
  | .own _, _, _, e, z => by
    have e : _ = _ := e
    rw [e] at z
    cases z
  | .hid _, _, _, ⟨e, n⟩, z => n _ (e.symm.trans z)
theorem Rep.adopt (R : Rep K F Hf H s) {xs : List V} (h : H p = some (.tup xs)) : ∃ Hf', Same Hf Hf' ∧ Rep K F Hf' H s ∧ Hf' p = some (.tup xs) := by
  classical
  by_cases z : Hf p = none
  · obtain ⟨φ, h1, h2⟩ := R.r0.ex
    have sm : Same Hf (upd Hf p (.tup xs)) := same_new' z
    have no : ∀ {a : Addr} {w : Raw} {ho : HO}, H a = some ho → RawHO K Hf w ho → a ≠ p := fun {a w ho} e k y => by
      rw [y, h] at e
      cases e
      exact k.notTup rfl
    have off : ∀ {r : Addr} {c : Cell}, jn s F r = some c → r ≠ p := fun {r c} e => by
      obtain ⟨k1, k2⟩ := h2 r c e
      cases c with
      | raw w =>
        obtain ⟨ho, k3, k4⟩ := k2
        exact no k3 k4
      | box P =>
        obtain ⟨sm, _, n, k⟩ := k2
        cases e3 : sm r with
        | none => exact absurd e3 n
        | some w =>
          obtain ⟨_, ho, k3, k4⟩ := k r w e3
          exact no k3 k4
    refine ⟨upd Hf p (.tup xs), sm, ⟨⟨fun b u e => ?_, fun a => if a = p then none else φ a, fun a r e => ?_, fun r c e => ?_⟩, R.dis⟩, upd_same⟩
    · by_cases y : b = p
      · rw [y, upd_same] at e
        rw [y]
        cases e
        exact h
      · rw [upd_ne y] at e
        exact R.sub _ _ e
    · dsimp only at e
      split at e
      · cases e
      · rename_i y
        obtain ⟨a1, a2, a3⟩ := h1 a r e
        exact ⟨by rw [upd_ne y]; exact a1, a2, a3⟩
    · obtain ⟨k1, k2⟩ := h2 r c e
      have nr := off e
      refine ⟨by dsimp only; rw [if_neg nr]; exact k1, ?_⟩
      cases c with
      | raw w =>
        obtain ⟨ho, k3, k4⟩ := k2
        exact ⟨ho, k3, k4.same sm⟩
      | box P =>
        obtain ⟨sm', hP, n, k⟩ := k2
        refine ⟨sm', hP, n, fun a w e3 => ?_⟩
        obtain ⟨k5, ho, k3, k4⟩ := k a w e3
        exact ⟨by dsimp only; rw [if_neg (no k3 k4)]; exact k5, ho, k3, k4.same sm⟩
  · cases e : Hf p with
    | none => exact absurd e z
    | some o =>
      have := R.sub _ _ e
      rw [h] at this
      cases this
      exact ⟨Hf, Same.refl _, R, e⟩
/-- from the frame to one's own -/
theorem Rep.outF {w : Raw} (R : Rep K (supd F p (.raw w)) Hf H s) (hF : F p = none) : Rep K F Hf H (supd s p (.raw w)) := by
  obtain ⟨hs, _⟩ := R.readF
  refine ⟨?_, fun a c e => ?_⟩
  · rw [jn_upd, ← jn_updF hs]
    exact R.r0
  · by_cases z : a = p
    · rw [z]
      exact hF
    · rw [supd_ne z] at e
      have := R.dis a c e
      rw [supd_ne z] at this
      exact this
end
end AL
namespace AL
open PySem PySem.Spec PyProof.Rows L2 Ls
/-! ### readings over data -/
structure Ec where
  K : PySem.W.Frag
  W : WX
  Ax : Value → List (Str × Dat) → Ga → AS → Prop
def ErrAt (K : PySem.W.Frag) (Hf : Hp) (d : Option Addr) (fs : List (Str × Dat)) : Prop :=
  (fs = [] ∧ d = none) ∨ ∃ dd l, d = some dd ∧ Hf dd = some (.xd l) ∧ l.map (·.1) = fs.map (·.1) ∧ Ats K Hf (l.map (·.2)) (fs.map (·.2))
structure Slots (K : PySem.W.Frag) (Hf : Hp) (σ : L2.St) (γ : Ga) : Prop where
  len : σ.length = γ.length
  at_ : ∀ (i : Nat) (d : Dat), γ[i]? = some (some d) → ∃ v, σ[i]? = some (some v) ∧ At K Hf v d
def LiftX (e : Ec) (F : AS) (Hf : Hp) : Prop := ∀ cls d fs γ s σ Hf' H', Same Hf Hf' → Rep e.K F Hf' H' s → Slots e.K Hf' σ γ → ErrAt e.K Hf' d fs → e.Ax cls fs γ s → e.W cls d σ H'
def LQ (K : PySem.W.Frag) (F : AS) (Hf : Hp) (Q : Dat → AS → Prop) (Qc : VK) : Prop := ∀ v d Hf' H' s, Same Hf Hf' → Rep K F Hf' H' s → At K Hf' v d → Q d s → Qc v H'
def LQs (K : PySem.W.Frag) (F : AS) (Hf : Hp) (Q : List Dat → AS → Prop) (Qc : List V → Hp → Prop) : Prop := ∀ v d Hf' H' s, Same Hf Hf' → Rep K F Hf' H' s → Ats K Hf' v d → Q d s → Qc v H'
def LQb (K : PySem.W.Frag) (F : AS) (Hf : Hp) (Q : Bool → AS → Prop) (Qc : Bool → Hp → Prop) : Prop := ∀ b Hf' H' s, Same Hf Hf' → Rep K F Hf' H' s → Q b s → Qc b H'
def GE (e : Ec) (te : TE) (γ : Ga) (s : AS) (Q : Dat → AS → Prop) : Prop := ∀ F Hf H σ, Rep e.K F Hf H s → Slots e.K Hf σ γ → LiftX e F Hf → ∀ Qc, LQ e.K F Hf Q Qc → te σ H Qc
def GT (e : Ec) (t : TT) (γ : Ga) (s : AS) (Q : Bool → AS → Prop) : Prop := ∀ F Hf H σ, Rep e.K F Hf H s → Slots e.K Hf σ γ → LiftX e F Hf → ∀ Qc, LQb e.K F Hf Q Qc → t σ H Qc
def GA (e : Ec) (t : TA) (γ : Ga) (s : AS) (Q : List Dat → AS → Prop) : Prop := ∀ F Hf H σ, Rep e.K F Hf H s → Slots e.K Hf σ γ → LiftX e F Hf → ∀ Qc, LQs e.K F Hf Q Qc → t σ H Qc
structure AD where
  nx : Ga → AS → Prop
  rt : Dat → AS → Prop
  bk : Ga → AS → Prop := fun _ _ => False
  ct : Ga → AS → Prop := fun _ _ => False
def LG (K : PySem.W.Frag) (F : AS) (Hf : Hp) (Q : Ga → AS → Prop) (Qc : L2.St → Hp → Prop) : Prop := ∀ σ γ Hf' H' s, Same Hf Hf' → Rep K F Hf' H' s → Slots K Hf' σ γ → Q γ s → Qc σ H'
structure LD (K : PySem.W.Frag) (F : AS) (Hf : Hp) (D : AD) (Dc : Ends) : Prop where
  nx : LG K F Hf D.nx Dc.nx
  rt : LQ K F Hf D.rt Dc.rt
  bk : LG K F Hf D.bk Dc.bk
  ct : LG K F Hf D.ct Dc.ct
def GS (e : Ec) (t : TS) (γ : Ga) (s : AS) (D : AD) : Prop := ∀ F Hf H σ, Rep e.K F Hf H s → Slots e.K Hf σ γ → LiftX e F Hf → ∀ Dc, LD e.K F Hf D Dc → t Dc σ H
section
variable {K : PySem.W.Frag} {F : AS} {Hf Hf' H H' : Hp} {σ : L2.St} {γ γ' : Ga} {s : AS} {e : Ec}
theorem Slots.same (S : Slots K Hf σ γ) (sm : Same Hf Hf') : Slots K Hf' σ γ := ⟨S.len, fun i d h => by
  obtain ⟨v, h1, h2⟩ := S.at_ i d h
  exact ⟨v, h1, h2.same sm⟩⟩
theorem Slots.weak (S : Slots K Hf σ γ) (hl : γ'.length = γ.length) (h : ∀ (i : Nat) (d : Dat), γ'[i]? = some (some d) → γ[i]? = some (some d)) : Slots K Hf σ γ' := ⟨S.len.trans hl.symm, fun i d q => S.at_ i d (h i d q)⟩
theorem Slots.set (S : Slots K Hf σ γ) {v : V} {d : Dat} (a : At K Hf v d) (i : Nat) : Slots K Hf (σ.set i (some v)) (γ.set i (some d)) := by
  refine ⟨by rw [List.length_set, List.length_set, S.len], fun j d2 h => ?_⟩
  by_cases z : i = j
  · subst z
    have hj : i < γ.length := by
      rcases Nat.lt_or_ge i γ.length with h2 | h2
      · exact h2
      · rw [List.set_eq_of_length_le h2, List.getElem?_eq_none_iff.mpr h2] at h
        cases h
    rw [List.getElem?_set_self hj] at h
    cases h
    exact ⟨v, List.getElem?_set_self (by rw [S.len]; exact hj), a⟩
  · rw [List.getElem?_set_ne z] at h ⊢
    exact S.at_ j d2 h
theorem Slots.forget (S : Slots K Hf σ γ) (i : Nat) : Slots K Hf (σ.set i none) (γ.set i none) := by
  refine ⟨by rw [List.length_set, List.length_set, S.len], fun j d2 h => ?_⟩
  by_cases z : i = j
  · subst z
    rw [List.getElem?_set] at h
    rw [if_pos rfl] at h
    split at h <;> cases h
  · rw [List.getElem?_set_ne z] at h ⊢
    exact S.at_ j d2 h
def wipeG (γ : Ga) : List Nat → Ga
  | [] => γ
  | v :: vs => (wipeG γ vs).set v none
theorem Slots.wipe (S : Slots K Hf σ γ) : ∀ vs : List Nat, Slots K Hf (L2.wipe σ vs) (wipeG γ vs)
  | [] => S
  | v :: vs => (Slots.wipe S vs).forget v
theorem LiftX.same (L : LiftX e F Hf) (sm : Same Hf Hf') : LiftX e F Hf' := fun cls d fs γ s σ Hf2 H2 s2 => L cls d fs γ s σ Hf2 H2 (sm.trans s2)
theorem LQ.same {Q : Dat → AS → Prop} {Qc : VK} (L : LQ K F Hf Q Qc) (sm : Same Hf Hf') : LQ K F Hf' Q Qc := fun v d Hf2 H2 s s2 => L v d Hf2 H2 s (sm.trans s2)
theorem LQs.same {Q : List Dat → AS → Prop} {Qc : List V → Hp → Prop} (L : LQs K F Hf Q Qc) (sm : Same Hf Hf') : LQs K F Hf' Q Qc := fun v d Hf2 H2 s s2 => L v d Hf2 H2 s (sm.trans s2)
theorem LQb.same {Q : Bool → AS → Prop} {Qc : Bool → Hp → Prop} (L : LQb K F Hf Q Qc) (sm : Same Hf Hf') : LQb K F Hf' Q Qc := fun v Hf2 H2 s s2 => L v Hf2 H2 s (sm.trans s2)
theorem LG.same {Q : Ga → AS → Prop} {Qc : L2.St → Hp → Prop} (L : LG K F Hf Q Qc) (sm : Same Hf Hf') : LG K F Hf' Q Qc := fun v d Hf2 H2 s s2 => L v d Hf2 H2 s (sm.trans s2)
theorem LD.same {D : AD} {Dc : Ends} (L : LD K F Hf D Dc) (sm : Same Hf Hf') : LD K F Hf' D Dc := ⟨L.nx.same sm, L.rt.same sm, L.bk.same sm, L.ct.same sm⟩
end
section
variable {e : Ec} {γ γ' : Ga} {s s' : AS} {ta tb tc te : TE} {t u : TT} {Q Q' : Dat → AS → Prop} {Qb : Bool → AS → Prop} {D : AD}
theorem GE.imp (h : GE e te γ s Q) (k : ∀ d s, Q d s → Q' d s) : GE e te γ s Q' := fun F Hf H σ R S X Qc L => h F Hf H σ R S X Qc fun v d Hf' H' s' sm R' a q => L v d Hf' H' s' sm R' a (k d s' q)
theorem GT.imp {Q' : Bool → AS → Prop} (h : GT e t γ s Qb) (k : ∀ d s, Qb d s → Q' d s) : GT e t γ s Q' := fun F Hf H σ R S X Qc L => h F Hf H σ R S X Qc fun v Hf' H' s' sm R' q => L v Hf' H' s' sm R' (k v s' q)
/-- let fall what one no longer wants -/
theorem GE.drop (h : GE e te γ s' Q) (k : ∀ a c, s' a = some c → s a = some c) : GE e te γ s Q := fun F Hf H σ R S X Qc L => h F Hf H σ (R.drop k) S X Qc L
theorem GS.drop {t : TS} (h : GS e t γ s' D) (k : ∀ a c, s' a = some c → s a = some c) : GS e t γ s D := fun F Hf H σ R S X Qc L => h F Hf H σ (R.drop k) S X Qc L
theorem GS.weak {t : TS} (h : GS e t γ' s D) (hl : γ'.length = γ.length) (k : ∀ (i : Nat) (d : Dat), γ'[i]? = some (some d) → γ[i]? = some (some d)) : GS e t γ s D := fun F Hf H σ R S X Qc L => h F Hf H σ R (S.weak hl k) X Qc L
/-! ### names, constants -/
theorem g_var {i : Nat} {d : Dat} (h : γ[i]? = some (some d)) (q : Q d s) : GE e (tVar i) γ s Q := fun F Hf H σ R S X Qc L => by
  obtain ⟨v, h1, h2⟩ := S.at_ i d h
  exact ⟨v, h1, L v d Hf H s (Same.refl _) R h2 q⟩
theorem g_int {i : Int} (q : Q (.int i) s) : GE e (tC (.int i)) γ s Q := fun F Hf H σ R S X Qc L => L _ _ Hf H s (Same.refl _) R (.int i) q
theorem g_str {i : Str} (q : Q (.str i) s) : GE e (tC (.str i)) γ s Q := fun F Hf H σ R S X Qc L => L _ _ Hf H s (Same.refl _) R (.str i) q
theorem g_bl {i : Bool} (q : Q (.bl i) s) : GE e (tC (.bl i)) γ s Q := fun F Hf H σ R S X Qc L => L _ _ Hf H s (Same.refl _) R (.bl i) q
theorem g_non (q : Q .non s) : GE e (tC .non) γ s Q := fun F Hf H σ R S X Qc L => L _ _ Hf H s (Same.refl _) R .non q
theorem g_ty {n : String} (q : Q (.ty n) s) : GE e (tC (.ty n)) γ s Q := fun F Hf H σ R S X Qc L => L _ _ Hf H s (Same.refl _) R (.ty n) q
theorem g_cref {a : Addr} (q : Q (.ref a) s) : GE e (tC (.ref a)) γ s Q := fun F Hf H σ R S X Qc L => L _ _ Hf H s (Same.refl _) R (.ref a) q
/-- a tuple of the module's own -/
theorem g_con {a : Addr} {xs : List V} {ds : List Dat} (h : KTup e.K a xs) (hd : ∀ H, Ats e.K H xs ds) (q : Q (.con ds) s) : GE e (tC (.ref a)) γ s Q := fun F Hf H σ R S X Qc L => L _ _ Hf H s (Same.refl _) R (.con (h.sq _) (hd _)) q
/-! ### operators -/
/-- what an operator's reading by values asks, over data -/
def ROk (K : PySem.W.Frag) (r : R2) (A : Dat → Dat → AS → (Dat → AS → Prop) → Prop) : Prop :=
  ∀ (F : AS) (Hf H : Hp) (s : AS) (x y : V) (a b : Dat) (Q : Dat → AS → Prop) (Qc : VK), Rep K F Hf H s → At K Hf x a → At K Hf y b → LQ K F Hf Q Qc → A a b s Q → r x y H Qc
theorem g_op {r : R2} {A : Dat → Dat → AS → (Dat → AS → Prop) → Prop} (hr : ROk e.K r A) (h : GE e ta γ s fun a s1 => GE e tb γ s1 fun b s2 => A a b s2 Q) : GE e (tOp r ta tb) γ s Q := fun F Hf H σ R S X Qc L =>
  h F Hf H σ R S X _ fun x a Hf1 H1 s1 m1 R1 a1 h1 => h1 F Hf1 H1 σ R1 (S.same m1) (X.same m1) _ fun y b Hf2 H2 s2 m2 R2 a2 h2 => hr F Hf2 H2 s2 x y a b Q Qc R2 (a1.same m2) a2 (L.same (m1.trans m2)) h2
def UOk (K : PySem.W.Frag) (r : V → Hp → VK → Prop) (A : Dat → AS → (Dat → AS → Prop) → Prop) : Prop :=
  ∀ (F : AS) (Hf H : Hp) (s : AS) (x : V) (a : Dat) (Q : Dat → AS → Prop) (Qc : VK), Rep K F Hf H s → At K Hf x a → LQ K F Hf Q Qc → A a s Q → r x H Qc
theorem g_un {r : V → Hp → VK → Prop} {A : Dat → AS → (Dat → AS → Prop) → Prop} (hr : UOk e.K r A) (h : GE e ta γ s fun a s1 => A a s1 Q) : GE e (tUn r ta) γ s Q := fun F Hf H σ R S X Qc L =>
  h F Hf H σ R S X _ fun x a Hf1 H1 s1 m1 R1 a1 h1 => hr F Hf1 H1 s1 x a Q Qc R1 a1 (L.same m1) h1
variable {K : PySem.W.Frag}
theorem ro_I {C : Int → Int → Prop} {g : Int → Int → V} {gd : Int → Int → Dat} (hg : ∀ i j K H, At K H (g i j) (gd i j)) : ROk K (rI C g) (fun a b s Q => ∃ i j, a = .int i ∧ b = .int j ∧ C i j ∧ Q (gd i j) s) := by
  rintro F Hf H s x y a b Q Qc R ax ay L ⟨i, j, rfl, rfl, c, q⟩
  cases ax
  cases ay
  exact ⟨i, j, rfl, rfl, c, L _ _ Hf H s (Same.refl _) R (hg _ _ _ _) q⟩
theorem ro_I0 {g : Int → Int → V} {gd : Int → Int → Dat} (hg : ∀ i j K H, At K H (g i j) (gd i j)) : ROk K (rI0 g) (fun a b s Q => ∃ i j, a = .int i ∧ b = .int j ∧ Q (gd i j) s) := by
  rintro F Hf H s x y a b Q Qc R ax ay L ⟨i, j, rfl, rfl, q⟩
  cases ax
  cases ay
  exact ⟨i, j, rfl, rfl, L _ _ Hf H s (Same.refl _) R (hg _ _ _ _) q⟩
/-- == of scalars -/
def eqS : Dat → Dat → Option Bool
  | .non, .non => some true | .non, .int _ => some false | .int _, .non => some false | .non, .bl _ => some false | .bl _, .non => some false | .non, .str _ => some false | .str _, .non => some false
  | .int a, .int b => some (decide (a = b)) | .bl a, .bl b => some (decide (a = b)) | .str a, .str b => some (decide (a = b))
  | .int _, .str _ => some false | .str _, .int _ => some false | .bl _, .str _ => some false | .str _, .bl _ => some false
  | _, _ => none
theorem eqS_ok {Hf : Hp} {x y : V} {a b : Dat} {c : Bool} (ax : At K Hf x a) (ay : At K Hf y b) (h : eqS a b = some c) : scal x y = true ∧ decide (x = y) = c := by
  cases ax <;> cases ay <;> (first | (cases h; done) | (cases h; refine ⟨rfl, ?_⟩; first | rfl | exact decide_eq_false (fun z => nomatch z) | exact decide_eq_decide.mpr ⟨fun z => by injection z, fun z => by rw [z]⟩))
theorem ro_eq : ROk K rEq (fun a b s Q => ∃ c, eqS a b = some c ∧ Q (.bl c) s) := by
  rintro F Hf H s x y a b Q Qc R ax ay L ⟨c, h, q⟩
  obtain ⟨h1, h2⟩ := eqS_ok ax ay h
  refine ⟨h1, ?_⟩
  rw [h2]
  exact L _ _ Hf H s (Same.refl _) R (.bl c) q
theorem ro_ne : ROk K rNe (fun a b s Q => ∃ c, eqS a b = some c ∧ Q (.bl (!c)) s) := by
  rintro F Hf H s x y a b Q Qc R ax ay L ⟨c, h, q⟩
  obtain ⟨h1, h2⟩ := eqS_ok ax ay h
  refine ⟨h1, ?_⟩
  rw [h2]
  exact L _ _ Hf H s (Same.refl _) R (.bl (!c)) q
/-! ### sequences -/
def SeqD (s : AS) (b : Dat) (xs : List Dat) : Prop := b = .lst xs ∨ b = .tup xs ∨ b = .con xs ∨ ∃ p, b = .ref p ∧ s p = some (.raw (.lst xs))
def LstD (s : AS) (b : Dat) (xs : List Dat) : Prop := b = .lst xs ∨ ∃ p, b = .ref p ∧ s p = some (.raw (.lst xs))
def TupD (b : Dat) (xs : List Dat) : Prop := b = .tup xs ∨ b = .con xs
section
variable {F : AS} {Hf H : Hp} {v : V} {b : Dat} {xs : List Dat}
theorem LstD.sq (h : LstD s b xs) (R : Rep K F Hf H s) (a : At K Hf v b) : ∃ p ys, v = .ref p ∧ H p = some (.lst ys) ∧ Ats K Hf ys xs := by
  rcases h with rfl | ⟨p, rfl, h⟩
  · cases a with
    | lst h1 h2 => exact ⟨_, _, rfl, R.sub _ _ h1, h2⟩
  · cases a
    obtain ⟨ho, h1, ys, rfl, h2⟩ := R.read h
    exact ⟨p, ys, rfl, h1, h2⟩
theorem TupD.sq (h : TupD b xs) (R : Rep K F Hf H s) (a : At K Hf v b) : ∃ p ys, v = .ref p ∧ SqT K H p ys ∧ Ats K Hf ys xs := by
  rcases h with rfl | rfl
  · cases a with
    | tup h1 h2 => exact ⟨_, _, rfl, SqT.of (R.sub _ _ h1), h2⟩
  · cases a with
    | con h1 h2 => exact ⟨_, _, rfl, sqT_same R.sub h1, h2⟩
theorem SeqD.sq (h : SeqD s b xs) (R : Rep K F Hf H s) (a : At K Hf v b) : ∃ p ys, v = .ref p ∧ (SqL K H p ys ∨ SqT K H p ys) ∧ Ats K Hf ys xs := by
  rcases h with h | h | h | h
  · obtain ⟨p, ys, h1, h2, h3⟩ := LstD.sq (.inl h) R a
    exact ⟨p, ys, h1, .inl (SqL.of h2), h3⟩
  · obtain ⟨p, ys, h1, h2, h3⟩ := TupD.sq (.inl h) R a
    exact ⟨p, ys, h1, .inr h2, h3⟩
  · obtain ⟨p, ys, h1, h2, h3⟩ := TupD.sq (.inr h) R a
    exact ⟨p, ys, h1, .inr h2, h3⟩
  · obtain ⟨p, ys, h1, h2, h3⟩ := LstD.sq (.inr h) R a
    exact ⟨p, ys, h1, .inl (SqL.of h2), h3⟩
end
theorem LstD.seq {b : Dat} {xs : List Dat} (h : LstD s b xs) : SeqD s b xs := h.elim .inl fun h => .inr (.inr (.inr h))
theorem TupD.seq {b : Dat} {xs : List Dat} (h : TupD b xs) : SeqD s b xs := h.elim (fun h => .inr (.inl h)) fun h => .inr (.inr (.inl h))
theorem atI_ats {Hf : Hp} {ys : List V} {xs : List Dat} {i : Int} {d : Dat} (h : Ats K Hf ys xs) (g : atI xs i = some d) : ∃ v, atI ys i = some v ∧ At K Hf v d := by
  unfold atI at g ⊢
  rw [h.len]
  obtain ⟨j, e, g2⟩ := Option.bind_eq_some_iff.mp g
  obtain ⟨v, h1, h2⟩ := h.get g2
  exact ⟨v, Option.bind_eq_some_iff.mpr ⟨j, e, h1⟩, h2⟩
theorem ro_ixL : ROk K (rIxL K) (fun a b s Q => ∃ xs i d, LstD s a xs ∧ b = .int i ∧ atI xs i = some d ∧ Q d s) := by
  rintro F Hf H s x y a b Q Qc R ax ay L ⟨xs, i, d, h, rfl, g, q⟩
  obtain ⟨p, ys, rfl, h1, h2⟩ := h.sq R ax
  cases ay
  obtain ⟨v, g1, g2⟩ := atI_ats h2 g
  exact ⟨p, ys, i, v, rfl, rfl, SqL.of h1, g1, L _ _ Hf H s (Same.refl _) R g2 q⟩
theorem ro_ixT : ROk K (rIxT K) (fun a b s Q => ∃ xs i d, TupD a xs ∧ b = .int i ∧ atI xs i = some d ∧ Q d s) := by
  rintro F Hf H s x y a b Q Qc R ax ay L ⟨xs, i, d, h, rfl, g, q⟩
  obtain ⟨p, ys, rfl, h1, h2⟩ := h.sq R ax
  cases ay
  obtain ⟨v, g1, g2⟩ := atI_ats h2 g
  exact ⟨p, ys, i, v, rfl, rfl, h1, g1, L _ _ Hf H s (Same.refl _) R g2 q⟩
theorem ro_ixS : ROk K rIxS (fun a b s Q => ∃ z i c, a = .str z ∧ b = .int i ∧ z.length ≤ sizeLine ∧ atI z.cps.toList i = some c ∧ Q (.str ⟨#[c]⟩) s) := by
  rintro F Hf H s x y a b Q Qc R ax ay L ⟨z, i, c, rfl, rfl, hz, g, q⟩
  cases ax
  cases ay
  exact ⟨z, i, c, rfl, rfl, hz, g, L _ _ Hf H s (Same.refl _) R (.str _) q⟩
def flatD : Dat → Bool
  | .non => true | .bl _ => true | .int _ => true | .str _ => true | _ => false
def eqF : Dat → Dat → Bool
  | .non, .non => true | .bl a, .bl b => a == b | .bl a, .int b => (if a then 1 else 0) == b | .int a, .bl b => a == (if b then 1 else 0) | .int a, .int b => a == b | .str a, .str b => a == b | _, _ => false
def inF (a : Dat) (xs : List Dat) : Bool := xs.any fun y => eqF y a
theorem flat_ok {Hf : Hp} {x : V} {a : Dat} (ax : At K Hf x a) (h : flatD a = true) : flatV x = true := by
  cases ax <;> first | rfl | (cases h; done)
theorem eqF_ok {Hf : Hp} {x y : V} {a b : Dat} (ax : At K Hf x a) (ay : At K Hf y b) (h : flatD a = true) (h2 : flatD b = true) : eqV x y = eqF a b := by
  cases ax <;> (first | (cases h; done) | skip) <;> cases ay <;> first | rfl | (cases h2; done)
theorem flats_ok {Hf : Hp} : ∀ {ys : List V} {xs : List Dat}, Ats K Hf ys xs → xs.all flatD = true → ys.all flatV = true
  | _, _, .nil, _ => rfl
  | _, _, .cons a r, h => by
    rw [List.all_cons, Bool.and_eq_true] at h ⊢
    exact ⟨flat_ok a h.1, flats_ok r h.2⟩
theorem inF_ok {Hf : Hp} {x : V} {a : Dat} (ax : At K Hf x a) (h : flatD a = true) : ∀ {ys : List V} {xs : List Dat}, Ats K Hf ys xs → xs.all flatD = true → inV x ys = inF a xs
  | _, _, .nil, _ => rfl
  | _, _, .cons b r, h2 => by
    rw [List.all_cons, Bool.and_eq_true] at h2
    have ih := inF_ok ax h r h2.2
    unfold inV inF at ih ⊢
    rw [List.any_cons, List.any_cons, ih, eqF_ok b ax h2.1 h]
theorem inF_strs {z : Str} : ∀ l : List Str, inF (.str z) (l.map Dat.str) = decide (z ∈ l)
  | [] => by simp [inF]
  | a :: r => by
    have ih := inF_strs (z := z) r
    unfold inF at ih ⊢
    rw [List.map_cons, List.any_cons, ih]
    show ((a == z) || _) = _
    rw [Bool.eq_iff_iff, Bool.or_eq_true, beq_iff_eq, decide_eq_true_iff, decide_eq_true_iff, List.mem_cons]
    exact ⟨fun h => h.imp Eq.symm id, fun h => h.imp Eq.symm id⟩
theorem inF_ints {z : Int} : ∀ l : List Int, inF (.int z) (l.map Dat.int) = decide (z ∈ l)
  | [] => by simp [inF]
  | a :: r => by
    have ih := inF_ints (z := z) r
    unfold inF at ih ⊢
    rw [List.map_cons, List.any_cons, ih]
    show ((a == z) || _) = _
    rw [Bool.eq_iff_iff, Bool.or_eq_true, beq_iff_eq, decide_eq_true_iff, decide_eq_true_iff, List.mem_cons]
    exact ⟨fun h => h.imp Eq.symm id, fun h => h.imp Eq.symm id⟩
theorem flat_strs : ∀ l : List Str, (l.map Dat.str).all flatD = true
  | [] => rfl
  | _ :: r => flat_strs r
theorem flat_ints : ∀ l : List Int, (l.map Dat.int).all flatD = true
  | [] => rfl
  | _ :: r => flat_ints r
/-- what «a in b» gives -/
def InD (s : AS) (a b : Dat) (c : Bool) : Prop := ∃ xs, SeqD s b xs ∧ flatD a = true ∧ xs.all flatD = true ∧ c = inF a xs
theorem InD.strs {z : Str} {b : Dat} {l : List Str} (h : SeqD s b (l.map Dat.str)) : InD s (.str z) b (decide (z ∈ l)) := ⟨_, h, rfl, flat_strs l, (inF_strs l).symm⟩
theorem InD.ints {z : Int} {b : Dat} {l : List Int} (h : SeqD s b (l.map Dat.int)) : InD s (.int z) b (decide (z ∈ l)) := ⟨_, h, rfl, flat_ints l, (inF_ints l).symm⟩
theorem ro_in : ROk K (rIn K false) (fun a b s Q => ∃ c, InD s a b c ∧ Q (.bl c) s) := by
  rintro F Hf H s x y a b Q Qc R ax ay L ⟨c, ⟨xs, h, fa, fx, rfl⟩, q⟩
  obtain ⟨p, ys, rfl, h1, h2⟩ := h.sq R ay
  refine ⟨p, ys, rfl, h1, flat_ok ax fa, flats_ok h2 fx, ?_⟩
  rw [inF_ok ax fa h2 fx]
  exact L _ _ Hf H s (Same.refl _) R (.bl _) q
theorem ro_notIn : ROk K (rIn K true) (fun a b s Q => ∃ c, InD s a b c ∧ Q (.bl (!c)) s) := by
  rintro F Hf H s x y a b Q Qc R ax ay L ⟨c, ⟨xs, h, fa, fx, rfl⟩, q⟩
  obtain ⟨p, ys, rfl, h1, h2⟩ := h.sq R ay
  refine ⟨p, ys, rfl, h1, flat_ok ax fa, flats_ok h2 fx, ?_⟩
  rw [inF_ok ax fa h2 fx]
  exact L _ _ Hf H s (Same.refl _) R (.bl _) q
end
end AL
namespace Ls
open PySem PySem.Spec PyProof.Rows L2 NdefX

/-! ### what the written part must say of an own error, as one test -/
/-- C is an own exception class over ValueError -/
def clsB (K : PySem.W.Frag) (C : Addr) : Bool := match K.lookup C with
  | some ⟨.type "type", _, .cls cd, sl⟩ => (match cd.mro, sl.toList with
    | .ref D :: bm, [_, _, _, _, some (.builtin n), _] => D == C && n == "ValueError.__new__" && cd.hasDict && !cd.hasDel && PySem.HandSPX.refsVE bm
    | _, _ => false)
  | _ => false
def findB (K : PySem.W.Frag) (C : Addr) (x : Str) (v : Option Value) : Bool := decide (PySem.W.findIn K (.ref C) x = some v)
def cellB (K : PySem.W.Frag) (C cc : Addr) : Bool := match K.lookup cc with
  | some ⟨_, _, .cell (some v), _⟩ => v == .ref C
  | _ => false
def codeB (P : Program) (K : PySem.W.Frag) (cda : Addr) : Bool := match K.lookup cda with
  | some ⟨_, _, .fields vs, _⟩ => (match (vs : Array Value)[2]? with
    | some (Value.str file _) => (P.main.file : Str) == file
    | _ => false)
  | _ => false
def errB (P : Program) (K : PySem.W.Frag) (C fI cc cda : Addr) (fs : List Str) : Bool :=
  clsB K C && (findB K C "__setattr__" (some (.builtin "object.__setattr__")) && (decide (PySem.W.subIn K (.ref C) (.type "BaseException") = some true) && (decide (PySem.W.typeIn K (.ref C) = some (.type "type")) &&
  (PySem.W.keepIn K (.ref C) && (xfB K C && (codeB P K cda && (cellB K C cc && (decide (PySem.W.mroIn K C (.ref C) = some true) && (decide (PySem.W.nsIn K mainGlobals "super" = some none) &&
  (decide (PySem.W.nsIn K cStatics "thirdparty.any" = some none) && (decide (PySem.W.ks_superIn K C C "__init__" = some (some (.builtin "ValueError.__init__"))) && (decide (PySem.W.subIn K (.ref C) (.type "ValueError") = some true) &&
  (PySem.W.excInitIn K C bmVE "ValueError.__new__" && (!(P.main.scope.names.lookup ("super" : Str)).isSome && (findB K C "__init__" (some (.ref fI)) && (decide (PySem.W.typeIn K (.ref fI) = some (.type "function")) &&
  fs.all fun f => findB K C f none))))))))))))))))

section
variable {P : Program} {w : World} {K : PySem.W.Frag} {mg : Str → Option Value} {base h : Heap} {C fI cc cda : Addr} {fs : List Str}
theorem clsB_ok (q : clsB K C = true) : ∃ nm qn N bs bm sn sub ab col dd k0 k1 k2 k3 k5, K.lookup C = some (excClassObj nm qn C N bs bm true sn sub ab col dd k0 k1 k2 k3 k5 "ValueError.__new__") ∧ PySem.HandSPX.refsVE bm = true := by
  unfold clsB at q
  split at q
  · rename_i dd cd sl ho
    split at q
    · rename_i D bm k0 k1 k2 k3 n k5 hm hs
      simp only [Bool.and_eq_true, beq_iff_eq, Bool.not_eq_true'] at q
      obtain ⟨⟨⟨⟨rfl, rfl⟩, hd⟩, hdel⟩, hr⟩ := q
      obtain ⟨nm, bs, mro, ns, qn, hd', sn, sub, ab, col, del⟩ := cd
      dsimp only at hm hdel hd
      subst hm hdel hd
      obtain ⟨l⟩ := sl
      simp only at hs
      subst hs
      exact ⟨nm, qn, ns, bs, bm, sn, sub, ab, col, dd, k0, k1, k2, k3, k5, ho, hr⟩
    · cases q
  · cases q
/-- what the test tells -/
structure ErrK (P : Program) (K : PySem.W.Frag) (C fI cc cda : Addr) (fs : List Str) : Prop where
  sup : SupC P K C cc cda
  xf : XfC K C
  ini : PySem.W.findIn K (.ref C) "__init__" = some (some (.ref fI))
  tI : PySem.W.typeIn K (.ref fI) = some (.type "function")
  nof : ∀ f ∈ fs, PySem.W.findIn K (.ref C) f = some none
theorem errB_ok (q : errB P K C fI cc cda fs = true) : ErrK P K C fI cc cda fs := by
  unfold errB at q
  obtain ⟨q1, q⟩ := Bool.and_eq_true_iff.mp q
  obtain ⟨q2, q⟩ := Bool.and_eq_true_iff.mp q
  obtain ⟨q3, q⟩ := Bool.and_eq_true_iff.mp q
  obtain ⟨q4, q⟩ := Bool.and_eq_true_iff.mp q
  obtain ⟨q5, q⟩ := Bool.and_eq_true_iff.mp q
  obtain ⟨q6, q⟩ := Bool.and_eq_true_iff.mp q
  obtain ⟨q7, q⟩ := Bool.and_eq_true_iff.mp q
  obtain ⟨q8, q⟩ := Bool.and_eq_true_iff.mp q
  obtain ⟨q9, q⟩ := Bool.and_eq_true_iff.mp q
  obtain ⟨q10, q⟩ := Bool.and_eq_true_iff.mp q
  obtain ⟨q11, q⟩ := Bool.and_eq_true_iff.mp q
  obtain ⟨q12, q⟩ := Bool.and_eq_true_iff.mp q
  obtain ⟨q13, q⟩ := Bool.and_eq_true_iff.mp q
  obtain ⟨q14, q⟩ := Bool.and_eq_true_iff.mp q
  obtain ⟨q15, q⟩ := Bool.and_eq_true_iff.mp q
  obtain ⟨q16, q⟩ := Bool.and_eq_true_iff.mp q
  obtain ⟨q17, q18⟩ := Bool.and_eq_true_iff.mp q
  have O : OexC K C := ⟨clsB_ok q1, of_decide_eq_true q2, of_decide_eq_true q3, of_decide_eq_true q4, q5⟩
  refine ⟨⟨O, ?_, ?_, of_decide_eq_true q9, of_decide_eq_true q10, of_decide_eq_true q11, of_decide_eq_true q12, of_decide_eq_true q13, q14, by simpa using q15⟩, xfB_ok q6, of_decide_eq_true q16, of_decide_eq_true q17, fun f hf => ?_⟩
  · unfold codeB at q7
    split at q7
    · rename_i c d vs sl ho
      split at q7
      · rename_i file tk hv
        exact ⟨c, d, vs, sl, file, tk, ho, hv, q7⟩
      · cases q7
    · cases q7
  · unfold cellB at q8
    split at q8
    · rename_i c d v sl ho
      have e := beq_iff_eq.mp q8
      subst e
      exact ⟨c, d, sl, ho⟩
    · cases q8
  · exact of_decide_eq_true (List.all_eq_true.mp q18 f hf)

variable {x qual f g : Str} {st : Stmt} {oc doc pm ct : Value} {od : Option Addr} {osl : Array (Option Value)}
theorem own_x0 (X : K.In h) (G : h.Ns mainGlobals mg) (Tx : ErrTx st qual []) (a : PySem.W.nsIn K mainGlobals x = some (some (.ref C)))
    (l : K.lookup fI = some ⟨oc, od, .func (PySem.W.fnX "__init__" qual (defArgs st) (defBody st) (defScope st) [("__class__", cc)] .none .none doc pm none (.ref cda) ct), osl⟩) (c : PySem.W.codeIn K (.ref cda) qual = true)
    (b : errB P K C fI cc cda [] = true) : OwnX P w K mg base x [] (spI0 C) C :=
  have E := errB_ok b
  ⟨E.sup.ox, E.xf, PySem.W.mg_of X G a, E.nof, _, _, E.ini, E.tI, err_fn0 E.sup Tx l c, .all fun us hl => Tx.bind _ _ _ _ _ us hl⟩
theorem own_x1 (X : K.In h) (G : h.Ns mainGlobals mg) (Tx : ErrTx st qual [f]) (a : PySem.W.nsIn K mainGlobals x = some (some (.ref C)))
    (l : K.lookup fI = some ⟨oc, od, .func (PySem.W.fnX "__init__" qual (defArgs st) (defBody st) (defScope st) [("__class__", cc)] .none .none doc pm none (.ref cda) ct), osl⟩) (c : PySem.W.codeIn K (.ref cda) qual = true)
    (b : errB P K C fI cc cda [f] = true) : OwnX P w K mg base x [f] (spI1 C f) C :=
  have E := errB_ok b
  ⟨E.sup.ox, E.xf, PySem.W.mg_of X G a, E.nof, _, _, E.ini, E.tI, err_fn1 E.sup Tx (E.nof _ (.head _)) l c, .all fun us hl => Tx.bind _ _ _ _ _ us hl⟩
theorem own_x2 (X : K.In h) (G : h.Ns mainGlobals mg) (Tx : ErrTx st qual [f, g]) (a : PySem.W.nsIn K mainGlobals x = some (some (.ref C)))
    (l : K.lookup fI = some ⟨oc, od, .func (PySem.W.fnX "__init__" qual (defArgs st) (defBody st) (defScope st) [("__class__", cc)] .none .none doc pm none (.ref cda) ct), osl⟩) (c : PySem.W.codeIn K (.ref cda) qual = true)
    (b : errB P K C fI cc cda [f, g] = true) : OwnX P w K mg base x [f, g] (spI2 C f g) C :=
  have E := errB_ok b
  ⟨E.sup.ox, E.xf, PySem.W.mg_of X G a, E.nof, _, _, E.ini, E.tI, err_fn2 E.sup Tx (E.nof _ (.head _)) (E.nof _ (.tail _ (.head _))) l c, .all fun us hl => Tx.bind _ _ _ _ _ us hl⟩
end
end Ls
namespace Ls
open PySem PySem.Spec PyProof.Rows L2

/-! ### defs that may raise -/
/-- a def of the module that keeps a promise, errors and all -/
structure OwnR (P : Program) (w : World) (K : PySem.W.Frag) (mg : Str → Option Value) (base : Heap) (k : Nat) (x : Str) (ps : List Str) (sp : Sp) : Prop where
  ex : ∃ (f : Addr) (fd : FuncData), FnOk P w K mg base (L2.CX P w) k f fd ps sp ∧ mg x = some (.ref f) ∧ PySem.W.keepIn K (.ref f) = true ∧ Binds K fd ps []
/-- a method -/
structure OwnMR (P : Program) (w : World) (K : PySem.W.Frag) (mg : Str → Option Value) (base : Heap) (k : Nat) (C : Addr) (m : Str) (ps : List Str) (sp : Sp) : Prop where
  cl : Cls K C
  ex : ∃ (f : Addr) (fd : FuncData), FnOk P w K mg base (L2.CX P w) k f fd ps sp ∧ Meth K C m f ∧ Binds K fd ps []
/-- a class that is called -/
structure OwnCR (P : Program) (w : World) (K : PySem.W.Frag) (mg : Str → Option Value) (base : Heap) (k : Nat) (C : Addr) (x : Str) (ps : List Str) (sp : Sp) : Prop where
  ex : ∃ (f : Addr) (fd : FuncData), FnOk P w K mg base (L2.CX P w) k f fd ps sp ∧ mg x = some (.ref C) ∧ Mk K C f ∧ Binds K fd ps []
def tMakeS (C : Addr) (sp : Sp) (W : WX) (t : TA) : TE := fun σ H Q => t σ H fun vs H1 => ∀ x dx, H1 x = none → H1 dx = none → dx ≠ x → sp (.ref x :: vs) (upd (upd H1 dx (.own x)) x (.ins C dx [])) (fun v H2 => v = .non ∧ Q (.ref x) H2) (WE W σ)
def tMethR (C : Addr) (m : Str) (sp : Sp) (W : WX) (ta : TE) (t : TA) : TE := fun σ H Q => ta σ H fun x H1 => ∃ a dx fs, x = .ref a ∧ H1 a = some (.ins C dx fs) ∧ fs.lookup m = none ∧ t σ H1 fun vs H2 => sp (x :: vs) H2 Q (WE W σ)
section
variable {X : Cx} {W : WX} {k j : Nat} {x m : Str} {ps : List Str} {sp : Sp} {p pos apos : Pos} {e o : Expr} {es : List Expr} {t : TA} {ta : TE} {C : Addr} {pl : Sem Bool}
theorem own_callR (O : OwnR X.prog X.w X.K X.mg X.base k x ps sp) (hr : Room j X.A) (hkj : k ≤ j) (tk : Takes X W) (ha : PA X (e :: es) t)
    (hg : Gl X x := by rfl) (hdb : (x == ("__debug__" : Str)) = false := by decide) (he : starEach (e :: es) X.env = (false, eval e X.env) :: starEach es X.env := by rfl) (hpl : (backTo pos (starEach es X.env)).any (·.1) = false := by rfl) :
    PE X (.Call (.Name x p) (e :: es) [] pos) (tCallS sp (WE W) t) := by
  obtain ⟨f, fd, F, g, kp, b⟩ := O.ex
  exact pe_callS F (hr.mono hkj) hg g kp b (fun σ => passAt tk σ) ha hdb he hpl
theorem own_callR0 (O : OwnR X.prog X.w X.K X.mg X.base k x ps sp) (hr : Room j X.A) (hkj : k ≤ j) (tk : Takes X W) (hg : Gl X x := by rfl) (hdb : (x == ("__debug__" : Str)) = false := by decide) :
    PE X (.Call (.Name x p) [] [] pos) (tCallS sp (WE W) tNil) := by
  obtain ⟨f, fd, F, g, kp, b⟩ := O.ex
  refine ⟨fun pins s σ H Q I h => ?_⟩
  refine wpAny_Call_Name_kw (ld_glob I hg g ?_ hdb)
  exact PySem.W.callWith_K0 I.kIn kp (run_fnS (us := []) F (hr.mono hkj) b (passAt tk σ) I .nil h)
theorem own_methR (O : OwnMR X.prog X.w X.K X.mg X.base k C m ps sp) (hr : Room j X.A) (hkj : k ≤ j) (tk : Takes X W) (ho : PE X o ta) (ha : PA X (e :: es) t)
    (hst : starEach (e :: es) X.env = (false, eval e X.env) :: starEach es X.env := by rfl) (hpl : (backTo pos (starEach es X.env)).any (·.1) = false := by rfl)
    (ht : eval (.Call (.Attribute o m apos) (e :: es) [] pos) X.env = (do
      let ov ← eval o X.env
      standAt apos.atName
      let (f, first) ← holding [ov] (getMethod ov m pl)
      callWith pos f first (backTo pos (starEach (e :: es) X.env)) (backToKw pos (keywordEach [] X.env))) := by rfl) :
    PE X (.Call (.Attribute o m apos) (e :: es) [] pos) (tMethR C m sp W ta t) := by
  obtain ⟨f, fd, F, me, b⟩ := O.ex
  refine ⟨fun pins s σ H Q I h => ?_⟩
  refine PySem.W.methodCall_KW (pl := pl) (thn (ho.run pins s σ H _ I h) fun u s1 hh => ?_) ht
  obtain ⟨y, H1, I1, ry, a, dx, fs, ey, ea, l, q⟩ := hh
  subst ey
  obtain rfl : u = Value.ref a := ry
  refine getmeth_ok I1 ea O.cl me l ?_
  refine PySem.W.callWith_K (first := [.ref a]) (h₀ := X.base) I.ok.mod.kin me.kp (thn (ha.run pos pins s1 σ H1 _ I1 q) fun us s2 hv => ?_) hst hpl
  obtain ⟨vs, H2, I2, r, q2⟩ := hv
  exact ⟨I2.kIn, run_fnS (us := .ref a :: us) (vs := .ref a :: vs) F (hr.mono hkj) b (passAt tk σ) I2 (.cons rfl r) q2⟩
theorem own_methR0 (O : OwnMR X.prog X.w X.K X.mg X.base k C m ps sp) (hr : Room j X.A) (hkj : k ≤ j) (tk : Takes X W) (ho : PE X o ta)
    (ht : eval (.Call (.Attribute o m apos) [] [] pos) X.env = (do
      let ov ← eval o X.env
      standAt apos.atName
      let (f, first) ← holding [ov] (getMethod ov m pl)
      callWith pos f first (backTo pos (starEach [] X.env)) (backToKw pos (keywordEach [] X.env))) := by rfl) :
    PE X (.Call (.Attribute o m apos) [] [] pos) (tMethR C m sp W ta tNil) := by
  obtain ⟨f, fd, F, me, b⟩ := O.ex
  refine ⟨fun pins s σ H Q I h => ?_⟩
  refine PySem.W.methodCall_KW (pl := pl) (thn (ho.run pins s σ H _ I h) fun u s1 hh => ?_) ht
  obtain ⟨y, H1, I1, ry, a, dx, fs, ey, ea, l, q⟩ := hh
  subst ey
  obtain rfl : u = Value.ref a := ry
  refine getmeth_ok I1 ea O.cl me l ?_
  exact PySem.W.callWith_K0 (first := [.ref a]) I1.kIn me.kp (run_fnS (us := [.ref a]) (vs := [.ref a]) F (hr.mono hkj) b (passAt tk σ) I1 (.cons rfl .nil) q)
theorem own_makeR (O : OwnCR X.prog X.w X.K X.mg X.base k C x ps sp) (hr : Room j X.A) (hkj : k + 1 ≤ j) (tk : Takes X W) (ha : PA X (e :: es) t)
    (hg : Gl X x := by rfl) (hdb : (x == ("__debug__" : Str)) = false := by decide) (he : starEach (e :: es) X.env = (false, eval e X.env) :: starEach es X.env := by rfl) (hpl : (backTo pos (starEach es X.env)).any (·.1) = false := by rfl) :
    PE X (.Call (.Name x p) (e :: es) [] pos) (tMakeS C sp W t) := by
  obtain ⟨f, fd, F, g, M, b⟩ := O.ex
  have hr2 : Room (k + 1) X.A := hr.mono hkj
  refine ⟨fun pins s σ H Q I h => ?_⟩
  refine wpAny_Call_Name_kw (ld_glob I hg g ?_ hdb)
  refine PySem.W.callWith_K (h₀ := X.base) I.ok.mod.kin M.kp (thn (ha.run pos pins s σ H _ I h) fun us s1 hh => ?_) he hpl
  obtain ⟨vs, H1, I1, r, q⟩ := hh
  refine ⟨I1.kIn, ?_⟩
  show wpAny _ _ (call (.ref C) us) _ _ _
  have hq := q (s1.heap.objs.size + 1) s1.heap.objs.size (I1.hok.fresh (Nat.le_succ _)) (I1.hok.fresh (Nat.le_refl _)) (Nat.ne_of_lt (Nat.lt_succ_self _))
  have I2 := Inv.made (C := C) I1
  have r2 : Vals (V.ref (s1.heap.objs.size + 1) :: vs) (Value.ref (s1.heap.objs.size + 1) :: us) := .cons rfl r
  have hl : (Value.ref (s1.heap.objs.size + 1) :: us ++ []).length = ps.length := by
    rw [List.append_nil, ← r2.length]
    exact F.len _ _ _ _ hq
  have hb := b _ (Value.ref (s1.heap.objs.size + 1) :: us) I2.kIn hl
  rw [List.append_nil] at hb
  refine wpAny_call (make_map (f := f) I1.kIn M.makes M.init (beq_iff_eq.mp M.fn) (codeAny_mono (F.run _ X.stack _ _ ⟨Value.ref (s1.heap.objs.size + 1) :: us, []⟩ (Value.ref (s1.heap.objs.size + 1) :: us) _ _ (WE W σ) (hr2.make C us [])
    (I2.env0.make C us []) hb r2 hq) fun r s' hq' => ?_))
  cases r with
  | error er => exact passAt tk σ pins _ _ er s' I2 hq'
  | ok fl =>
    cases fl with
    | ret u =>
      obtain ⟨v, H', I3, rv, ev, q3⟩ := I2.after hq'
      subst ev
      exact ⟨rv, ⟨V.ref (s1.heap.objs.size + 1), H', I3, rfl, q3⟩⟩
    | next => exact False.elim hq'
    | brk => exact False.elim hq'
    | cont => exact False.elim hq'
/-- raise x(..) -/
def tRaise (W : WX) (t : L2.St → Hp → XK → Prop) : TS := fun _ σ H => t σ H fun cls d H' => W cls d σ H'
theorem ps_err {t : L2.St → Hp → XK → Prop} (hc : X.calm = true) (tk : Takes X W) (he : PMk X e t) : PS X (.Raise (some e) none pos) (tRaise W t) := ps_raise hc tk he
end
/-- what a def's body takes -/
theorem takes_def {P : Program} {w : World} {K : PySem.W.Frag} {mg : Str → Option Value} {base : Heap} {N : List Str} {qual : Str} {scope : Scope} {f : Addr} {cd : Value} {A : Around} {outer : List Env} {s : Shared} {H : Hp} {E : XK} :
    Takes (cxOf (L2.CX P w) P w K mg base N qual scope f cd A outer s H E) (fun cls d _ H => E cls d H) := takes_of rfl rfl rfl rfl
theorem own_def {P : Program} {w : World} {K : PySem.W.Frag} {mg : Str → Option Value} {base : Heap} {N : List Str} {qual : Str} {scope : Scope} {f : Addr} {cd : Value} {A : Around} {outer : List Env} {s : Shared} {H : Hp} {E : XK} :
    PassesOwn (model P w) (A.deeper (envOfC qual scope s.heap.objs.size f cd)) (envOfC qual scope s.heap.objs.size f cd) (cxOf (L2.CX P w) P w K mg base N qual scope f cd A outer s H E).xe := passes_of (X := cxOf (L2.CX P w) P w K mg base N qual scope f cd A outer s H E) rfl
end Ls
namespace AL
open PySem PySem.Spec PyProof.Rows L2 Ls
section
variable {e : Ec} {γ γ' : Ga} {s s' : AS} {ta tb tc te tv : TE} {t u : TT} {tA tB' : TA} {Q Q' : Dat → AS → Prop} {Qb : Bool → AS → Prop} {Qs : List Dat → AS → Prop} {D : AD} {ts us : TS}
/-! ### tests, choices -/
theorem g_test (h : GE e te γ s fun d s1 => ∃ b, d = .bl b ∧ Qb b s1) : GT e (tTest te) γ s Qb := fun F Hf H σ R S X Qc L => h F Hf H σ R S X _ fun x a Hf1 H1 s1 m1 R1 a1 ⟨b, eb, q⟩ => by
  subst eb
  cases a1
  exact ⟨b, rfl, L _ Hf1 H1 s1 m1 R1 q⟩
theorem g_tB (h : GE e te γ s fun d s1 => ∃ b, d = .bl b ∧ Qb b s1) : GT e (tB te) γ s Qb := fun F Hf H σ R S X Qc L => h F Hf H σ R S X _ fun x a Hf1 H1 s1 m1 R1 a1 ⟨b, eb, q⟩ => by
  subst eb
  cases a1
  exact ⟨b, rfl, L _ Hf1 H1 s1 m1 R1 q⟩
theorem g_tand (h : GT e t γ s fun b s1 => (b = true → GT e u γ s1 Qb) ∧ (b = false → Qb false s1)) : GT e (tAnd t u) γ s Qb := fun F Hf H σ R S X Qc L => h F Hf H σ R S X _ fun b Hf1 H1 s1 m1 R1 ⟨q1, q2⟩ => by
  cases b with
  | true => exact q1 rfl F Hf1 H1 σ R1 (S.same m1) (X.same m1) _ (L.same m1)
  | false => exact L _ Hf1 H1 s1 m1 R1 (q2 rfl)
theorem g_tor (h : GT e t γ s fun b s1 => (b = true → Qb true s1) ∧ (b = false → GT e u γ s1 Qb)) : GT e (tOr t u) γ s Qb := fun F Hf H σ R S X Qc L => h F Hf H σ R S X _ fun b Hf1 H1 s1 m1 R1 ⟨q1, q2⟩ => by
  cases b with
  | true => exact L _ Hf1 H1 s1 m1 R1 (q1 rfl)
  | false => exact q2 rfl F Hf1 H1 σ R1 (S.same m1) (X.same m1) _ (L.same m1)
theorem g_tnot (h : GT e t γ s fun b s1 => Qb (!b) s1) : GT e (tNot t) γ s Qb := fun F Hf H σ R S X Qc L => h F Hf H σ R S X _ fun b Hf1 H1 s1 m1 R1 q => L _ Hf1 H1 s1 m1 R1 q
theorem g_and (h : GE e ta γ s fun d s1 => ∃ b, d = .bl b ∧ (b = true → GE e tb γ s1 Q) ∧ (b = false → Q (.bl false) s1)) : GE e (tAndV ta tb) γ s Q := fun F Hf H σ R S X Qc L => h F Hf H σ R S X _ fun x a Hf1 H1 s1 m1 R1 a1 ⟨b, eb, q1, q2⟩ => by
  subst eb
  cases a1
  refine ⟨b, rfl, ?_⟩
  cases b with
  | true => exact q1 rfl F Hf1 H1 σ R1 (S.same m1) (X.same m1) _ (L.same m1)
  | false => exact L _ _ Hf1 H1 s1 m1 R1 (.bl _) (q2 rfl)
theorem g_or (h : GE e ta γ s fun d s1 => ∃ b, d = .bl b ∧ (b = true → Q (.bl true) s1) ∧ (b = false → GE e tb γ s1 Q)) : GE e (tOrV ta tb) γ s Q := fun F Hf H σ R S X Qc L => h F Hf H σ R S X _ fun x a Hf1 H1 s1 m1 R1 a1 ⟨b, eb, q1, q2⟩ => by
  subst eb
  cases a1
  refine ⟨b, rfl, ?_⟩
  cases b with
  | true => exact L _ _ Hf1 H1 s1 m1 R1 (.bl _) (q1 rfl)
  | false => exact q2 rfl F Hf1 H1 σ R1 (S.same m1) (X.same m1) _ (L.same m1)
theorem g_not (h : GE e ta γ s fun d s1 => ∃ b, d = .bl b ∧ Q (.bl (!b)) s1) : GE e (tNotV ta) γ s Q := fun F Hf H σ R S X Qc L => h F Hf H σ R S X _ fun x a Hf1 H1 s1 m1 R1 a1 ⟨b, eb, q1⟩ => by
  subst eb
  cases a1
  exact ⟨b, rfl, L _ _ Hf1 H1 s1 m1 R1 (.bl _) q1⟩
theorem g_ifE (h : GT e t γ s fun b s1 => (b = true → GE e ta γ s1 Q) ∧ (b = false → GE e tb γ s1 Q)) : GE e (tIf t ta tb) γ s Q := fun F Hf H σ R S X Qc L => h F Hf H σ R S X _ fun b Hf1 H1 s1 m1 R1 ⟨q1, q2⟩ => by
  cases b with
  | true => exact q1 rfl F Hf1 H1 σ R1 (S.same m1) (X.same m1) _ (L.same m1)
  | false => exact q2 rfl F Hf1 H1 σ R1 (S.same m1) (X.same m1) _ (L.same m1)
/-- a op b op c -/
theorem g_chain {r r' : R2} {A A' : Dat → Dat → AS → (Dat → AS → Prop) → Prop} (hr : ROk e.K r A) (hr' : ROk e.K r' A') (h : GE e ta γ s fun a s1 => GE e tb γ s1 fun b s2 => A a b s2 fun z s3 => ∃ k, z = .bl k ∧ (k = true → GE e tc γ s3 fun c s4 => A' b c s4 Q) ∧ (k = false → Q (.bl false) s3)) :
    GE e (tChain r r' ta tb tc) γ s Q := fun F Hf H σ R S X Qc L =>
  h F Hf H σ R S X _ fun x a Hf1 H1 s1 m1 R1 a1 h1 => h1 F Hf1 H1 σ R1 (S.same m1) (X.same m1) _ fun y b Hf2 H2 s2 m2 R2 a2 h2 => hr F Hf2 H2 s2 x y a b _ _ R2 (a1.same m2) a2 (fun z d Hf3 H3 s3 m3 R3 a3 ⟨k, ek, q1, q2⟩ => by
    subst ek
    cases a3
    refine ⟨k, rfl, ?_⟩
    have m := (m1.trans m2).trans m3
    cases k with
    | true => exact q1 rfl F Hf3 H3 σ R3 (S.same m) (X.same m) _ fun w c Hf4 H4 s4 m4 R4 a4 h4 => hr' F Hf4 H4 s4 y w b c _ _ R4 (a2.same (m3.trans m4)) a4 (L.same (m.trans m4)) h4
    | false => exact L _ _ Hf3 H3 s3 m R3 (.bl _) (q2 rfl)) h2
/-! ### lists of arguments, displays -/
theorem g_nil (q : Qs [] s) : GA e tNil γ s Qs := fun F Hf H σ R S X Qc L => L _ _ Hf H s (Same.refl _) R .nil q
theorem g_cons (h : GE e ta γ s fun d s1 => GA e tA γ s1 fun ds s2 => Qs (d :: ds) s2) : GA e (tCons ta tA) γ s Qs := fun F Hf H σ R S X Qc L =>
  h F Hf H σ R S X _ fun x a Hf1 H1 s1 m1 R1 a1 h1 => h1 F Hf1 H1 σ R1 (S.same m1) (X.same m1) _ fun y b Hf2 H2 s2 m2 R2 a2 h2 => L _ _ Hf2 H2 s2 (m1.trans m2) R2 (.cons (a1.same m2) a2) h2
theorem g_tup (h : GA e tA γ s fun ds s1 => ds.length ≤ sizeLine ∧ Q (.tup ds) s1) : GE e (tTup tA) γ s Q := fun F Hf H σ R S X Qc L =>
  h F Hf H σ R S X _ fun xs ds Hf1 H1 s1 m1 R1 a1 ⟨hl, q⟩ => ⟨by rw [a1.len]; exact hl, fun p hp => by
    obtain ⟨R2, m2⟩ := R1.grow hp (.tup xs)
    exact L _ _ _ _ s1 (m1.trans m2) R2 (.tup upd_same (a1.same m2)) q⟩
/-- a list that nobody changes -/
theorem g_lst (h : GA e tA γ s fun ds s1 => ds.length ≤ sizeLine ∧ Q (.lst ds) s1) : GE e (tLst tA) γ s Q := fun F Hf H σ R S X Qc L =>
  h F Hf H σ R S X _ fun xs ds Hf1 H1 s1 m1 R1 a1 ⟨hl, q⟩ => ⟨by rw [a1.len]; exact hl, fun p hp => by
    obtain ⟨R2, m2⟩ := R1.grow hp (.lst xs)
    exact L _ _ _ _ s1 (m1.trans m2) R2 (.lst upd_same (a1.same m2)) q⟩
/-- a list of one's own -/
theorem g_lstM (h : GA e tA γ s fun ds s1 => ds.length ≤ sizeLine ∧ ∀ p, s1 p = none → Q (.ref p) (supd s1 p (.raw (.lst ds)))) : GE e (tLst tA) γ s Q := fun F Hf H σ R S X Qc L =>
  h F Hf H σ R S X _ fun xs ds Hf1 H1 s1 m1 R1 a1 ⟨hl, q⟩ => ⟨by rw [a1.len]; exact hl, fun p hp => L _ _ Hf1 _ _ m1 (R1.new hp (w := .lst ds) ⟨xs, rfl, a1⟩) (.ref p) (q p (R1.free hp).1)⟩
theorem g_dnewK (q : ∀ p, s p = none → Q (.ref p) (supd s p (.raw (.dK [])))) : GE e tDNewK γ s Q := fun F Hf H σ R S X Qc L => fun p hp => L _ _ Hf _ _ (Same.refl _) (R.new hp (w := .dK []) ⟨[], rfl, rfl, .nil⟩) (.ref p) (q p (R.free hp).1)
theorem g_dnewT (q : ∀ p, s p = none → Q (.ref p) (supd s p (.raw (.dT [])))) : GE e tDNewT γ s Q := fun F Hf H σ R S X Qc L => fun p hp => L _ _ Hf _ _ (Same.refl _) (R.new hp (w := .dT []) ⟨[], rfl, rfl, .nil⟩) (.ref p) (q p (R.free hp).1)
/-! ### promises over data -/
abbrev ASp := List Dat → AS → (Dat → AS → Prop) → (Value → List (Str × Dat) → AS → Prop) → Prop
def noX : Value → List (Str × Dat) → AS → Prop := fun _ _ _ => False
def conc (K : PySem.W.Frag) (A : ASp) : Sp := fun vs H Q E => ∃ ds F Hf s Qa Ea, Rep K F Hf H s ∧ Ats K Hf vs ds ∧ A ds s Qa Ea ∧ LQ K F Hf Qa Q ∧ ∀ cls d fs Hf' H' s', Same Hf Hf' → Rep K F Hf' H' s' → ErrAt K Hf' d fs → Ea cls fs s' → E cls d H'
theorem g_call {A : ASp} (h : GA e tA γ s fun ds s1 => A ds s1 Q noX) : GE e (tCall (conc e.K A) [] E0 tA) γ s Q := fun F Hf H σ R S X Qc L =>
  h F Hf H σ R S X _ fun xs ds Hf1 H1 s1 m1 R1 a1 q => ⟨ds, F, Hf1, s1, Q, noX, R1, by rw [List.append_nil]; exact a1, q, L.same m1, fun _ _ _ _ _ _ _ _ _ z => z.elim⟩
theorem g_callS {A : ASp} (h : GA e tA γ s fun ds s1 => A ds s1 Q fun cls fs s2 => e.Ax cls fs γ s2) : GE e (tCallS (conc e.K A) (WE e.W) tA) γ s Q := fun F Hf H σ R S X Qc L =>
  h F Hf H σ R S X _ fun xs ds Hf1 H1 s1 m1 R1 a1 q => ⟨ds, F, Hf1, s1, Q, _, R1, a1, q, L.same m1, fun cls d fs Hf2 H2 s2 m2 R2 er z => X cls d fs γ s2 σ Hf2 H2 (m1.trans m2) R2 (S.same (m1.trans m2)) er z⟩
/-- an instance of the class at C with these attributes, for good or of one's own -/
def InsF (s : AS) (a : Dat) (C : Addr) (fs : List (Str × Dat)) : Prop := a = .ins C fs ∨ ∃ o dx, a = .ref o ∧ s o = some (.raw (.ins C dx fs))
/-- an instance that has no attribute m of its own -/
def InsD (s : AS) (a : Dat) (C : Addr) (m : Str) : Prop := ∃ fs, InsF s a C fs ∧ m ∉ fs.map (·.1)
theorem lookup_none {β : Type} {fs : List (Str × β)} {m : Str} (h : m ∉ fs.map (·.1)) : fs.lookup m = none := by
  induction fs with
  | nil => rfl
  | cons p r ih =>
    rw [List.map_cons, List.mem_cons, not_or] at h
    obtain ⟨k, v⟩ := p
    rw [List.lookup_cons, beq_false_of_ne h.1]
    exact ih h.2
theorem InsF.get {K : PySem.W.Frag} {F : AS} {Hf H : Hp} {v : V} {a : Dat} {C : Addr} {fs : List (Str × Dat)} (h : InsF s a C fs) (R : Rep K F Hf H s) (av : At K Hf v a) : ∃ o dx gs, v = .ref o ∧ H o = some (.ins C dx gs) ∧ gs.map (·.1) = fs.map (·.1) ∧ Ats K Hf (gs.map (·.2)) (fs.map (·.2)) := by
  rcases h with rfl | ⟨o, dx, rfl, h⟩
  · cases av with
    | ins h1 h2 h3 => exact ⟨_, _, _, rfl, R.sub _ _ h1, h2, h3⟩
  · cases av
    obtain ⟨ho, h1, gs, rfl, h2, h3⟩ := R.read h
    exact ⟨o, dx, gs, rfl, h1, h2, h3⟩
theorem InsD.get {K : PySem.W.Frag} {F : AS} {Hf H : Hp} {v : V} {a : Dat} {C : Addr} {m : Str} (h : InsD s a C m) (R : Rep K F Hf H s) (av : At K Hf v a) : ∃ o dx fs, v = .ref o ∧ H o = some (.ins C dx fs) ∧ fs.lookup m = none := by
  obtain ⟨fs, h, n⟩ := h
  obtain ⟨o, dx, gs, e, h1, h2, _⟩ := h.get R av
  exact ⟨o, dx, gs, e, h1, lookup_none (by rw [h2]; exact n)⟩
theorem g_meth {A : ASp} {C : Addr} {m : Str} (h : GE e ta γ s fun a s1 => InsD s1 a C m ∧ GA e tA γ s1 fun ds s2 => A (a :: ds) s2 Q noX) : GE e (tMeth C m (conc e.K A) [] E0 ta tA) γ s Q := fun F Hf H σ R S X Qc L =>
  h F Hf H σ R S X _ fun x a Hf1 H1 s1 m1 R1 a1 ⟨hi, h2⟩ => by
    obtain ⟨o, dx, fs, rfl, h3, h4⟩ := hi.get R1 a1
    refine ⟨o, dx, fs, rfl, h3, h4, h2 F Hf1 H1 σ R1 (S.same m1) (X.same m1) _ fun ys ds Hf2 H2 s2 m2 R2 a2 q => ?_⟩
    exact ⟨a :: ds, F, Hf2, s2, Q, noX, R2, by rw [List.append_nil]; exact .cons (a1.same m2) a2, q, L.same (m1.trans m2), fun _ _ _ _ _ _ _ _ _ z => z.elim⟩
theorem g_methR {A : ASp} {C : Addr} {m : Str} (h : GE e ta γ s fun a s1 => InsD s1 a C m ∧ GA e tA γ s1 fun ds s2 => A (a :: ds) s2 Q fun cls fs s3 => e.Ax cls fs γ s3) : GE e (Ls.tMethR C m (conc e.K A) e.W ta tA) γ s Q := fun F Hf H σ R S X Qc L =>
  h F Hf H σ R S X _ fun x a Hf1 H1 s1 m1 R1 a1 ⟨hi, h2⟩ => by
    obtain ⟨o, dx, fs, rfl, h3, h4⟩ := hi.get R1 a1
    refine ⟨o, dx, fs, rfl, h3, h4, h2 F Hf1 H1 σ R1 (S.same m1) (X.same m1) _ fun ys ds Hf2 H2 s2 m2 R2 a2 q => ?_⟩
    exact ⟨a :: ds, F, Hf2, s2, Q, _, R2, .cons (a1.same m2) a2, q, L.same (m1.trans m2), fun cls d fs Hf3 H3 s3 m3 R3 er z => X cls d fs γ s3 σ Hf3 H3 ((m1.trans m2).trans m3) R3 (S.same ((m1.trans m2).trans m3)) er z⟩
theorem new2 {K : PySem.W.Frag} {F : AS} {Hf H : Hp} {x dx C : Addr} (R : Rep K F Hf H s) (hx : H x = none) (hd : H dx = none) (n : dx ≠ x) : Rep K F Hf (upd (upd H dx (.own x)) x (.ins C dx [])) (supd (supd s dx (.raw (.own x))) x (.raw (.ins C dx []))) ∧ s x = none ∧ s dx = none := by
  have R1 := R.new hd (w := .own x) rfl
  have hx1 : upd H dx (.own x) x = none := by rw [upd_ne (Ne.symm n)]; exact hx
  exact ⟨R1.new hx1 (w := .ins C dx []) ⟨[], rfl, rfl, .nil⟩, (R.free hx).1, (R.free hd).1⟩
theorem g_make {A : ASp} {C : Addr} (h : GA e tA γ s fun ds s1 => ∀ x dx, s1 x = none → s1 dx = none → dx ≠ x → A (.ref x :: ds) (supd (supd s1 dx (.raw (.own x))) x (.raw (.ins C dx []))) (fun d s2 => d = .non ∧ Q (.ref x) s2) noX) : GE e (tMake C (conc e.K A) [] E0 tA) γ s Q := fun F Hf H σ R S X Qc L =>
  h F Hf H σ R S X _ fun xs ds Hf1 H1 s1 m1 R1 a1 q => fun x dx hx hd n => by
    obtain ⟨R2, sx, sd⟩ := new2 (C := C) R1 hx hd n
    refine ⟨.ref x :: ds, F, Hf1, _, _, noX, R2, by rw [List.append_nil]; exact .cons (.ref x) a1, q x dx sx sd n, fun v d Hf3 H3 s3 m3 R3 a3 ⟨ed, q3⟩ => ?_, fun _ _ _ _ _ _ _ _ _ z => z.elim⟩
    subst ed
    cases a3
    exact ⟨rfl, L _ _ Hf3 H3 s3 (m1.trans m3) R3 (.ref x) q3⟩
theorem g_makeS {A : ASp} {C : Addr} (h : GA e tA γ s fun ds s1 => ∀ x dx, s1 x = none → s1 dx = none → dx ≠ x → A (.ref x :: ds) (supd (supd s1 dx (.raw (.own x))) x (.raw (.ins C dx []))) (fun d s2 => d = .non ∧ Q (.ref x) s2) fun cls fs s3 => e.Ax cls fs γ s3) : GE e (tMakeS C (conc e.K A) e.W tA) γ s Q := fun F Hf H σ R S X Qc L =>
  h F Hf H σ R S X _ fun xs ds Hf1 H1 s1 m1 R1 a1 q => fun x dx hx hd n => by
    obtain ⟨R2, sx, sd⟩ := new2 (C := C) R1 hx hd n
    refine ⟨.ref x :: ds, F, Hf1, _, _, _, R2, .cons (.ref x) a1, q x dx sx sd n, fun v d Hf3 H3 s3 m3 R3 a3 ⟨ed, q3⟩ => ?_, fun cls d fs Hf3 H3 s3 m3 R3 er z => X cls d fs γ s3 σ Hf3 H3 (m1.trans m3) R3 (S.same (m1.trans m3)) er z⟩
    subst ed
    cases a3
    exact ⟨rfl, L _ _ Hf3 H3 s3 (m1.trans m3) R3 (.ref x) q3⟩
/-- a call whose promise is told of the heap -/
def OldC (K : PySem.W.Frag) (sp : Sp) (ds : List Dat) (s : AS) (Q : Dat → AS → Prop) : Prop := ∀ F Hf H vs Qc, Rep K F Hf H s → Ats K Hf vs ds → LQ K F Hf Q Qc → sp vs H Qc E0
theorem g_callO {sp : Sp} (h : GA e tA γ s fun ds s1 => OldC e.K sp ds s1 Q) : GE e (tCall sp [] E0 tA) γ s Q := fun F Hf H σ R S X Qc L =>
  h F Hf H σ R S X _ fun xs ds Hf1 H1 s1 m1 R1 a1 q => by
    show sp (xs ++ []) H1 Qc E0
    rw [List.append_nil]
    exact q F Hf1 H1 xs Qc R1 a1 (L.same m1)
/-! ### attributes -/
theorem lookup_at {K : PySem.W.Frag} {Hf : Hp} {f : Str} {d : Dat} : ∀ {fs : List (Str × Dat)} {gs : List (Str × V)}, gs.map (·.1) = fs.map (·.1) → Ats K Hf (gs.map (·.2)) (fs.map (·.2)) → fs.lookup f = some d → ∃ v, gs.lookup f = some v ∧ At K Hf v d
  | [], _, _, _, h => by cases h
  | (k, d0) :: r, [], e, _, _ => by cases e
  | (k, d0) :: r, (k2, v0) :: g, e, a, h => by
    rw [List.map_cons, List.map_cons, List.cons.injEq] at e
    obtain ⟨e1, e2⟩ := e
    cases a with
    | cons a1 a2 =>
      rw [List.lookup_cons] at h ⊢
      dsimp only at e1
      rw [e1]
      cases z : f == k with
      | true =>
        rw [z] at h
        cases h
        exact ⟨v0, rfl, a1⟩
      | false =>
        rw [z] at h
        exact lookup_at e2 a2 h
theorem g_fld {f : Str} (h : GE e ta γ s fun a s1 => ∃ C fs d, InsF s1 a C fs ∧ Cls e.K C ∧ NoAttr e.K C f ∧ fs.lookup f = some d ∧ Q d s1) : GE e (tFld e.K ta f) γ s Q := fun F Hf H σ R S X Qc L =>
  h F Hf H σ R S X _ fun x a Hf1 H1 s1 m1 R1 a1 ⟨C, fs, d, hi, c, n, l, q⟩ => by
    obtain ⟨o, dx, gs, rfl, h3, h4, h5⟩ := hi.get R1 a1
    obtain ⟨v, h6, h7⟩ := lookup_at h4 h5 l
    exact ⟨o, C, dx, gs, v, rfl, h3, c, n, h6, L _ _ Hf1 H1 s1 m1 R1 h7 q⟩
end
end AL
namespace AL
open PySem PySem.Spec PyProof.Rows L2 Ls
/-! ### statements -/
section
variable {e : Ec} {γ γ' : Ga} {s s' : AS} {ta tb tc te tv tl tk : TE} {t u : TT} {tA tB' : TA} {Q Q' : Dat → AS → Prop} {Qb : Bool → AS → Prop} {Qs : List Dat → AS → Prop} {D : AD} {ts us : TS} {wi : TI} {g : TG}
theorem g_seq (h : GS e ts γ s { D with nx := fun γ' s' => GS e us γ' s' D }) : GS e (tSeq ts us) γ s D := fun F Hf H σ R S X Dc L =>
  h F Hf H σ R S X { Dc with nx := us Dc } ⟨fun σ' γ' Hf' H' s' m R' S' q => q F Hf' H' σ' R' S' (X.same m) Dc (L.same m), L.rt, L.bk, L.ct⟩
theorem g_next (h : D.nx γ s) : GS e tNext γ s D := fun F Hf H σ R S X Dc L => L.nx σ γ Hf H s (Same.refl _) R S h
theorem g_break (h : D.bk γ s) : GS e tBreak γ s D := fun F Hf H σ R S X Dc L => L.bk σ γ Hf H s (Same.refl _) R S h
theorem g_cont (h : D.ct γ s) : GS e tCont γ s D := fun F Hf H σ R S X Dc L => L.ct σ γ Hf H s (Same.refl _) R S h
theorem g_ret (h : GE e te γ s D.rt) : GS e (tRet te) γ s D := fun F Hf H σ R S X Dc L => h F Hf H σ R S X Dc.rt L.rt
theorem g_retN (h : D.rt .non s) : GS e tRetN γ s D := fun F Hf H σ R S X Dc L => L.rt _ _ Hf H s (Same.refl _) R .non h
theorem g_drop (h : GE e te γ s fun _ s1 => D.nx γ s1) : GS e (tDrop te) γ s D := fun F Hf H σ R S X Dc L => h F Hf H σ R S X _ fun v d Hf' H' s' m R' a q => L.nx σ γ Hf' H' s' m R' (S.same m) q
theorem g_if (h : GT e t γ s fun b s1 => (b = true → GS e ts γ s1 D) ∧ (b = false → GS e us γ s1 D)) : GS e (tIfS t ts us) γ s D := fun F Hf H σ R S X Dc L =>
  h F Hf H σ R S X _ fun b Hf1 H1 s1 m1 R1 ⟨q1, q2⟩ => by
    cases b with
    | true => exact q1 rfl F Hf1 H1 σ R1 (S.same m1) (X.same m1) Dc (L.same m1)
    | false => exact q2 rfl F Hf1 H1 σ R1 (S.same m1) (X.same m1) Dc (L.same m1)
theorem g_set {i : Nat} (h : GE e te γ s fun d s1 => D.nx (γ.set i (some d)) s1) : GS e (tAsg te (gName i)) γ s D := fun F Hf H σ R S X Dc L =>
  h F Hf H σ R S X _ fun v d Hf1 H1 s1 m1 R1 a1 q => L.nx (σ.set i (some v)) _ Hf1 H1 s1 m1 R1 ((S.same m1).set a1 i) q
theorem g_par {i j : Nat} (h : GA e tA γ s fun ds s1 => ∃ a b, ds = [a, b] ∧ D.nx ((γ.set i (some a)).set j (some b)) s1) : GS e (tPar i j tA) γ s D := fun F Hf H σ R S X Dc L =>
  h F Hf H σ R S X _ fun vs ds Hf1 H1 s1 m1 R1 a1 ⟨a, b, ed, q⟩ => by
    subst ed
    cases a1 with
    | cons x1 r1 =>
      cases r1 with
      | cons x2 r2 =>
        cases r2
        exact ⟨_, _, rfl, L.nx _ _ Hf1 H1 s1 m1 R1 (((S.same m1).set x1 i).set x2 j) q⟩
theorem g_cut (Mid : Ga → AS → Prop) (h : GS e ts γ s { D with nx := Mid }) (k : ∀ γ' s', Mid γ' s' → GS e us γ' s' D) : GS e (tSeq ts us) γ s D :=
  g_seq fun F Hf H σ R S X Dc L => h F Hf H σ R S X Dc ⟨fun σ' γ' Hf' H' s' m R' S' q => L.nx σ' γ' Hf' H' s' m R' S' (k γ' s' q), L.rt, L.bk, L.ct⟩
theorem g_dead {P : Prop} (h : False) : GS e ts γ s D := h.elim
/-! ### targets -/
def WOk (vs : Option (List Nat)) (σ σ' : L2.St) : Prop := match vs with | none => True | some l => L2.wipe σ' l = L2.wipe σ l
def GG (e : Ec) (vs : Option (List Nat)) (g : TG) (d : Dat) (γ : Ga) (s : AS) (Q : Ga → AS → Prop) : Prop := ∀ F Hf H σ x, Rep e.K F Hf H s → Slots e.K Hf σ γ → LiftX e F Hf → At e.K Hf x d → ∀ Qc : L2.St → Hp → Prop,
  (∀ σ' γ' Hf' H' s', Same Hf Hf' → Rep e.K F Hf' H' s' → Slots e.K Hf' σ' γ' → WOk vs σ σ' → Q γ' s' → Qc σ' H') → g x σ H Qc
def GGs (e : Ec) (vs : Option (List Nat)) (g : TGs) (ds : List Dat) (γ : Ga) (s : AS) (Q : Ga → AS → Prop) : Prop := ∀ F Hf H σ x, Rep e.K F Hf H s → Slots e.K Hf σ γ → LiftX e F Hf → Ats e.K Hf x ds → ∀ Qc : L2.St → Hp → Prop,
  (∀ σ' γ' Hf' H' s', Same Hf Hf' → Rep e.K F Hf' H' s' → Slots e.K Hf' σ' γ' → WOk vs σ σ' → Q γ' s' → Qc σ' H') → g x σ H Qc
theorem set_set_comm {α : Type} {i j : Nat} {a b : α} (h : i ≠ j) (l : List α) : (l.set i a).set j b = (l.set j b).set i a := (List.set_comm a b h)
theorem wipe_set {i : Nat} {x : Option V} : ∀ {vs : List Nat} {σ : L2.St}, i ∈ vs → L2.wipe (σ.set i x) vs = L2.wipe σ vs
  | v :: vs, σ, h => by
    unfold L2.wipe
    by_cases z : i ∈ vs
    · rw [wipe_set z]
    · have e : i = v := by
        rcases List.mem_cons.mp h with h | h
        · exact h
        · exact absurd h z
      subst e
      have : ∀ {vs : List Nat} {σ : L2.St}, i ∉ vs → L2.wipe (σ.set i x) vs = (L2.wipe σ vs).set i x := by
        intro vs
        induction vs with
        | nil => intro σ _; rfl
        | cons v vs ih =>
          intro σ n
          rw [List.mem_cons, not_or] at n
          unfold L2.wipe
          rw [ih n.2, List.set_comm _ _ n.1]
      rw [this z, List.set_set]
theorem WOk.trans {vs : Option (List Nat)} {a b c : L2.St} (h : WOk vs a b) (h2 : WOk vs b c) : WOk vs a c := by
  cases vs with
  | none => trivial
  | some l => exact Eq.trans h2 h
theorem g_name {vs : Option (List Nat)} {i : Nat} {d : Dat} {Q : Ga → AS → Prop} (hi : match vs with | none => True | some l => i ∈ l) (q : Q (γ.set i (some d)) s) : GG e vs (gName i) d γ s Q := fun F Hf H σ x R S X a Qc k =>
  k _ _ Hf H s (Same.refl _) R (S.set a i) (by
    cases vs with
    | none => trivial
    | some l => exact wipe_set hi) q
theorem g_gnil {vs : Option (List Nat)} {Q : Ga → AS → Prop} (q : Q γ s) : GGs e vs gNil [] γ s Q := fun F Hf H σ x R S X a Qc k => by
  cases a
  refine ⟨rfl, k σ γ Hf H s (Same.refl _) R S ?_ q⟩
  cases vs <;> first | trivial | rfl
theorem g_gcons {vs : Option (List Nat)} {g : TG} {gs : TGs} {d : Dat} {ds : List Dat} {Q : Ga → AS → Prop} (h : GG e vs g d γ s fun γ1 s1 => GGs e vs gs ds γ1 s1 Q) : GGs e vs (gCons g gs) (d :: ds) γ s Q := fun F Hf H σ x R S X a Qc k => by
  cases a with
  | cons a1 a2 => exact ⟨_, _, rfl, h F Hf H σ _ R S X a1 _ fun σ1 γ1 Hf1 H1 s1 m1 R1 S1 w1 q1 => q1 F Hf1 H1 σ1 _ R1 S1 (X.same m1) (a2.same m1) Qc fun σ2 γ2 Hf2 H2 s2 m2 R2 S2 w2 q2 => k σ2 γ2 Hf2 H2 s2 (m1.trans m2) R2 S2 (w1.trans w2) q2⟩
theorem g_gtup {vs : Option (List Nat)} {n : Nat} {gs : TGs} {d : Dat} {ds : List Dat} {Q : Ga → AS → Prop} (hd : TupD d ds) (hn : ds.length = n) (h : GGs e vs gs ds γ s Q) : GG e vs (gTup e.K n gs) d γ s Q := fun F Hf H σ x R S X a Qc k => by
  obtain ⟨p, ys, rfl, h1, h2⟩ := hd.sq R a
  exact ⟨p, ys, rfl, h1, h2.len.trans hn, h F Hf H σ ys R S X h2 Qc k⟩
theorem g_asg (h : GE e te γ s fun d s1 => GG e none g d γ s1 fun γ' s' => D.nx γ' s') : GS e (tAsg te g) γ s D := fun F Hf H σ R S X Dc L =>
  h F Hf H σ R S X _ fun v d Hf1 H1 s1 m1 R1 a1 q => q F Hf1 H1 σ v R1 (S.same m1) (X.same m1) a1 Dc.nx fun σ2 γ2 Hf2 H2 s2 m2 R2 S2 _ q2 => L.nx σ2 γ2 Hf2 H2 s2 (m1.trans m2) R2 S2 q2
/-! ### walks -/
structure DWalk (K : PySem.W.Frag) (F : AS) (Hf0 : Hp) (J : It) (xs : List Dat) (Gs : AS → Prop) : Prop where
  ex : ∃ (Gc : Hp → Prop) (Y : Nat → Hp → V → Hp → Prop), Walk J xs.length Gc Y ∧ (∀ F Hf H s, Same Hf0 Hf → Rep K F Hf H s → Gs s → Gc H) ∧
    (∀ i F Hf H s x H', Same Hf0 Hf → Rep K F Hf H s → Gs s → i < xs.length → Y i H x H' → ∃ Hf' d, Same Hf Hf' ∧ Rep K F Hf' H' s ∧ xs[i]? = some d ∧ At K Hf' x d ∧ ∀ b, H b ≠ none → H' b = H b)
def GI (e : Ec) (wi : TI) (γ : Ga) (s : AS) (Qi : List Dat → (AS → Prop) → AS → Prop) : Prop := ∀ F Hf H σ, Rep e.K F Hf H s → Slots e.K Hf σ γ → LiftX e F Hf → ∀ R : It → Hp → Prop,
  (∀ J xs Gs Hf' H' s', Same Hf Hf' → Rep e.K F Hf' H' s' → DWalk e.K F Hf' J xs Gs → Qi xs Gs s' → R J H') → wi σ H R
theorem walk_of {K : PySem.W.Frag} {F : AS} {Hf0 : Hp} {J : It} {xs : List Dat} {vs : List V} {Gs : AS → Prop} {Gc : Hp → Prop} (w : Walk J vs.length Gc (YAt vs)) (a : Ats K Hf0 vs xs) (hg : ∀ F Hf H s, Same Hf0 Hf → Rep K F Hf H s → Gs s → Gc H) : DWalk K F Hf0 J xs Gs :=
  ⟨Gc, YAt vs, by rw [← a.len]; exact w, hg, fun i F Hf H s x H' m R _ _ ⟨eH, hx⟩ => by
    subst eH
    obtain ⟨d, h1, h2⟩ := a.getV hx
    exact ⟨Hf, d, Same.refl _, R, h1, h2.same m, fun _ _ => rfl⟩⟩
/-- over a list that stands for good or is left as it is -/
theorem g_wlist {Qi : List Dat → (AS → Prop) → AS → Prop} (h : GE e tl γ s fun d s1 => ∃ xs, (d = .lst xs ∧ Qi xs (fun _ => True) s1) ∨ ∃ p, d = .ref p ∧ s1 p = some (.raw (.lst xs)) ∧ Qi xs (fun s => s p = some (.raw (.lst xs))) s1) : GI e (iList e.K tl) γ s Qi := fun F Hf H σ R S X Rc k =>
  h F Hf H σ R S X _ fun v d Hf1 H1 s1 m1 R1 a1 ⟨xs, q⟩ => by
    rcases q with ⟨rfl, q⟩ | ⟨p, rfl, hp, q⟩
    · cases a1 with
      | lst h1 h2 =>
        refine ⟨_, rfl, ⟨_, SqL.of (R1.sub _ _ h1)⟩, k _ xs _ Hf1 H1 s1 m1 R1 (walk_of walk_list h2 fun F Hf H s m R _ => SqL.of (R.sub _ _ (m _ _ h1))) q⟩
    · cases a1
      obtain ⟨ho, h1, ys, rfl, h2⟩ := R1.read hp
      refine ⟨_, rfl, ⟨_, SqL.of h1⟩, k _ xs _ Hf1 H1 s1 m1 R1 ?_ q⟩
      refine ⟨fun H => ∃ zs, H p = some (.lst zs) ∧ zs.length = xs.length, fun i H x H' => H' = H ∧ ∃ zs, H p = some (.lst zs) ∧ zs[i]? = some x, ?_, fun F Hf H s m R g => ?_, fun i F Hf H s x H' m R g hi ⟨eH, zs, hz, hx⟩ => ?_⟩
      · refine ⟨fun i H hi ⟨zs, hz, hl⟩ => ?_, fun H ⟨zs, hz, hl⟩ => ⟨zs, SqL.of hz, by rw [hl]; exact Nat.le_refl _⟩, fun i H x H' hi ⟨zs, hz, hl⟩ y => ⟨y.1, zs, hz, y.2 zs (SqL.of hz)⟩⟩
        have hi2 : i < zs.length := by omega
        exact ⟨zs, zs[i], SqL.of hz, by simp [hi2]⟩
      · obtain ⟨ho, g1, zs, rfl, g2⟩ := R.read g
        exact ⟨zs, g1, g2.len⟩
      · subst eH
        obtain ⟨ho, g1, ws, rfl, g2⟩ := R.read g
        rw [g1] at hz
        cases hz
        obtain ⟨d, e1, e2⟩ := g2.getV hx
        exact ⟨Hf, d, Same.refl _, R, e1, e2, fun _ _ => rfl⟩
theorem g_wtup {Qi : List Dat → (AS → Prop) → AS → Prop} (h : GE e tl γ s fun d s1 => ∃ xs, TupD d xs ∧ Qi xs (fun _ => True) s1) : GI e (iTup e.K tl) γ s Qi := fun F Hf H σ R S X Rc k =>
  h F Hf H σ R S X _ fun v d Hf1 H1 s1 m1 R1 a1 ⟨xs, ht, q⟩ => by
    rcases ht with rfl | rfl
    · cases a1 with
      | tup h1 h2 => exact ⟨_, rfl, ⟨_, SqT.of (R1.sub _ _ h1)⟩, k _ xs _ Hf1 H1 s1 m1 R1 (walk_of walk_tup h2 fun F Hf H s m R _ => SqT.of (R.sub _ _ (m _ _ h1))) q⟩
    · cases a1 with
      | con h1 h2 => exact ⟨_, rfl, ⟨_, sqT_same R1.sub h1⟩, k _ xs _ Hf1 H1 s1 m1 R1 (walk_of walk_tup h2 fun F Hf H s m R _ => sqT_same R.sub (sqT_same m h1)) q⟩
def rngD (lo : Int) (n : Nat) : List Dat := (List.range n).map fun i => .int (lo + (i : Nat))
theorem dwalk_range {K : PySem.W.Frag} {F : AS} {Hf0 : Hp} {lo : Int} {n : Nat} : DWalk K F Hf0 (Itr lo n) (rngD lo n) (fun _ => True) :=
  ⟨fun _ => True, YFn fun i => .int (lo + i), by unfold rngD; rw [List.length_map, List.length_range]; exact walk_range, fun _ _ _ _ _ _ _ => trivial, fun i F Hf H s x H' m R _ hi ⟨eH, ex⟩ => by
    subst eH ex
    unfold rngD at hi
    rw [List.length_map, List.length_range] at hi
    refine ⟨Hf, .int (lo + (i : Nat)), Same.refl _, R, ?_, .int _, fun _ _ => rfl⟩
    unfold rngD
    rw [List.getElem?_map, List.getElem?_range hi]
    rfl⟩
theorem g_wrange1 {Qi : List Dat → (AS → Prop) → AS → Prop} (h : GA e tA γ s fun ds s1 => ∃ j : Int, ds = [.int j] ∧ -(2 ^ 62) ≤ j ∧ j < 2 ^ 62 ∧ Qi (rngD 0 j.toNat) (fun _ => True) s1) : GI e (iRng1 tA) γ s Qi := fun F Hf H σ R S X Rc k =>
  h F Hf H σ R S X _ fun v d Hf1 H1 s1 m1 R1 a1 ⟨j, ed, h1, h2, q⟩ => by
    subst ed
    cases a1 with
    | cons x r =>
      cases r
      cases x
      exact ⟨j, rfl, h1, h2, k _ _ _ Hf1 H1 s1 m1 R1 dwalk_range q⟩
theorem g_wrange2 {Qi : List Dat → (AS → Prop) → AS → Prop} (h : GA e tA γ s fun ds s1 => ∃ i j : Int, ds = [.int i, .int j] ∧ (-(2 ^ 62) ≤ i ∧ i < 2 ^ 62 ∧ -(2 ^ 62) ≤ j ∧ j < 2 ^ 62) ∧ Qi (rngD i (j - i).toNat) (fun _ => True) s1) : GI e (iRng2 tA) γ s Qi := fun F Hf H σ R S X Rc k =>
  h F Hf H σ R S X _ fun v d Hf1 H1 s1 m1 R1 a1 ⟨i, j, ed, h1, q⟩ => by
    subst ed
    cases a1 with
    | cons x r =>
      cases r with
      | cons y r =>
        cases r
        cases x
        cases y
        exact ⟨i, j, rfl, h1, k _ _ _ Hf1 H1 s1 m1 R1 dwalk_range q⟩
def strsD (z : Str) : List Dat := z.cps.toList.map fun c => .str ⟨#[c]⟩
def iStrT (tl : TE) : TI := fun σ H R => tl σ H fun x H1 => ∃ z, x = .str z ∧ R (Its z) H1
theorem dwalk_str {K : PySem.W.Frag} {F : AS} {Hf0 : Hp} {z : Str} : DWalk K F Hf0 (Its z) (strsD z) (fun _ => True) :=
  ⟨fun _ => True, fun i H v H' => H' = H ∧ ∃ c, z.cps[i]? = some c ∧ v = .str ⟨#[c]⟩, by unfold strsD; rw [List.length_map, Array.length_toList]; exact walk_str, fun _ _ _ _ _ _ _ => trivial, fun i F Hf H s x H' m R _ hi ⟨eH, c, hc, ex⟩ => by
    subst eH ex
    refine ⟨Hf, .str ⟨#[c]⟩, Same.refl _, R, ?_, .str _, fun _ _ => rfl⟩
    unfold strsD
    rw [List.getElem?_map, Array.getElem?_toList, hc]
    rfl⟩
/-! ### for -/
theorem g_for (h : GI e wi γ s fun xs Gs s1 => ∃ I : Nat → Ga → AS → Prop, I 0 γ s1 ∧ (∀ i γ' s', i ≤ xs.length → I i γ' s' → Gs s') ∧ (∀ i d γ' s', xs[i]? = some d → I i γ' s' → GG e none g d γ' s' fun γ2 s2 => GS e ts γ2 s2 { D with nx := I (i + 1), ct := I (i + 1), bk := D.nx }) ∧ ∀ γ' s', I xs.length γ' s' → D.nx γ' s') : GS e (tFor wi g ts) γ s D := fun F Hf H σ R S X Dc L =>
  h F Hf H σ R S X _ fun J xs Gs Hf1 H1 s1 m1 R1 dw ⟨I, i0, ig, st, fin⟩ => by
    obtain ⟨Gc, Y, w, wg, wy⟩ := dw.ex
    refine for_it w (fun i σ' H' => ∃ Hf2 γ2 s2, Same Hf1 Hf2 ∧ Rep e.K F Hf2 H' s2 ∧ Slots e.K Hf2 σ' γ2 ∧ I i γ2 s2) ⟨Hf1, γ, s1, Same.refl _, R1, S.same m1, i0⟩ (fun i σ' H' hi ⟨Hf2, γ2, s2, m2, R2, S2, h2⟩ => wg F Hf2 H' s2 m2 R2 (ig i γ2 s2 hi h2)) ?_ (fun σ' H' ⟨Hf2, γ2, s2, m2, R2, S2, h2⟩ => L.nx σ' γ2 Hf2 H' s2 (m1.trans m2) R2 S2 (fin γ2 s2 h2))
    rintro i x σ2 H2 H3 hi ⟨Hf2, γ2, s2, m2, R2, S2, h2⟩ y
    obtain ⟨Hf3, d, m3, R3, hd, a3, _⟩ := wy i F Hf2 H2 s2 x H3 m2 R2 (ig i γ2 s2 (Nat.le_of_lt hi) h2) hi y
    have m13 := m2.trans m3
    refine st i d γ2 s2 hd h2 F Hf3 H3 σ2 x R3 (S2.same m3) (X.same (m1.trans m13)) a3 _ fun σ4 γ4 Hf4 H4 s4 m4 R4 S4 _ q4 => ?_
    have m14 := m13.trans m4
    refine q4 F Hf4 H4 σ4 R4 S4 (X.same (m1.trans m14)) _ ⟨?_, (L.rt.same (m1.trans m14)), (L.nx.same (m1.trans m14)), ?_⟩
    · exact fun σ5 γ5 Hf5 H5 s5 m5 R5 S5 q5 => ⟨Hf5, γ5, s5, m14.trans m5, R5, S5, q5⟩
    · exact fun σ5 γ5 Hf5 H5 s5 m5 R5 S5 q5 => ⟨Hf5, γ5, s5, m14.trans m5, R5, S5, q5⟩
/-! ### while -/
theorem g_while (I : Nat → Ga → AS → Prop) (m0 : Nat) (i0 : I m0 γ s) (st : ∀ m γ' s', I m γ' s' → GT e t γ' s' fun b s1 => (b = true → GS e ts γ' s1 { D with nx := fun γ2 s2 => ∃ m', m' < m ∧ I m' γ2 s2, ct := fun γ2 s2 => ∃ m', m' < m ∧ I m' γ2 s2, bk := D.nx }) ∧ (b = false → D.nx γ' s1)) : GS e (tWhile t ts) γ s D := fun F Hf H σ R S X Dc L => by
  refine ⟨fun m σ' H' => ∃ Hf2 γ2 s2, Same Hf Hf2 ∧ Rep e.K F Hf2 H' s2 ∧ Slots e.K Hf2 σ' γ2 ∧ I m γ2 s2, ⟨m0, Hf, γ, s, Same.refl _, R, S, i0⟩, ?_⟩
  rintro m σ2 H2 ⟨Hf2, γ2, s2, m2, R2, S2, h2⟩
  refine st m γ2 s2 h2 F Hf2 H2 σ2 R2 S2 (X.same m2) _ fun b Hf3 H3 s3 m3 R3 ⟨q1, q2⟩ => ?_
  have m23 := m2.trans m3
  cases b with
  | false => exact L.nx σ2 γ2 Hf3 H3 s3 m23 R3 (S2.same m3) (q2 rfl)
  | true =>
    refine ⟨fun σ' H' => ∃ m', m' < m ∧ ∃ Hf4 γ4 s4, Same Hf Hf4 ∧ Rep e.K F Hf4 H' s4 ∧ Slots e.K Hf4 σ' γ4 ∧ I m' γ4 s4, fun σ' H' h => h, q1 rfl F Hf3 H3 σ2 R3 (S2.same m3) (X.same m23) _ ⟨?_, L.rt.same m23, L.nx.same m23, ?_⟩⟩
    · exact fun σ5 γ5 Hf5 H5 s5 m5 R5 S5 ⟨m', hm, q5⟩ => ⟨m', hm, Hf5, γ5, s5, m23.trans m5, R5, S5, q5⟩
    · exact fun σ5 γ5 Hf5 H5 s5 m5 R5 S5 ⟨m', hm, q5⟩ => ⟨m', hm, Hf5, γ5, s5, m23.trans m5, R5, S5, q5⟩
/-! ### list comprehensions -/
theorem g_yes (q : Qb true s) : GT e tYes γ s Qb := fun F Hf H σ R S X Qc L => L _ Hf H s (Same.refl _) R q
theorem Rep.dropF {K : PySem.W.Frag} {F : AS} {Hf H : Hp} {p : Addr} {c : Cell} (R : Rep K (supd F p c) Hf H s) (hF : F p = none) : Rep K F Hf H s := by
  refine ⟨R.r0.drop fun a c2 h => ?_, fun a c2 h => ?_⟩
  · cases z : s a with
    | some c3 =>
      rw [jn_s z] at h ⊢
      exact h
    | none =>
      rw [jn_n z] at h ⊢
      rw [supd_ne (sne h hF)]
      exact h
  · have := R.dis a c2 h
    by_cases z : a = p
    · rw [z]
      exact hF
    · rw [supd_ne z] at this
      exact this
theorem LiftX.hide {F : AS} {Hf : Hp} {p : Addr} {c : Cell} (X : LiftX e F Hf) (hF : F p = none) : LiftX e (supd F p c) Hf := fun cls d fs γ s σ Hf' H' m R S er a => X cls d fs γ s σ Hf' H' m (R.dropF hF) S er a
theorem wipe_wipe {vs : List Nat} {σ : L2.St} : ∀ {l : List Nat}, (∀ i ∈ l, i ∈ vs) → L2.wipe (L2.wipe σ l) vs = L2.wipe σ vs
  | [], _ => rfl
  | v :: l, h => by
    show L2.wipe ((L2.wipe σ l).set v none) vs = _
    rw [wipe_set (h v (.head _))]
    exact wipe_wipe fun i hi => h i (.tail _ hi)
theorem g_lc {vs : List Nat} (h : GI e wi γ s fun xs Gs s1 => ∃ I : Nat → List Dat → AS → Prop, xs.length < sizeLine ∧ I 0 [] s1 ∧ (∀ i acc s', i ≤ xs.length → I i acc s' → Gs s') ∧ (∀ i d acc s', xs[i]? = some d → I i acc s' → GG e (some vs) g d (wipeG γ vs) s' fun γ2 s2 => GT e t γ2 s2 fun b s3 =>
    (b = true → GE e te γ2 s3 fun y s4 => I (i + 1) (acc ++ [y]) s4) ∧ (b = false → I (i + 1) acc s3)) ∧ ∀ acc s', I xs.length acc s' → Q (.lst acc) s') : GE e (tLc wi g t te vs) γ s Q := fun F Hf H σ R S X Qc L =>
  h F Hf H σ R S X _ fun J xs Gs Hf1 H1 s1 m1 R1 dw ⟨I, hz, i0, ig, st, fin⟩ => fun Dp hD => by
    obtain ⟨Gc, Y, w, wg, wy⟩ := dw.ex
    have hF := (R1.free hD).2.1
    refine lc_it w (fun i H' => ∃ Hf2 s2 acc, Same Hf1 Hf2 ∧ Rep e.K (supd F Dp (.raw (.lst acc))) Hf2 H' s2 ∧ acc.length ≤ i ∧ I i acc s2) ⟨Hf1, s1, [], Same.refl _, R1.hide hD (w := .lst []) ⟨[], rfl, .nil⟩, Nat.zero_le _, i0⟩ (fun i H' hi ⟨Hf2, s2, acc, m2, R2, _, h2⟩ => wg _ Hf2 H' s2 m2 R2 (ig i acc s2 hi h2)) ?_ ?_
    · rintro i x H2 H3 hi ⟨Hf2, s2, acc, m2, R2, la, h2⟩ y
      obtain ⟨Hf3, d, m3, R3, hd, a3, _⟩ := wy i _ Hf2 H2 s2 x H3 m2 R2 (ig i acc s2 (Nat.le_of_lt hi) h2) hi y
      have m13 := m2.trans m3
      have X3 : LiftX e (supd F Dp (.raw (.lst acc))) Hf3 := (X.same (m1.trans m13)).hide hF
      have S3 : Slots e.K Hf3 (L2.wipe σ vs) (wipeG γ vs) := (S.wipe vs).same (m1.trans m13)
      refine st i d acc s2 hd h2 _ Hf3 H3 (L2.wipe σ vs) x R3 S3 X3 a3 _ fun σ4 γ4 Hf4 H4 s4 m4 R4 S4 w4 q4 => ?_
      refine ⟨Eq.trans w4 (wipe_wipe fun i hi => hi), q4 _ Hf4 H4 σ4 R4 S4 (X3.same m4) _ fun b Hf5 H5 s5 m5 R5 ⟨q1, q2⟩ => ?_⟩
      have m15 := (m13.trans m4).trans m5
      cases b with
      | false => exact ⟨Hf5, s5, acc, m15, R5, Nat.le_succ_of_le la, q2 rfl⟩
      | true =>
        refine q1 rfl _ Hf5 H5 σ4 R5 (S4.same m5) (X3.same (m4.trans m5)) _ fun y dy Hf6 H6 s6 m6 R6 a6 q6 => ?_
        obtain ⟨_, ho, h61, av, rfl, h62⟩ := R6.readF
        refine ⟨av, h61, ?_, Hf6, s6, acc ++ [dy], m15.trans m6, R6.writeF (w' := .lst (acc ++ [dy])) ⟨_, rfl, h62.append (.cons a6 .nil)⟩, ?_, q6⟩
        · rw [h62.len]
          exact Nat.lt_of_le_of_lt la (Nat.lt_trans hi hz)
        · rw [List.length_append]
          exact Nat.succ_le_succ la
    · rintro H2 ⟨Hf2, s2, acc, m2, R2, la, h2⟩
      obtain ⟨ho, h3, ⟨av, rfl, h4⟩, m3, R3⟩ := R2.showF hF
      exact L _ _ _ H2 s2 ((m1.trans m2).trans m3) R3 (.lst upd_same (h4.same m3)) (fin acc s2 h2)
end
end AL
namespace Ls
open PySem PySem.Spec PyProof.Rows L2
/-! ### len(set(xs)), xs a list of texts -/
/-- the texts that have been met so far, each once -/
def metS (xs : List Str) : Nat → List Str
  | 0 => []
  | i + 1 => if (metS xs i).any (· == xs.getD i Str.empty) = true then metS xs i else metS xs i ++ [xs.getD i Str.empty]
theorem metS_le (xs : List Str) : ∀ i, (metS xs i).length ≤ i
  | 0 => Nat.le_refl _
  | i + 1 => by
    have := metS_le xs i
    show (if (metS xs i).any (· == xs.getD i Str.empty) = true then metS xs i else metS xs i ++ [xs.getD i Str.empty]).length ≤ i + 1
    split
    · omega
    · rw [List.length_append]
      show _ + 1 ≤ _
      omega
theorem metS_mem (xs : List Str) (z : Str) : ∀ i, i ≤ xs.length → (z ∈ metS xs i ↔ z ∈ xs.take i)
  | 0, _ => by simp [metS]
  | i + 1, hi => by
    have ih := metS_mem xs z i (by omega)
    have hd : xs.getD i Str.empty = xs[i] := by rw [List.getD_eq_getElem?_getD, List.getElem?_eq_getElem hi]; rfl
    have tk : xs.take (i + 1) = xs.take i ++ [xs[i]] := by rw [List.take_add_one, List.getElem?_eq_getElem hi]; rfl
    rw [tk, List.mem_append, List.mem_singleton, ← ih]
    show z ∈ (if (metS xs i).any (· == xs.getD i Str.empty) = true then metS xs i else metS xs i ++ [xs.getD i Str.empty]) ↔ _
    rw [hd]
    split
    · rename_i h
      refine ⟨.inl, fun h2 => h2.elim id fun e => ?_⟩
      obtain ⟨y, hy, ey⟩ := List.any_eq_true.mp h
      rw [e, ← eq_of_beq ey]
      exact hy
    · rw [List.mem_append, List.mem_singleton]
theorem metS_nd (xs : List Str) : ∀ i, i ≤ xs.length → ((metS xs i).length = i ↔ (xs.take i).Nodup)
  | 0, _ => by simp [metS]
  | i + 1, hi => by
    have ih := metS_nd xs i (by omega)
    have le := metS_le xs i
    have hd : xs.getD i Str.empty = xs[i] := by rw [List.getD_eq_getElem?_getD, List.getElem?_eq_getElem hi]; rfl
    have tk : xs.take (i + 1) = xs.take i ++ [xs[i]] := by rw [List.take_add_one, List.getElem?_eq_getElem hi]; rfl
    rw [tk]
    show (if (metS xs i).any (· == xs.getD i Str.empty) = true then metS xs i else metS xs i ++ [xs.getD i Str.empty]).length = i + 1 ↔ _
    rw [hd]
    split
    · rename_i h
      refine ⟨fun e => by omega, fun nd => ?_⟩
      obtain ⟨y, hy, ey⟩ := List.any_eq_true.mp h
      rw [eq_of_beq ey] at hy
      have := (metS_mem xs _ i (by omega)).mp hy
      rw [List.nodup_append] at nd
      exact absurd rfl (nd.2.2 _ this _ (.head _))
    · rename_i h
      rw [List.length_append]
      show _ + 1 = _ ↔ _
      refine ⟨fun e => ?_, fun nd => ?_⟩
      · have h1 := ih.mp (by omega)
        rw [List.nodup_append]
        refine ⟨h1, by simp, fun a ha b hb e2 => ?_⟩
        rw [List.mem_singleton.mp hb] at e2
        rw [e2] at ha
        exact h (List.any_eq_true.mpr ⟨_, (metS_mem xs _ i (by omega)).mpr ha, by simp⟩)
      · rw [List.nodup_append] at nd
        have := ih.mpr nd.1
        omega
/-- how many unlike texts there are -/
def manyS (xs : List Str) : Nat := (metS xs xs.length).length
theorem manyS_lt (xs : List Str) : decide (manyS xs < xs.length) = !decide xs.Nodup := by
  have h1 := metS_nd xs xs.length (Nat.le_refl _)
  have h2 := metS_le xs xs.length
  rw [List.take_length] at h1
  unfold manyS
  by_cases h : xs.Nodup
  · rw [decide_eq_true h, decide_eq_false (by have := h1.mpr h; omega)]
    rfl
  · rw [decide_eq_false h, decide_eq_true (by
      have : ¬ (metS xs xs.length).length = xs.length := fun e => h (h1.mp e)
      omega)]
    rfl
section
variable {prog : Program} {w : World} {A : Around} {R : Result → Shared → Prop} {Ia : Addr} {fp wr : List Addr} {G : Array GenState → Array GenState → Prop} {n : Nat} {Pv : Nat → Value → Prop} {St : Nat → Shared → Prop}
abbrev SoS (prog : Program) (w : World) (h : Heap) (Sa : Addr) (xs : List Str) (i : Nat) : Prop := h.SetOf (PySem.strKind prog w) Sa (fun z => (metS xs i).any (· == z)) (metS xs i).length
theorem so_move {h h' : Heap} {Sa : Addr} {xs : List Str} {i : Nat} (q : SoS prog w h Sa xs i) (k : ∀ o, h.get? Sa = some o → h'.get? Sa = some o) : SoS prog w h' Sa xs i := by
  obtain ⟨o, e1, e2, e3, e4, r⟩ := q
  exact ⟨o, e1, e2, e3, k o e4, r⟩
theorem loopS (W : WalksS prog w A.in1 Ia fp wr G n Pv St) (Sa : Addr) (nfp : Sa ∉ fp) (xs : List Str) (hn : n + 1 < scanBound) (hv : ∀ i v, Pv i v → ∃ t, v = .str (xs.getD i Str.empty) t) :
    ∀ (m i : Nat) (s : Shared), n - i = m → i ≤ n → St i s → SoS prog w s.heap Sa xs i → (∀ s', Moved (Sa :: wr) G s s' → SoS prog w s'.heap Sa xs n → R (.ok (.ret .none)) s') →
      codeAny (model prog w) A (.builtin "set.update.loop" ⟨[.ref Sa, .ref Ia], []⟩) R s := by
  have nwr : Sa ∉ wr := fun z => nfp (W.sub _ z)
  have more : ∀ b ∈ wr, b ∈ Sa :: wr := fun b z => .tail _ z
  intro m
  induction m with
  | zero =>
    intro i s em hi st so fin
    obtain rfl : i = n := by omega
    refine codeAny_builtin PyProof.Rows.F.entry_set_update_loop ?_
    rw [Around.under_plainId PyProof.Rows.F.plain_set_update_loop _]
    refine wpAny_bind (W.done s _ _ st fun s2 mv => ?_)
    exact wpAny_pure (fin s2 (mv.mono more) (so_move so fun o e => mv.heap Sa o nwr e))
  | succ m ih =>
    intro i s em hi st so fin
    have lt : i < n := by omega
    refine codeAny_builtin PyProof.Rows.F.entry_set_update_loop ?_
    rw [Around.under_plainId PyProof.Rows.F.plain_set_update_loop _]
    refine wpAny_bind (W.item i s _ _ lt st fun v s2 hp st2 mv => ?_)
    obtain ⟨t, rfl⟩ := hv i v hp
    have so2 : SoS prog w s2.heap Sa xs i := so_move so fun o e => mv.heap Sa o nwr e
    refine wpAny_bind (wpAny_holding ?_)
    unfold setAdd
    refine wpAny_holding (wpAny_bind ((PySem.strKind prog w).pyHash (k := xs.getD i Str.empty) (strKind_is _ _ _ _) ?_))
    have few : (metS xs i).length + 1 < scanBound := Nat.lt_of_le_of_lt (Nat.add_le_add_right (metS_le xs i) 1) (by omega)
    refine wpAny_setAddHashed_of (knd := PySem.strKind prog w) (s := { s2 with toks := s2.toks + 1 }) (strKind_is _ _ _ _) rfl so2 few fun h3 sb so3 => ?_
    have so4 : SoS prog w h3 Sa xs (i + 1) := by
      refine PyProof.Rows.SetOf_congr so3 (fun z => ?_) ?_
      · show ((metS xs i).any (· == z) || decide (z = xs.getD i Str.empty)) = (if (metS xs i).any (· == xs.getD i Str.empty) = true then metS xs i else metS xs i ++ [xs.getD i Str.empty]).any (· == z)
        split
        · rename_i hm
          by_cases ez : z = xs.getD i Str.empty
          · rw [ez, hm]
            rfl
          · rw [decide_eq_false ez, Bool.or_false]
        · rw [List.any_append]
          congr 1
          by_cases ez : z = xs.getD i Str.empty
          · subst ez
            simp
          · have nb : (xs.getD i Str.empty == z) = false := by
              refine Bool.eq_false_iff.mpr fun hb => ez (eq_of_beq hb).symm
            rw [decide_eq_false ez]
            show false = ((xs.getD i Str.empty == z) || false)
            rw [nb]
            rfl
      · show _ = (if (metS xs i).any (· == xs.getD i Str.empty) = true then metS xs i else metS xs i ++ [xs.getD i Str.empty]).length
        split
        · rfl
        · rw [List.length_append]
          rfl
    refine wpAny_pure ⟨plainId_quiet PyProof.Rows.F.plain_set_update_loop _, ih (i + 1) _ (by omega) lt (W.frame _ s2 _ _ st2 (Nat.le_succ _) fun b hb o e => ?_) so4 fun s5 mv5 so5 => ?_⟩
    · exact (sb.2 b fun z => nfp (z ▸ hb)).trans e
    · exact fin s5 (Moved.trans W.gtrans ((mv.mono more).then_heap (Nat.le_succ _) fun b o hb e => (sb.2 b fun z => hb (z ▸ .head _)).trans e) mv5) so5
end
section
variable {prog : Program} {w : World} {A : Around} {E : Value → Shared → Prop} {s : Shared}
abbrev newSet (led : Bool) : Obj := { cls := .type "set", dict := none, data := .set #[] 0 (.fresh 0 0 led) }
set_option maxHeartbeats 3200000 in
/-- set(l), l a list of texts -/
theorem set_ofList {la : Addr} {vals : Array Value} {xs : List Str} {Q : Value → Shared → Prop} (hn : A.handled = none) (il : s.heap.IsList la vals) (tx : PyProof.Rows.StrsAre vals.toList xs) (few : xs.length + 1 < scanBound)
    (fin : ∀ (h' : Heap) (tk : Nat), SoS prog w h' s.heap.objs.size xs xs.length → (∀ b o, b < s.heap.objs.size → s.heap.get? b = some o → h'.get? b = some o) → Q (.ref s.heap.objs.size) { s with heap := h', toks := tk }) :
    wpAny (model prog w) A (call (.type "set") [.ref la]) Q E s := by
  obtain ⟨c, tl, mro⟩ := PySem.F.called_set.mro
  have made := PySem.F.called_set.made
  have sub := PySem.F.called_set.sub
  refine wpAny_call (codeAny_of_tree ?_)
  show wpAny _ _ (callAny (.type "set") _) _ _ _
  refine wpAny_pure ⟨Code.quiet_builtin _ (by decide +kernel), codeAny_builtin PySem.F.entry_type_call ?_⟩
  rw [Around.under_plain (weight_type_call_type "set" [.ref la] []) rfl]
  have nt := PySem.F.called_set.notType
  have cc := PySem.F.called_set.canCreate
  have tc := PySem.F.typeCall_set_1 (.ref la)
  repeat (any_goals (first | assumption | wp_step))
  refine codeAny_mono (code_set_new_1 (.ref la) (E := E) (Q₁ := fun ob s1 => ∃ led : Bool, ob = .ref s.heap.objs.size ∧ s1 = { s with heap := s.heap.push (newSet led) }) fun led => ⟨led, rfl, rfl⟩) fun r s1 hr => ?_
  cases r with
  | error e => exact hr
  | ok fl =>
    cases fl with
    | ret ob =>
      obtain ⟨led, rfl, rfl⟩ := hr
      have gs : (s.heap.push (newSet led)).get? s.heap.objs.size = some (newSet led) := Heap.get?_push_size _ rfl
      have ty : Shared.TypeIs { s with heap := s.heap.push (newSet led) } (.ref s.heap.objs.size) "set" := ⟨_, gs, rfl⟩
      have lk := PySem.F.called_set.init.lookup
      have bi := PySem.F.called_set.init.bind (.ref s.heap.objs.size)
      repeat (any_goals (first | assumption | wp_step))
      refine codeAny_mono (codeAny_call_builtin (R := wants (fun r s2 => r = .none ∧ ∃ h' tk, s2 = { s with heap := h', toks := tk } ∧ SoS prog w h' s.heap.objs.size xs xs.length ∧ (∀ b o, b < s.heap.objs.size → s.heap.get? b = some o → h'.get? b = some o)) E) PySem.F.called_set.init.plain PySem.F.entry_set_init (check_set_init_1 ty ?_)) fun r2 s2 hr2 => ?_
      · obtain ⟨ol, gl, cl, nl, dl⟩ := il
        obtain ⟨oc, od, ot, osl⟩ := ol
        simp only at cl dl
        subst cl
        subst dl
        have gl2 : (s.heap.push (newSet led)).get? la = some { cls := .type "list", dict := od, data := .seq vals nl, slots := osl } := Heap.get?_push_of_some _ gl
        have q1 := PySem.F.sub_list_set
        have q2 := PySem.F.sub_list_frozenset
        have q3 : (Value.type "list" == Value.type "dict") = false := by decide
        have il2 : (s.heap.push (newSet led)).IsList la vals := ⟨_, gl2, rfl, nl, rfl⟩
        unfold Builtin.«set.__init__» noKeywords Builtin.Frozenset.updateFrom
        generalize hPI : pyIter = PI
        wp_walk
        subst hPI
        refine wpAny_pyIter_list il2 (wpAny_bind (wpAny_runValue ?_))
        have ltS : la < s.heap.objs.size := Heap.lt_size gl
        have hn3 : A.in1.in1.in1.handled = none := by simp [hn]
        have neI : la ≠ (s.heap.push (newSet led)).objs.size := by
          rw [Heap.size_push]
          exact Nat.ne_of_lt (Nat.lt_succ_of_lt ltS)
        have nfp : s.heap.objs.size ∉ [(s.heap.push (newSet led)).objs.size, la] := by
          rw [Heap.size_push]
          intro hm
          rcases List.mem_cons.mp hm with z | z
          · exact absurd z (Nat.ne_of_lt (Nat.lt_succ_self _))
          · exact absurd (List.mem_singleton.mp z) (Nat.ne_of_gt ltS)
        have len : xs.length = vals.size := by rw [← StrsAre.len_eq tx, Array.length_toList]
        have each : ∀ (i : Nat) (v : Value), vals[i]? = some v → ∃ t, v = .str (xs.getD i Str.empty) t := fun i v hv => SS.strs_at tx i v (by rw [Array.getElem?_toList]; exact hv)
        refine loopS ((Walks.list hn3 _ la neI vals).toS) s.heap.objs.size nfp xs (by rw [← len]; exact few) each (vals.size - 0) 0 _ (by omega) (Nat.zero_le _) ⟨⟨_, Heap.get?_push_size _ rfl, rfl, rfl⟩, (il2.push _)⟩ ?start ?last
        case start =>
          have g2 : ((s.heap.push (newSet led)).push { cls := .type "list_iterator", data := .fields #[.ref la, .int 0 0] }).get? s.heap.objs.size = some (newSet led) := Heap.get?_push_of_some _ gs
          exact PyProof.Rows.SetOf_congr ((PyProof.Rows.setObjOf_fresh (knd := PySem.strKind prog w) led).setOf g2 (by unfold scanBound; omega)) (fun _ => rfl) rfl
        case last =>
          intro s9 mv so
          obtain ⟨h9, g9, d9, t9, o9⟩ := s9
          have e1 : g9 = s.gens := mv.gens
          have e2 : d9 = s.drawn := mv.drawn
          have e3 : o9 = s.os := mv.os
          subst e1 e2 e3
          show wpAny _ _ _ _ _ _
          refine wpAny_pure ?_
          show wpAny _ _ (ret Value.none) _ _ _
          refine wpAny_pure ⟨rfl, h9, t9, rfl, by rw [len]; exact so, fun b o hb e => ?_⟩
          refine mv.heap b o (fun hm => ?_) (Heap.get?_push_of_some _ (Heap.get?_push_of_some _ e))
          rcases List.mem_cons.mp hm with z | z
          · exact absurd z (Nat.ne_of_lt hb)
          · have z2 := List.mem_singleton.mp z
            rw [Heap.size_push] at z2
            exact absurd z2 (Nat.ne_of_lt (Nat.lt_succ_of_lt hb))
      · cases r2 with
        | error e => exact hr2
        | ok fl2 =>
          cases fl2 with
          | ret r =>
            obtain ⟨rfl, h', tk, rfl, so, kp⟩ := hr2
            repeat (any_goals (first | assumption | wp_step))
            exact fin _ _ so kp
          | _ => exact hr2.elim
    | _ => exact hr.elim
end
/-- len(set(xs)) -/
def tLenSetS (K : PySem.W.Frag) (ta : TE) : TE := fun σ H Q => ta σ H fun x H1 => ∃ (l : Addr) (xs : List Str), x = V.ref l ∧ SqL K H1 l (xs.map V.str) ∧ xs.length ≤ 50 ∧ Q (.int (manyS xs : Nat)) H1
theorem pe_lenSetS {X : Cx} {a : Expr} {ta : TE} {p p2 q pos : Pos} (hc : X.calm = true) (hg : Gl X "len") (hm : X.mg "len" = none) (hg2 : Gl X "set") (hm2 : X.mg "set" = none) (ha : PE X a ta)
    (na : starEach [a] X.env = (false, eval a X.env) :: starEach [] X.env := by rfl) : PE X (.Call (.Name "len" p) [.Call (.Name "set" p2) [a] [] q] [] pos) (tLenSetS X.K ta) := by
  refine ⟨fun pins s σ H Q I h => ?_⟩
  refine Call_ (ld_blt I hg hm PySem.boot_len ?_)
  refine PyProof.Rows.callWith_builtin1 (PyProof.Rows.args_cons ?_ rfl) rfl rfl
  refine Call_ (ld_blt I hg2 hm2 PyProof.Rows.boot_set ?_)
  refine PyProof.Rows.callWith_type1 (PyProof.Rows.args_cons (thn (ha.run pins s σ H _ I h) fun v s1 ⟨x, H1, J, r1, q1⟩ => PyProof.Rows.args_nil ?_) na) na rfl
  obtain ⟨l, xs, rfl, hq, h1, q1⟩ := q1
  cases r1
  obtain ⟨its, r, pl, hz⟩ := J.list hq
  refine set_ofList (J.ok.hd hc) pl.isList (xs := xs) (by simpa using r.strs) (by unfold scanBound; omega) fun h' tk so hk => PyProof.Rows.args_nil ?_
  obtain ⟨o, es, ep, t, ho, hex, hd, _, _, _, hf, hn⟩ := so
  have le := metS_le xs xs.length
  refine call_len_set ho hex hd hf (by rw [hn]; omega) ⟨.int (manyS xs : Nat), H1, (J.kept fun b o e => hk b o (Heap.lt_size e) e).tok _, ⟨_, by rw [hn]; rfl⟩, q1⟩
end Ls
namespace Ls
open PySem PySem.Spec PyProof.Rows L2
/-! ### ranks: two ways to reckon them -/
abbrev Ed := Str × Str
/-- the first way: rounds over the edges -/
def relax (f : Str → Nat) (e : Ed) : Str → Nat := if f e.1 ≤ f e.2 then (fun z => if z = e.1 then f e.2 + 1 else f z) else f
def roundR (es : List Ed) (f : Str → Nat) : Str → Nat := es.foldl relax f
def roundsR (es : List Ed) : Nat → Str → Nat
  | 0 => fun _ => 0
  | n + 1 => roundR es (roundsR es n)
def ranksP (T : List Str) (es : List Ed) (n : Nat) : Option (List (Str × Nat)) := if es.any (fun e => decide (roundsR es n e.1 ≤ roundsR es n e.2)) = true then none else some (T.map fun k => (k, roundsR es n k))
/-- the second way: level by level -/
def isFree (es : List Ed) (left : List Str) (k : Str) : Bool := (es.filter fun e => decide (e.1 = k) && decide (e.2 ∈ left)).isEmpty
def freeOf (es : List Ed) (left : List Str) : List Str := left.filter (isFree es left)
def valStep (r : Str → Nat) (k : Str) (a : Nat) (e : Ed) : Nat := if e.1 = k ∧ a ≤ r e.2 then r e.2 + 1 else a
def valOf (es : List Ed) (r : Str → Nat) (k : Str) : Nat := es.foldl (valStep r k) 0
def nextR (es : List Ed) (left : List Str) (r : Str → Nat) : Str → Nat := fun z => if z ∈ freeOf es left then valOf es r z else r z
def restOf (es : List Ed) (left : List Str) : List Str := left.filter fun k => !decide (k ∈ freeOf es left)
def lawRun (es : List Ed) : Nat → List Str → (Str → Nat) → Option (Str → Nat)
  | _, [], r => some r
  | 0, _ :: _, _ => none
  | n + 1, k :: l, r => if freeOf es (k :: l) = [] then none else lawRun es n (restOf es (k :: l)) (nextR es (k :: l) r)
def ranksL (T : List Str) (es : List Ed) : Option (List (Str × Nat)) := (lawRun es T.length T fun _ => 0).map fun r => T.map fun k => (k, r k)
/-! each grows -/
theorem relax_ge (f : Str → Nat) (e : Ed) (z : Str) : f z ≤ relax f e z := by
  unfold relax
  split
  · show f z ≤ if z = e.1 then f e.2 + 1 else f z
    split
    · rename_i h1 h2
      rw [h2]
      omega
    · exact Nat.le_refl _
  · exact Nat.le_refl _
theorem fold_ge : ∀ (es : List Ed) (f : Str → Nat) (z : Str), f z ≤ es.foldl relax f z
  | [], f, z => Nat.le_refl _
  | e :: es, f, z => Nat.le_trans (relax_ge f e z) (fold_ge es (relax f e) z)
theorem fold_gets' {es : List Ed} {e : Ed} (h : e ∈ es) : ∀ (f : Str → Nat), f e.2 + 1 ≤ es.foldl relax f e.1 := by
  induction es with
  | nil => cases h
  | cons d es ih =>
    intro f
    rcases List.mem_cons.mp h with rfl | h
    · refine Nat.le_trans ?_ (fold_ge es (relax f e) e.1)
      unfold relax
      split
      · simp
      · omega
    · exact Nat.le_trans (Nat.add_le_add_right (relax_ge f d e.2) 1) (ih h (relax f d))
/-- r tells the ranks -/
structure IsRank (T : List Str) (es : List Ed) (r : Str → Nat) : Prop where
  lt : ∀ e ∈ es, r e.2 < r e.1
  why : ∀ k ∈ T, r k = 0 ∨ ∃ e ∈ es, e.1 = k ∧ r k = r e.2 + 1
theorem fold_le_r {T : List Str} {es0 : List Ed} {r : Str → Nat} (h : IsRank T es0 r) : ∀ (es : List Ed) (f : Str → Nat), (∀ e ∈ es, e ∈ es0) → (∀ z, f z ≤ r z) → ∀ z, es.foldl relax f z ≤ r z
  | [], f, _, hf, z => hf z
  | e :: es, f, hs, hf, z => fold_le_r h es (relax f e) (fun d hd => hs d (.tail _ hd)) (fun y => by
      unfold relax
      split
      · show (if y = e.1 then f e.2 + 1 else f y) ≤ r y
        split
        · rename_i h2
          rw [h2]
          have h3 := h.lt e (hs e (.head _))
          have h4 := hf e.2
          omega
        · exact hf y
      · exact hf y) z
theorem rounds_le {T : List Str} {es : List Ed} {r : Str → Nat} (h : IsRank T es r) : ∀ (i : Nat) (z : Str), roundsR es i z ≤ r z
  | 0, z => Nat.zero_le _
  | i + 1, z => fold_le_r h es (roundsR es i) (fun _ h => h) (rounds_le h i) z
theorem rounds_ge {T : List Str} {es : List Ed} {r : Str → Nat} (h : IsRank T es r) (hT : ∀ e ∈ es, e.1 ∈ T ∧ e.2 ∈ T) : ∀ (i : Nat) (z : Str), z ∈ T → r z ≤ i → r z ≤ roundsR es i z
  | 0, z, _, hz => by omega
  | i + 1, z, hm, hz => by
    by_cases h1 : r z ≤ i
    · exact Nat.le_trans (rounds_ge h hT i z hm h1) (fold_ge es (roundsR es i) z)
    · rcases h.why z hm with h0 | ⟨e, he, e1, e2⟩
      · omega
      · have h3 := rounds_ge h hT i e.2 (hT e he).2 (by omega)
        have h4 := fold_gets' he (roundsR es i)
        rw [e1] at h4
        show r z ≤ es.foldl relax (roundsR es i) z
        omega
theorem ranksP_of {T : List Str} {es : List Ed} {r : Str → Nat} {n : Nat} (h : IsRank T es r) (hT : ∀ e ∈ es, e.1 ∈ T ∧ e.2 ∈ T) (hn : ∀ k ∈ T, r k ≤ n) : ranksP T es n = some (T.map fun k => (k, r k)) := by
  have e : ∀ k ∈ T, roundsR es n k = r k := fun k hk => Nat.le_antisymm (rounds_le h n k) (rounds_ge h hT n k hk (hn k hk))
  unfold ranksP
  have ha : es.any (fun e => decide (roundsR es n e.1 ≤ roundsR es n e.2)) = false := by
    rw [List.any_eq_false]
    intro d hd
    rw [e _ (hT d hd).1, e _ (hT d hd).2]
    have := h.lt d hd
    simp
    omega
  rw [ha, if_neg (by decide)]
  congr 1
  exact List.map_congr_left fun k hk => by rw [e k hk]
theorem least_of (f : Str → Nat) : ∀ (l : List Str), l ≠ [] → ∃ k ∈ l, ∀ g ∈ l, f k ≤ f g
  | [], h => absurd rfl h
  | [a], _ => ⟨a, .head _, fun g hg => by rw [List.mem_singleton.mp hg]; exact Nat.le_refl _⟩
  | a :: b :: l, _ => by
    obtain ⟨k, hk, hm⟩ := least_of f (b :: l) (by simp)
    by_cases h : f a ≤ f k
    · exact ⟨a, .head _, fun g hg => by
        rcases List.mem_cons.mp hg with rfl | hg
        · exact Nat.le_refl _
        · exact Nat.le_trans h (hm g hg)⟩
    · exact ⟨k, .tail _ hk, fun g hg => by
        rcases List.mem_cons.mp hg with rfl | hg
        · omega
        · exact hm g hg⟩
theorem ranksP_none {T : List Str} {es : List Ed} {n : Nat} {l : List Str} (hl : l ≠ []) (h : ∀ k ∈ l, ∃ e ∈ es, e.1 = k ∧ e.2 ∈ l) : ranksP T es n = none := by
  obtain ⟨k, hk, hm⟩ := least_of (roundsR es n) l hl
  obtain ⟨e, he, e1, e2⟩ := h k hk
  unfold ranksP
  rw [if_pos]
  exact List.any_eq_true.mpr ⟨e, he, decide_eq_true (by rw [e1]; exact hm _ e2)⟩
/-! the law's way -/
theorem notFree {es : List Ed} {left : List Str} {k : Str} (h : isFree es left k = false) : ∃ e ∈ es, e.1 = k ∧ e.2 ∈ left := by
  unfold isFree at h
  have h2 : (es.filter fun e => decide (e.1 = k) && decide (e.2 ∈ left)) ≠ [] := fun e => by rw [e] at h; cases h
  obtain ⟨e, he⟩ := List.exists_mem_of_ne_nil _ h2
  obtain ⟨h3, h4⟩ := List.mem_filter.mp he
  rw [Bool.and_eq_true, decide_eq_true_eq, decide_eq_true_eq] at h4
  exact ⟨e, h3, h4⟩
theorem free_no {es : List Ed} {left : List Str} {k : Str} (h : isFree es left k = true) : ∀ e ∈ es, e.1 = k → e.2 ∉ left := fun e he e1 e2 => by
  unfold isFree at h
  have : e ∈ (es.filter fun e => decide (e.1 = k) && decide (e.2 ∈ left)) := List.mem_filter.mpr ⟨he, by simp [e1, e2]⟩
  rw [List.isEmpty_iff.mp h] at this
  cases this
theorem rest_lt {es : List Ed} {left : List Str} (h : freeOf es left ≠ []) : (restOf es left).length < left.length := by
  obtain ⟨k, hk⟩ := List.exists_mem_of_ne_nil _ h
  have hm := (List.mem_filter.mp hk).1
  unfold restOf
  rcases Nat.lt_or_ge ((left.filter fun k => !decide (k ∈ freeOf es left)).length) left.length with h1 | h1
  · exact h1
  · have e := List.filter_eq_self.mp (List.Sublist.eq_of_length_le (List.filter_sublist) h1 : left.filter (fun k => !decide (k ∈ freeOf es left)) = left) k hm
    simp [hk] at e
theorem lawRun_none {es : List Ed} : ∀ (n : Nat) (left : List Str) (r : Str → Nat), left.length ≤ n → lawRun es n left r = none → ∃ l, l ≠ [] ∧ ∀ k ∈ l, ∃ e ∈ es, e.1 = k ∧ e.2 ∈ l
  | n, [], r, _, h => by
    unfold lawRun at h
    cases h
  | 0, k :: l, r, hn, _ => by simp at hn
  | n + 1, k :: l, r, hn, h => by
    unfold lawRun at h
    by_cases hf : freeOf es (k :: l) = []
    · refine ⟨k :: l, by simp, fun z hz => notFree ?_⟩
      have := List.filter_eq_nil_iff.mp hf z hz
      simpa using this
    · rw [if_neg hf] at h
      exact lawRun_none n _ _ (by have := rest_lt hf; omega) h
/-- what holds of the kinds that are taken away -/
structure Lev (T : List Str) (es : List Ed) (left : List Str) (r : Str → Nat) : Prop where
  sub : ∀ k ∈ left, k ∈ T
  out : ∀ k ∈ T, k ∉ left → ∀ e ∈ es, e.1 = k → e.2 ∉ left ∧ r e.2 < r k
  why : ∀ k ∈ T, k ∉ left → r k = 0 ∨ ∃ e ∈ es, e.1 = k ∧ r k = r e.2 + 1
  top : ∀ k ∈ T, k ∉ left → r k + left.length < T.length
theorem val_fold (r : Str → Nat) (k : Str) : ∀ (es : List Ed) (a : Nat), a ≤ es.foldl (valStep r k) a ∧ (∀ e ∈ es, e.1 = k → r e.2 < es.foldl (valStep r k) a) ∧ (es.foldl (valStep r k) a = a ∨ ∃ e ∈ es, e.1 = k ∧ es.foldl (valStep r k) a = r e.2 + 1)
  | [], a => ⟨Nat.le_refl _, (fun e he => nomatch he), .inl rfl⟩
  | d :: es, a => by
    obtain ⟨h1, h2, h3⟩ := val_fold r k es (valStep r k a d)
    have h0 : a ≤ valStep r k a d ∧ (d.1 = k → r d.2 < valStep r k a d) ∧ (valStep r k a d = a ∨ (d.1 = k ∧ valStep r k a d = r d.2 + 1)) := by
      unfold valStep
      by_cases c : d.1 = k ∧ a ≤ r d.2
      · rw [if_pos c]
        exact ⟨by omega, fun _ => by omega, .inr ⟨c.1, rfl⟩⟩
      · rw [if_neg c]
        refine ⟨Nat.le_refl _, fun e => ?_, .inl rfl⟩
        rcases Nat.lt_or_ge (r d.2) a with h | h
        · exact h
        · exact absurd ⟨e, h⟩ c
    refine ⟨Nat.le_trans h0.1 h1, fun e he e1 => ?_, ?_⟩
    · rcases List.mem_cons.mp he with rfl | he
      · exact Nat.lt_of_lt_of_le (h0.2.1 e1) h1
      · exact h2 e he e1
    · rcases h3 with h3 | ⟨e, he, e1, e2⟩
      · rcases h0.2.2 with h4 | ⟨e1, h4⟩
        · exact .inl (by rw [List.foldl_cons, h3, h4])
        · exact .inr ⟨d, .head _, e1, by rw [List.foldl_cons, h3, h4]⟩
      · exact .inr ⟨e, .tail _ he, e1, e2⟩
theorem free_mem {es : List Ed} {left : List Str} {k : Str} (h : k ∈ freeOf es left) : k ∈ left ∧ isFree es left k = true := List.mem_filter.mp h
theorem rest_mem {es : List Ed} {left : List Str} {k : Str} : k ∈ restOf es left ↔ k ∈ left ∧ k ∉ freeOf es left := by
  unfold restOf
  rw [List.mem_filter]
  simp
theorem Lev.next {T : List Str} {es : List Ed} {left : List Str} {r : Str → Nat} (L : Lev T es left r) (hT : ∀ e ∈ es, e.1 ∈ T ∧ e.2 ∈ T) (hf : freeOf es left ≠ []) (h0 : left = T ∨ True) (hlen : left.length ≤ T.length) : Lev T es (restOf es left) (nextR es left r) := by
  have hlt := rest_lt hf
  have old : ∀ k, k ∉ left → nextR es left r k = r k := fun k hk => if_neg fun h => hk (free_mem h).1
  refine ⟨fun k hk => L.sub k (rest_mem.mp hk).1, fun k hk hn e he e1 => ?_, fun k hk hn => ?_, fun k hk hn => ?_⟩
  · by_cases hfr : k ∈ freeOf es left
    · have h2 := free_no (free_mem hfr).2 e he e1
      refine ⟨fun h => h2 (rest_mem.mp h).1, ?_⟩
      rw [old _ h2]
      show r e.2 < if k ∈ freeOf es left then valOf es r k else r k
      rw [if_pos hfr]
      exact (val_fold r k es 0).2.1 e he e1
    · have hk2 : k ∉ left := fun h => hn (rest_mem.mpr ⟨h, hfr⟩)
      obtain ⟨h2, h3⟩ := L.out k hk hk2 e he e1
      refine ⟨fun h => h2 (rest_mem.mp h).1, ?_⟩
      rw [old _ h2, old _ hk2]
      exact h3
  · by_cases hfr : k ∈ freeOf es left
    · have ev : nextR es left r k = valOf es r k := if_pos hfr
      rw [ev]
      rcases (val_fold r k es 0).2.2 with h | ⟨e, he, e1, e2⟩
      · exact .inl h
      · refine .inr ⟨e, he, e1, ?_⟩
        rw [old _ (free_no (free_mem hfr).2 e he e1)]
        exact e2
    · have hk2 : k ∉ left := fun h => hn (rest_mem.mpr ⟨h, hfr⟩)
      rcases L.why k hk hk2 with h | ⟨e, he, e1, e2⟩
      · exact .inl (by rw [old _ hk2]; exact h)
      · exact .inr ⟨e, he, e1, by rw [old _ hk2, old _ (L.out k hk hk2 e he e1).1]; exact e2⟩
  · by_cases hfr : k ∈ freeOf es left
    · have ev : nextR es left r k = valOf es r k := if_pos hfr
      rw [ev]
      rcases (val_fold r k es 0).2.2 with h | ⟨e, he, e1, e2⟩
      · have h' : valOf es r k = 0 := h
        rw [h']
        omega
      · have h2 := free_no (free_mem hfr).2 e he e1
        have h3 := L.top e.2 (hT e he).2 h2
        have h' : valOf es r k = r e.2 + 1 := e2
        rw [h']
        omega
    · have hk2 : k ∉ left := fun h => hn (rest_mem.mpr ⟨h, hfr⟩)
      have h3 := L.top k hk hk2
      rw [old _ hk2]
      omega
theorem lawRun_some {T : List Str} {es : List Ed} (hT : ∀ e ∈ es, e.1 ∈ T ∧ e.2 ∈ T) : ∀ (n : Nat) (left : List Str) (r r' : Str → Nat), Lev T es left r → left.length ≤ T.length → lawRun es n left r = some r' → Lev T es [] r'
  | n, [], r, r', L, _, h => by
    unfold lawRun at h
    cases h
    exact L
  | 0, k :: l, r, r', _, _, h => by
    unfold lawRun at h
    cases h
  | n + 1, k :: l, r, r', L, hl, h => by
    unfold lawRun at h
    by_cases hf : freeOf es (k :: l) = []
    · rw [if_pos hf] at h
      cases h
    · rw [if_neg hf] at h
      exact lawRun_some hT n _ _ _ (L.next hT hf (.inr trivial) hl) (by have := rest_lt hf; omega) h
/-- THE TWO WAYS tell the same -/
theorem ranks_same {T : List Str} {es : List Ed} {n : Nat} (hT : ∀ e ∈ es, e.1 ∈ T ∧ e.2 ∈ T) (hn : T.length ≤ n) : ranksL T es = ranksP T es n := by
  unfold ranksL
  cases h : lawRun es T.length T fun _ => 0 with
  | none =>
    obtain ⟨l, hl, hc⟩ := lawRun_none _ _ _ (Nat.le_refl _) h
    rw [ranksP_none hl hc]
    rfl
  | some r =>
    have L := lawRun_some hT _ _ _ _ (show Lev T es T fun _ => 0 from ⟨fun _ h => h, fun k hk hn => absurd hk hn, fun k hk hn => absurd hk hn, fun k hk hn => absurd hk hn⟩) (Nat.le_refl _) h
    have R : IsRank T es r := ⟨fun e he => (L.out e.1 (hT e he).1 (by simp) e he rfl).2, fun k hk => L.why k hk (by simp)⟩
    rw [ranksP_of R hT fun k hk => by have := L.top k hk (by simp); omega]
    rfl
end Ls
namespace Ls
open PySem PySem.Spec PyProof.Rows L2
/-! ### a dict of texts and numbers, as a list of keys and a way to reckon the number -/
def tabV (T : List Str) (f : Str → Nat) : List (Key × V) := T.map fun k => (Sum.inr k, V.int ((f k : Nat) : Int))
theorem tabV_len (T : List Str) (f : Str → Nat) : (tabV T f).length = T.length := by unfold tabV; rw [List.length_map]
theorem tabV_val : ∀ {T : List Str} {f : Str → Nat} {z : Str}, z ∈ T → valV (tabV T f) (Sum.inr z) = some (V.int ((f z : Nat) : Int))
  | k :: T, f, z, h => by
    unfold tabV
    rw [List.map_cons]
    by_cases e : k = z
    · rw [valV_pos (show (Sum.inr k : Key) = Sum.inr z by rw [e]), e]
    · rw [valV_neg (fun h => e (Sum.inr.inj h))]
      exact tabV_val (List.mem_of_ne_of_mem (fun h => e h.symm) h)
theorem tabV_no : ∀ {T : List Str} {f : Str → Nat} {z : Str}, z ∉ T → valV (tabV T f) (Sum.inr z) = none
  | [], _, _, _ => rfl
  | k :: T, f, z, h => by
    unfold tabV
    rw [List.map_cons, valV_neg (fun e => h (by rw [Sum.inr.inj e]; exact .head _))]
    exact tabV_no (fun h2 => h (.tail _ h2))
theorem tabV_put {T : List Str} {f : Str → Nat} {z : Str} (h : z ∈ T) (m : Nat) : putK (tabV T f) (Sum.inr z) (V.int ((m : Nat) : Int)) = tabV T (fun y => if y = z then m else f y) := by
  unfold putK
  rw [valV_any, tabV_val h]
  simp only [Option.isSome_some, if_true]
  unfold tabV
  rw [List.map_map]
  refine List.map_congr_left fun y _ => ?_
  show (if (Sum.inr y : Key) = Sum.inr z then _ else _) = _
  by_cases e : y = z
  · subst e
    rw [if_pos rfl]
    show _ = (Sum.inr y, V.int (((if y = y then m else f y : Nat)) : Int))
    rw [if_pos rfl]
  · rw [if_neg (fun h => e (Sum.inr.inj h))]
    show _ = (Sum.inr y, V.int (((if y = z then m else f y : Nat)) : Int))
    rw [if_neg e]
theorem tabV_new {T : List Str} {f : Str → Nat} {z : Str} (h : z ∉ T) {m : Nat} (hm : f z = m) : putK (tabV T f) (Sum.inr z) (V.int ((m : Nat) : Int)) = tabV (T ++ [z]) f := by
  rw [putK_new _ (tabV_no h), ← hm]
  unfold tabV
  rw [List.map_append]
  rfl
/-- a dict comprehension over anything that is walked -/
theorem dc_walk {J : It} {n : Nat} {G : Hp → Prop} {Y : Nat → Hp → V → Hp → Prop} (w : Walk J n G Y) {g : TG} {tt : TT} {tk tv : TE} {vs : List Nat} {σ : L2.St} {H1 : Hp} {D : Addr} {Qd : Hp → Prop} (Pv : Nat → Hp → Prop) (h0 : Pv 0 (upd H1 D (.dK []))) (hl : ∀ i H, i ≤ n → Pv i H → G H)
    (hs : ∀ i x H H', i < n → Pv i H → Y i H x H' → g x (wipe σ vs) H' fun σ2 H2 => wipe σ2 vs = wipe σ vs ∧ tt σ2 H2 fun b H3 =>
      if b = true then tk σ2 H3 fun y H4 => tv σ2 H4 fun z H5 => ∃ kvs k, y = kV k ∧ H5 D = some (.dK kvs) ∧ kvs.length < sizeLine ∧ Pv (i + 1) (upd H5 D (.dK (putK kvs k z))) else Pv (i + 1) H3) (hd : ∀ H, Pv n H → Qd H) :
    ∃ W : Nat → Nat → Hp → Prop, (∃ m, W 0 m (upd H1 D (.dK []))) ∧ ∀ i m H, W i m H →
      (J.stop i H ∧ Qd H) ∨ (J.go i H ∧ ∃ Nx : Hp → Prop, (∀ H', Nx H' → ∃ m', m' < m ∧ W (i + 1) m' H') ∧ ∀ x H', J.yld i H x H' → g x (wipe σ vs) H' fun σ2 H2 => wipe σ2 vs = wipe σ vs ∧ tt σ2 H2 fun b H3 =>
        if b = true then tk σ2 H3 fun y H4 => tv σ2 H4 fun z H5 => ∃ kvs k, y = kV k ∧ H5 D = some (.dK kvs) ∧ kvs.length < sizeLine ∧ Nx (upd H5 D (.dK (putK kvs k z))) else Nx H3) := by
  refine ⟨fun i m H => m = n - i ∧ i ≤ n ∧ Pv i H, ⟨n, by simp, Nat.zero_le _, h0⟩, ?_⟩
  rintro i m H ⟨rfl, hi, p⟩
  have q := hl i H hi p
  by_cases hlt : i < n
  · exact .inr ⟨w.goes i H hlt q, Pv (i + 1), fun H' p' => ⟨n - (i + 1), by omega, rfl, hlt, p'⟩, fun x H' y => hs i x H H' hlt p (w.yields i H x H' hlt q y)⟩
  · have e : i = n := by omega
    subst e
    exact .inl ⟨w.stops H q, hd H p⟩
end Ls
namespace Ls
open PySem PySem.Spec PyProof.Rows L2
/-! ### a dict that is made of pairs with other keys -/
theorem merge_new : ∀ (more acc : List (Key × V)), (more.map (·.1)).Nodup → (∀ p ∈ more, valV acc p.1 = none) → mergeK acc more = acc ++ more
  | [], acc, _, _ => by rw [List.append_nil]; rfl
  | p :: r, acc, h, n => by
    obtain ⟨h1, h2⟩ := List.nodup_cons.mp h
    have e : mergeK acc (p :: r) = mergeK (putK acc p.1 p.2) r := rfl
    have np := n p (.head _)
    rw [e, putK_new _ np, merge_new r _ h2 (fun q hq => ?_), List.append_assoc]
    · rfl
    · rw [valV_snoc _ _ _ _ np, if_neg (fun e2 : q.1 = p.1 => h1 (by have z := List.mem_map_of_mem (f := fun p : Key × V => p.1) hq; rw [e2] at z; exact z))]
      exact n q (.tail _ hq)
theorem merge_nd {l : List (Key × V)} (h : (l.map (·.1)).Nodup) : mergeK [] l = l := merge_new l [] h fun _ _ => rfl
/-- dict(pairs) inside a comprehension -/
theorem dict_of {X : Cx} (K : PySem.W.Frag) (h : X.K = K := by rfl) (hc : X.calm = true := by rfl) : CallR X (.type "dict") (fun xs H Q => ∃ (a : Addr) (ps : List Addr) (kvs : List (Key × V)), xs = [.ref a] ∧ SqL K H a (ps.map V.ref) ∧ Paired (fun p kv => SqT K H p [kV kv.1, kv.2]) ps kvs ∧ ∀ p, H p = none → Q (.ref p) (upd H p (.dK (mergeK [] kvs)))) := by
  subst h
  exact call_dictP hc
/-! ### an instance that gets its fields: what has been laid down beside it -/
structure Fld (o C dx : Addr) (H0 : Hp) (fs : List (Str × V)) (L : List (Addr × HO)) (H : Hp) : Prop where
  ins : H o = some (.ins C dx fs)
  but : ∀ b u, b ≠ o → H0 b = some u → H b = some u
  at_ : ∀ p ∈ L, H p.1 = some p.2
  nin : ∀ p ∈ L, ∀ C dx fs, p.2 ≠ .ins C dx fs
section
variable {o C dx : Addr} {H0 H H' : Hp} {fs : List (Str × V)} {L : List (Addr × HO)}
theorem Fld.start (h : H0 o = some (.ins C dx fs)) : Fld o C dx H0 fs [] H0 := ⟨h, (fun _ _ _ e => e), (fun _ m => nomatch m), (fun _ m => nomatch m)⟩
theorem Fld.same (f : Fld o C dx H0 fs L H) (s : Same H H') : Fld o C dx H0 fs L H' := ⟨s _ _ f.ins, fun b u n e => s _ _ (f.but b u n e), fun p m => s _ _ (f.at_ p m), f.nin⟩
theorem Fld.add (f : Fld o C dx H0 fs L H) {a : Addr} {x : HO} (h : H a = some x) (n : ∀ C dx fs, x ≠ .ins C dx fs) : Fld o C dx H0 fs ((a, x) :: L) H :=
  ⟨f.ins, f.but, fun p m => (List.mem_cons.mp m).elim (fun e => by rw [e]; exact h) (f.at_ p), fun p m => (List.mem_cons.mp m).elim (fun e => by rw [e]; exact n) (f.nin p)⟩
theorem Fld.new (f : Fld o C dx H0 fs L H) {a : Addr} {x : HO} (h : H a = none) (n : ∀ C dx fs, x ≠ .ins C dx fs) : Fld o C dx H0 fs ((a, x) :: L) (upd H a x) := (f.same (same_new h)).add upd_same n
theorem Fld.set (f : Fld o C dx H0 fs L H) {fs2 : List (Str × V)} : Fld o C dx H0 fs2 L (upd H o (.ins C dx fs2)) := by
  have ne : ∀ {b : Addr} {u : HO}, (∀ C dx fs, u ≠ .ins C dx fs) → H b = some u → b ≠ o := fun {b u} n e e2 => by
    rw [e2, f.ins] at e
    cases e
    exact n _ _ _ rfl
  exact ⟨upd_same, fun b u n e => by rw [upd_ne n]; exact f.but b u n e, fun p m => by rw [upd_ne (ne (f.nin p m) (f.at_ p m))]; exact f.at_ p m, f.nin⟩
end
end Ls
namespace Ls
open PySem PySem.Spec PyProof.Rows L2
/-! ### len, in, == and operators by methods of the module's own -/
section
variable {X : Cx} {k j : Nat} {C : Addr} {ps : List Str} {sp : Sp} {m : Str}
/-- a method runs at X.A or one call deeper -/
theorem run_ownM (O : OwnM X.prog X.w X.K X.mg X.base CX0 k C m ps sp) {A : Around} (hr : Room k A) {pins : List (Addr × Obj)} {σ : L2.St} {H : Hp} {s : Shared} {Q : VK} {us : List Value} {vs : List V} (I : Inv X pins σ H s)
    (e0 : Env0 X.prog X.w X.K X.mg X.base A X.stack s H) (r : Vals vs us) (q : sp vs H Q E0) {R : Value → Shared → Prop} {E : Value → Shared → Prop} (hR : ∀ v s', EP X pins σ Q v s' → R v s') (f : Addr) (hf : Meth X.K C m f) :
    wpAny (model X.prog X.w) A (call (.ref f) us) R E s := by
  obtain ⟨f2, fd, F, me, b⟩ := O.ex
  have ef : f2 = f := by
    have h1 := me.at_
    have h2 := hf.at_
    rw [h1] at h2
    cases h2
    rfl
  subst ef
  have hb := b s us I.kIn (by rw [List.append_nil, ← r.length]; exact F.len _ _ _ _ q)
  rw [List.append_nil] at hb
  refine wpAny_call (codeAny_mono (F.run A X.stack s H ⟨us, []⟩ us vs Q E0 hr e0 hb r q) fun r s' hq => ?_)
  cases r with
  | error e => exact False.elim hq
  | ok fl =>
    cases fl with
    | ret w => exact hR _ _ (I.after hq)
    | next => exact False.elim hq
    | brk => exact False.elim hq
    | cont => exact False.elim hq
def rLenO (C : Addr) (sp : Sp) : List V → Hp → VK → Prop := fun xs H Q => ∃ a dx fs, xs = [.ref a] ∧ H a = some (.ins C dx fs) ∧ sp [.ref a] H (fun v H' => ∃ n : Int, v = .int n ∧ 0 ≤ n ∧ n < 2 ^ 63 ∧ Q v H') E0
theorem call_lenO (O : OwnM X.prog X.w X.K X.mg X.base CX0 k C "__len__" ps sp) (hr : Room j X.A) (hkj : k + 1 ≤ j) : CallR X (.builtin "len") (rLenO C sp) := by
  intro pins s σ H xs us Q I r h
  obtain ⟨a, dx, fs, rfl, ha, q⟩ := h
  obtain ⟨u, rfl, ru⟩ := r.one
  cases ru
  obtain ⟨f, fd, F, me, b⟩ := O.ex
  obtain ⟨mA, J, _⟩ := ins_get I.hok ha
  obtain ⟨od, J, _⟩ := J.look
  obtain ⟨m, hF⟩ := I.fr
  refine PySem.W.len_K hF I.ok.mod.kin J me.at_ me.fn ?_
  refine run_ownM O (hr.mono hkj).in1 I I.env0.in1 (us := [Value.ref a]) (vs := [V.ref a]) (.cons rfl .nil) q (fun v s' z => ?_) f me
  obtain ⟨z', H', I', rz, n, ez, h0, h1, qz⟩ := z
  subst ez
  obtain ⟨t, rfl⟩ := rz
  exact ⟨⟨h0, h1⟩, ⟨.int n, H', I'.tok _, ⟨_, rfl⟩, qz⟩⟩
def rInO (C : Addr) (sp : Sp) : R2 := fun x y H Q => ∃ a dx fs, y = .ref a ∧ H a = some (.ins C dx fs) ∧ sp [.ref a, x] H (fun v H' => ∃ b : Bool, v = .bl b ∧ Q v H') E0
theorem op_inO (O : OwnM X.prog X.w X.K X.mg X.base CX0 k C "__contains__" ps sp) (hr : Room j X.A) (hkj : k ≤ j) : OpR X (compareOp .In) (rInO C sp) := by
  intro pins s σ H x y v u Q I rx ry h
  obtain ⟨a, dx, fs, rfl, ha, q⟩ := h
  cases ry
  obtain ⟨f, fd, F, me, b⟩ := O.ex
  obtain ⟨mA, J, _⟩ := ins_get I.hok ha
  obtain ⟨od, J, _⟩ := J.look
  obtain ⟨m, hF⟩ := I.fr
  refine PySem.W.in_K hF I.ok.mod.kin J me.at_ me.fn ?_
  refine run_ownM O (hr.mono hkj) I I.env0 (us := [Value.ref a, v]) (vs := [V.ref a, x]) (.cons rfl (.cons rx .nil)) q (fun v s' z => ?_) f me
  obtain ⟨z', H', I', rz, n, ez, qz⟩ := z
  subst ez
  cases rz
  exact wpAny_pure ⟨.bl n, H', I', rfl, qz⟩
def rNotInO (C : Addr) (sp : Sp) : R2 := fun x y H Q => ∃ a dx fs, y = .ref a ∧ H a = some (.ins C dx fs) ∧ sp [.ref a, x] H (fun v H' => ∃ b : Bool, v = .bl b ∧ Q (.bl (!b)) H') E0
theorem op_notInO (O : OwnM X.prog X.w X.K X.mg X.base CX0 k C "__contains__" ps sp) (hr : Room j X.A) (hkj : k ≤ j) : OpR X (compareOp .NotIn) (rNotInO C sp) := by
  intro pins s σ H x y v u Q I rx ry h
  obtain ⟨a, dx, fs, rfl, ha, q⟩ := h
  cases ry
  obtain ⟨f, fd, F, me, b⟩ := O.ex
  obtain ⟨mA, J, _⟩ := ins_get I.hok ha
  obtain ⟨od, J, _⟩ := J.look
  obtain ⟨m, hF⟩ := I.fr
  refine PySem.W.notIn_K hF I.ok.mod.kin J me.at_ me.fn ?_
  refine run_ownM O (hr.mono hkj) I I.env0 (us := [Value.ref a, v]) (vs := [V.ref a, x]) (.cons rfl (.cons rx .nil)) q (fun v s' z => ?_) f me
  obtain ⟨z', H', I', rz, n, ez, qz⟩ := z
  subst ez
  cases rz
  exact wpAny_pure ⟨.bl (!n), H', I', rfl, qz⟩
/-- x op y by x's own method: y an instance of the same class -/
def rCmpO (C : Addr) (sp : Sp) : R2 := fun x y H Q => ∃ a dx fs b dy gs, x = .ref a ∧ y = .ref b ∧ H a = some (.ins C dx fs) ∧ H b = some (.ins C dy gs) ∧ sp [.ref a, .ref b] H (fun v H' => ∃ b : Bool, v = .bl b ∧ Q v H') E0
theorem op_cmpO {op : CmpOp} (O : OwnM X.prog X.w X.K X.mg X.base CX0 k C (cmpInfo op).2.1 ps sp) (hop : ∀ a b, compareOp op a b = richCompare op a b) (hr : Room j X.A) (hkj : k ≤ j) : OpR X (compareOp op) (rCmpO C sp) := by
  intro pins s σ H x y v u Q I rx ry h
  obtain ⟨a, dx, fs, b, dy, gs, rfl, rfl, ha, hb, q⟩ := h
  cases rx
  cases ry
  obtain ⟨f, fd, F, me, bb⟩ := O.ex
  obtain ⟨mA, J, _⟩ := ins_get I.hok ha
  obtain ⟨mB, J', _⟩ := ins_get I.hok hb
  obtain ⟨od, J, _⟩ := J.look
  obtain ⟨od', J', _⟩ := J'.look
  obtain ⟨m, hF⟩ := I.fr
  rw [hop]
  refine PySem.W.cmp_K (op := op) (tb := .ref C) (hr.mono hkj).units0 hF I.ok.mod.kin J J'.type (by simp [PySem.W.notFirst]) me.at_ me.fn ?_
  refine run_ownM O (hr.mono hkj) I I.env0 (us := [Value.ref a, Value.ref b]) (vs := [V.ref a, V.ref b]) (.cons rfl (.cons rfl .nil)) q (fun v s' z => ?_) f me
  obtain ⟨z', H', I', rz, n, ez, qz⟩ := z
  subst ez
  cases rz
  exact ⟨.bl n, H', I', rfl, qz⟩
end
end Ls
namespace AL
open PySem PySem.Spec PyProof.Rows L2 Ls
/-! ### built-ins that are called -/
def COk (K : PySem.W.Frag) (r : List V → Hp → VK → Prop) (A : List Dat → AS → (Dat → AS → Prop) → Prop) : Prop :=
  ∀ (F : AS) (Hf H : Hp) (s : AS) (xs : List V) (ds : List Dat) (Q : Dat → AS → Prop) (Qc : VK), Rep K F Hf H s → Ats K Hf xs ds → LQ K F Hf Q Qc → A ds s Q → r xs H Qc
section
variable {e : Ec} {γ γ' : Ga} {s s' : AS} {ta tb tc te tv tl tk to : TE} {tA : TA} {Q Q' : Dat → AS → Prop} {Qs : List Dat → AS → Prop} {D : AD}
theorem g_cb {r : List V → Hp → VK → Prop} {A : List Dat → AS → (Dat → AS → Prop) → Prop} (hr : COk e.K r A) (h : GA e tA γ s fun ds s1 => A ds s1 Q) : GE e (tCB r tA) γ s Q := fun F Hf H σ R S X Qc L =>
  h F Hf H σ R S X _ fun xs ds Hf1 H1 s1 m1 R1 a1 q => hr F Hf1 H1 s1 xs ds Q Qc R1 a1 (L.same m1) q
variable {K : PySem.W.Frag}
theorem ats1 {Hf : Hp} {xs : List V} {d : Dat} (a : Ats K Hf xs [d]) : ∃ v, xs = [v] ∧ At K Hf v d := by
  cases a with
  | cons x r =>
    cases r
    exact ⟨_, rfl, x⟩
theorem ats2 {Hf : Hp} {xs : List V} {d d2 : Dat} (a : Ats K Hf xs [d, d2]) : ∃ v w, xs = [v, w] ∧ At K Hf v d ∧ At K Hf w d2 := by
  cases a with
  | cons x r =>
    obtain ⟨w, rfl, y⟩ := ats1 r
    exact ⟨_, w, rfl, x, y⟩
theorem co_len : COk K (fun xs H Q => ∃ p ys, xs = [.ref p] ∧ (SqL K H p ys ∨ SqT K H p ys) ∧ Q (.int ys.length) H) (fun ds s Q => ∃ d xs, ds = [d] ∧ SeqD s d xs ∧ Q (.int xs.length) s) := by
  rintro F Hf H s xs ds Q Qc R a L ⟨d, zs, rfl, h, q⟩
  obtain ⟨v, rfl, av⟩ := ats1 a
  obtain ⟨p, ys, rfl, h1, h2⟩ := h.sq R av
  refine ⟨p, ys, rfl, h1, ?_⟩
  rw [h2.len]
  exact L _ _ Hf H s (Same.refl _) R (.int _) q
theorem co_lenS : COk K (fun xs H Q => ∃ z, xs = [.str z] ∧ z.length ≤ sizeLine ∧ Q (.int z.length) H) (fun ds s Q => ∃ z, ds = [.str z] ∧ z.length ≤ sizeLine ∧ Q (.int z.length) s) := by
  rintro F Hf H s xs ds Q Qc R a L ⟨z, rfl, h, q⟩
  obtain ⟨v, rfl, av⟩ := ats1 a
  cases av
  exact ⟨z, rfl, h, L _ _ Hf H s (Same.refl _) R (.int _) q⟩
/-- a dict -/
def DicD (s : AS) (d : Dat) (es : List (Key × Dat)) : Prop := d = .dK es ∨ ∃ p, d = .ref p ∧ s p = some (.raw (.dK es))
def DicT (s : AS) (d : Dat) (es : List (List Key × Dat)) : Prop := d = .dT es ∨ ∃ p, d = .ref p ∧ s p = some (.raw (.dT es))
theorem DicD.get {F : AS} {Hf H : Hp} {v : V} {d : Dat} {es : List (Key × Dat)} (h : DicD s d es) (R : Rep K F Hf H s) (a : At K Hf v d) : ∃ p kvs, v = .ref p ∧ H p = some (.dK kvs) ∧ kvs.map (·.1) = es.map (·.1) ∧ Ats K Hf (kvs.map (·.2)) (es.map (·.2)) := by
  rcases h with rfl | ⟨p, rfl, h⟩
  · cases a with
    | dK h1 h2 h3 => exact ⟨_, _, rfl, R.sub _ _ h1, h2, h3⟩
  · cases a
    obtain ⟨ho, h1, kvs, rfl, h2, h3⟩ := R.read h
    exact ⟨p, kvs, rfl, h1, h2, h3⟩
theorem DicT.get {F : AS} {Hf H : Hp} {v : V} {d : Dat} {es : List (List Key × Dat)} (h : DicT s d es) (R : Rep K F Hf H s) (a : At K Hf v d) : ∃ p kvs, v = .ref p ∧ H p = some (.dT kvs) ∧ kvs.map (·.1) = es.map (·.1) ∧ Ats K Hf (kvs.map (·.2)) (es.map (·.2)) := by
  rcases h with rfl | ⟨p, rfl, h⟩
  · cases a with
    | dT h1 h2 h3 => exact ⟨_, _, rfl, R.sub _ _ h1, h2, h3⟩
  · cases a
    obtain ⟨ho, h1, kvs, rfl, h2, h3⟩ := R.read h
    exact ⟨p, kvs, rfl, h1, h2, h3⟩
/-- a dict that is read, locked or not -/
def DicR (s : AS) (d : Dat) (es : List (Key × Dat)) : Prop := DicD s d es ∨ ∃ p o u, d = .ref p ∧ s p = some (.raw (.frz o u (.dK es)))
def DicTR (s : AS) (d : Dat) (es : List (List Key × Dat)) : Prop := DicT s d es ∨ ∃ p o u, d = .ref p ∧ s p = some (.raw (.frz o u (.dT es)))
theorem DicR.get {F : AS} {Hf H : Hp} {v : V} {d : Dat} {es : List (Key × Dat)} (h : DicR s d es) (R : Rep K F Hf H s) (a : At K Hf v d) : ∃ p kvs, v = .ref p ∧ Rd H p (.dK kvs) ∧ kvs.map (·.1) = es.map (·.1) ∧ Ats K Hf (kvs.map (·.2)) (es.map (·.2)) := by
  rcases h with h | ⟨p, o, u, rfl, h⟩
  · obtain ⟨p, kvs, e, h1, h2⟩ := h.get R a
    exact ⟨p, kvs, e, .inl h1, h2⟩
  · cases a
    obtain ⟨ho, h1, rfl, kvs, rfl, h2, h3⟩ := R.read h
    exact ⟨p, kvs, rfl, .inr ⟨o, h1⟩, h2, h3⟩
theorem DicTR.get {F : AS} {Hf H : Hp} {v : V} {d : Dat} {es : List (List Key × Dat)} (h : DicTR s d es) (R : Rep K F Hf H s) (a : At K Hf v d) : ∃ p kvs, v = .ref p ∧ Rd H p (.dT kvs) ∧ kvs.map (·.1) = es.map (·.1) ∧ Ats K Hf (kvs.map (·.2)) (es.map (·.2)) := by
  rcases h with h | ⟨p, o, u, rfl, h⟩
  · obtain ⟨p, kvs, e, h1, h2⟩ := h.get R a
    exact ⟨p, kvs, e, .inl h1, h2⟩
  · cases a
    obtain ⟨ho, h1, rfl, kvs, rfl, h2, h3⟩ := R.read h
    exact ⟨p, kvs, rfl, .inr ⟨o, h1⟩, h2, h3⟩
theorem co_lenD : COk K (fun xs H Q => ∃ a kvs, xs = [V.ref a] ∧ H a = some (.dK kvs) ∧ Q (.int kvs.length) H) (fun ds s Q => ∃ d es, ds = [d] ∧ DicD s d es ∧ Q (.int es.length) s) := by
  rintro F Hf H s xs ds Q Qc R a L ⟨d, es, rfl, h, q⟩
  obtain ⟨v, rfl, av⟩ := ats1 a
  obtain ⟨p, kvs, rfl, h1, h2, h3⟩ := h.get R av
  refine ⟨p, kvs, rfl, h1, ?_⟩
  have : kvs.length = es.length := by have := congrArg List.length h2; rw [List.length_map, List.length_map] at this; exact this
  rw [this]
  exact L _ _ Hf H s (Same.refl _) R (.int _) q
theorem co_int1 : COk K (fun xs H Q => (∃ i, xs = [.int i] ∧ Q (.int i) H) ∨ ∃ k, xs = [.bl k] ∧ Q (.int (if k then 1 else 0)) H) (fun ds s Q => (∃ i, ds = [.int i] ∧ Q (.int i) s) ∨ ∃ k, ds = [.bl k] ∧ Q (.int (if k then 1 else 0)) s) := by
  rintro F Hf H s xs ds Q Qc R a L (⟨i, rfl, q⟩ | ⟨i, rfl, q⟩)
  · obtain ⟨v, rfl, av⟩ := ats1 a
    cases av
    exact .inl ⟨i, rfl, L _ _ Hf H s (Same.refl _) R (.int _) q⟩
  · obtain ⟨v, rfl, av⟩ := ats1 a
    cases av
    exact .inr ⟨i, rfl, L _ _ Hf H s (Same.refl _) R (.int _) q⟩
theorem co_intS : COk K (fun xs H Q => ∃ a n, xs = [.str a] ∧ PySem.intText? a = some n ∧ a.length ≤ 640 ∧ Q (.int n) H) (fun ds s Q => ∃ a n, ds = [.str a] ∧ PySem.intText? a = some n ∧ a.length ≤ 640 ∧ Q (.int n) s) := by
  rintro F Hf H s xs ds Q Qc R a L ⟨z, n, rfl, h1, h2, q⟩
  obtain ⟨v, rfl, av⟩ := ats1 a
  cases av
  exact ⟨z, n, rfl, h1, h2, L _ _ Hf H s (Same.refl _) R (.int _) q⟩
theorem co_strI : COk K (fun xs H Q => ∃ i, xs = [.int i] ∧ i.natAbs.log2 < 1920 ∧ Q (.str (toString i)) H) (fun ds s Q => ∃ i, ds = [.int i] ∧ i.natAbs.log2 < 1920 ∧ Q (.str (toString i)) s) := by
  rintro F Hf H s xs ds Q Qc R a L ⟨i, rfl, h, q⟩
  obtain ⟨v, rfl, av⟩ := ats1 a
  cases av
  exact ⟨i, rfl, h, L _ _ Hf H s (Same.refl _) R (.str _) q⟩
theorem co_strS : COk K (fun xs H Q => ∃ a, xs = [.str a] ∧ Q (.str a) H) (fun ds s Q => ∃ a, ds = [.str a] ∧ Q (.str a) s) := by
  rintro F Hf H s xs ds Q Qc R a L ⟨i, rfl, q⟩
  obtain ⟨v, rfl, av⟩ := ats1 a
  cases av
  exact ⟨i, rfl, L _ _ Hf H s (Same.refl _) R (.str _) q⟩
/-- list(..): one that nobody changes -/
theorem co_list : COk K (fun xs H Q => ∃ p ys, xs = [.ref p] ∧ (SqL K H p ys ∨ SqT K H p ys) ∧ ∀ l, H l = none → Q (.ref l) (upd H l (.lst ys))) (fun ds s Q => ∃ d xs, ds = [d] ∧ SeqD s d xs ∧ Q (.lst xs) s) := by
  rintro F Hf H s xs ds Q Qc R a L ⟨d, zs, rfl, h, q⟩
  obtain ⟨v, rfl, av⟩ := ats1 a
  obtain ⟨p, ys, rfl, h1, h2⟩ := h.sq R av
  refine ⟨p, ys, rfl, h1, fun l hl => ?_⟩
  obtain ⟨R2, m⟩ := R.grow hl (.lst ys)
  exact L _ _ _ _ s m R2 (.lst upd_same (h2.same m)) q
/-- list(..): one's own -/
theorem co_listM : COk K (fun xs H Q => ∃ p ys, xs = [.ref p] ∧ (SqL K H p ys ∨ SqT K H p ys) ∧ ∀ l, H l = none → Q (.ref l) (upd H l (.lst ys))) (fun ds s Q => ∃ d xs, ds = [d] ∧ SeqD s d xs ∧ ∀ p, s p = none → Q (.ref p) (supd s p (.raw (.lst xs)))) := by
  rintro F Hf H s xs ds Q Qc R a L ⟨d, zs, rfl, h, q⟩
  obtain ⟨v, rfl, av⟩ := ats1 a
  obtain ⟨p, ys, rfl, h1, h2⟩ := h.sq R av
  refine ⟨p, ys, rfl, h1, fun l hl => ?_⟩
  exact L _ _ Hf _ _ (Same.refl _) (R.new hl (w := .lst zs) ⟨ys, rfl, h2⟩) (.ref l) (q l (R.free hl).1)
theorem co_tuple : COk K (fun xs H Q => ∃ p ys, xs = [.ref p] ∧ ((SqL K H p ys ∧ ∀ l, H l = none → Q (.ref l) (upd H l (.tup ys))) ∨ (SqT K H p ys ∧ Q (.ref p) H))) (fun ds s Q => ∃ d xs, ds = [d] ∧ (LstD s d xs ∨ d = .tup xs) ∧ Q (.tup xs) s) := by
  rintro F Hf H s xs ds Q Qc R a L ⟨d, zs, rfl, h, q⟩
  obtain ⟨v, rfl, av⟩ := ats1 a
  rcases h with h | rfl
  · obtain ⟨p, ys, rfl, h1, h2⟩ := h.sq R av
    refine ⟨p, ys, rfl, .inl ⟨SqL.of h1, fun l hl => ?_⟩⟩
    obtain ⟨R2, m⟩ := R.grow hl (.tup ys)
    exact L _ _ _ _ s m R2 (.tup upd_same (h2.same m)) q
  · cases av with
    | tup h1 h2 => exact ⟨_, _, rfl, .inr ⟨SqT.of (R.sub _ _ h1), L _ _ Hf H s (Same.refl _) R (.tup h1 h2) q⟩⟩
theorem co_all : COk K (rAll K) (fun ds s Q => ∃ (d : Dat) (bs : List Bool), ds = [d] ∧ LstD s d (bs.map Dat.bl) ∧ Q (.bl (bs.all id)) s) := by
  rintro F Hf H s xs ds Q Qc R a L ⟨d, bs, rfl, h, q⟩
  obtain ⟨v, rfl, av⟩ := ats1 a
  obtain ⟨p, ys, rfl, h1, h2⟩ := h.sq R av
  rw [ats_bls_inv h2] at h1
  exact ⟨p, bs, rfl, SqL.of h1, L _ _ Hf H s (Same.refl _) R (.bl _) q⟩
theorem co_any : COk K (rAny K) (fun ds s Q => ∃ (d : Dat) (bs : List Bool), ds = [d] ∧ LstD s d (bs.map Dat.bl) ∧ Q (.bl (bs.any id)) s) := by
  rintro F Hf H s xs ds Q Qc R a L ⟨d, bs, rfl, h, q⟩
  obtain ⟨v, rfl, av⟩ := ats1 a
  obtain ⟨p, ys, rfl, h1, h2⟩ := h.sq R av
  rw [ats_bls_inv h2] at h1
  exact ⟨p, bs, rfl, SqL.of h1, L _ _ Hf H s (Same.refl _) R (.bl _) q⟩
/-- the name of a thing's type -/
def TyD (s : AS) (d : Dat) (n : String) : Prop := match d with
  | .non => n = "NoneType" | .bl _ => n = "bool" | .int _ => n = "int" | .str _ => n = "str" | .lst _ => n = "list" | .tup _ => n = "tuple" | .dK _ => n = "dict" | .dT _ => n = "dict"
  | .ref p => (n = "list" ∧ ∃ xs, s p = some (.raw (.lst xs))) ∨ (n = "dict" ∧ ((∃ es, s p = some (.raw (.dK es))) ∨ ∃ es, s p = some (.raw (.dT es))))
  | _ => False
theorem TyD.get {F : AS} {Hf H : Hp} {v : V} {d : Dat} {n : String} (h : TyD s d n) (R : Rep K F Hf H s) (a : At K Hf v d) : TyX K H v (.type n) := by
  cases a with
  | non => cases h; exact .base .non
  | bl => cases h; exact .base (.bl _)
  | int => cases h; exact .base (.int _)
  | str => cases h; exact .base (.str _)
  | lst h1 _ => cases h; exact .base (.lst (R.sub _ _ h1))
  | tup h1 _ => cases h; exact .base (.tup (R.sub _ _ h1))
  | dK h1 _ _ => cases h; exact .base (.dK (R.sub _ _ h1))
  | dT h1 _ _ => cases h; exact .base (.dT (R.sub _ _ h1))
  | ref p =>
    rcases h with ⟨rfl, xs, h⟩ | ⟨rfl, ⟨es, h⟩ | ⟨es, h⟩⟩
    · obtain ⟨ho, h1, ys, rfl, _⟩ := R.read h
      exact .base (.lst h1)
    · obtain ⟨ho, h1, ys, rfl, _⟩ := R.read h
      exact .base (.dK h1)
    · obtain ⟨ho, h1, ys, rfl, _⟩ := R.read h
      exact .base (.dT h1)
  | ty => exact (h : False).elim
  | con => exact (h : False).elim
  | err0 => exact (h : False).elim
  | err => exact (h : False).elim
  | ob => exact (h : False).elim
  | ins => exact (h : False).elim
theorem co_isi : COk K (rIsi K) (fun ds s Q => ∃ d n c b, ds = [d, .ty c] ∧ TyD s d n ∧ kitB n c = some b ∧ Q (.bl b) s) := by
  rintro F Hf H s xs ds Q Qc R a L ⟨d, n, c, b, rfl, h, k, q⟩
  obtain ⟨v, w, rfl, av, aw⟩ := ats2 a
  cases aw
  exact ⟨v, .ty c, _, _, b, rfl, .ty c, h.get R av, kit_ty k, L _ _ Hf H s (Same.refl _) R (.bl _) q⟩
def kitL (n : String) : List String → Option Bool
  | [] => some false
  | c :: r => match kitB n c with | some true => some true | some false => kitL n r | none => none
theorem kitL_ok {n : String} : ∀ {cs : List String} {b : Bool}, kitL n cs = some b → PySem.W.kitAny K (.type n) (cs.map Value.type) = some b
  | [], b, h => h
  | c :: r, b, h => by
    unfold kitL at h
    rw [List.map_cons]
    cases z : kitB n c with
    | none => rw [z] at h; cases h
    | some k =>
      rw [z] at h
      cases k with
      | true =>
        cases h
        exact kitAny_cons (kit_ty z) (fun y => nomatch y) (fun _ => rfl)
      | false => exact kitAny_cons (kit_ty z) (fun _ => kitL_ok h) (fun y => nomatch y)
theorem tys_inv {Hf : Hp} : ∀ {cs : List String} {xs : List V}, Ats K Hf xs (cs.map Dat.ty) → xs = cs.map V.ty
  | [], _, .nil => rfl
  | _ :: _, _, .cons a r => by cases a; rw [tys_inv r]; rfl
theorem clsV_tys : ∀ cs : List String, Paired ClsV (cs.map V.ty) (cs.map Value.type)
  | [] => .nil
  | c :: r => .cons (.ty c) (clsV_tys r)
theorem co_isiT : COk K (rIsiT K) (fun ds s Q => ∃ (d : Dat) (n : String) (cs : List String) (b : Bool), ds = [d, .tup (cs.map Dat.ty)] ∧ TyD s d n ∧ kitL n cs = some b ∧ Q (.bl b) s) := by
  rintro F Hf H s xs ds Q Qc R a L ⟨d, n, cs, b, rfl, h, k, q⟩
  obtain ⟨v, w, rfl, av, aw⟩ := ats2 a
  cases aw with
  | tup h1 h2 =>
    rw [tys_inv h2] at h1
    exact ⟨v, _, _, _, _, b, rfl, R.sub _ _ h1, clsV_tys cs, h.get R av, kitL_ok k, L _ _ Hf H s (Same.refl _) R (.bl _) q⟩
theorem co_sortedS : COk K (rSortedS K) (fun ds s Q => ∃ (d : Dat) (zs : List Str), ds = [d] ∧ LstD s d (zs.map Dat.str) ∧ zs.length < 64 ∧ ∀ ys : List Str, ys.Perm zs → sortedS ys = true → Q (.lst (ys.map Dat.str)) s) := by
  rintro F Hf H s xs ds Q Qc R a L ⟨d, zs, rfl, h, hl, q⟩
  obtain ⟨v, rfl, av⟩ := ats1 a
  obtain ⟨p, ys, rfl, h1, h2⟩ := h.sq R av
  rw [ats_strs_inv h2] at h1
  refine ⟨p, zs, rfl, SqL.of h1, hl, fun ys p2 hp hs n => ?_⟩
  obtain ⟨R2, m⟩ := R.grow n (.lst (ys.map V.str))
  exact L _ _ _ _ s m R2 (.lst upd_same (ats_strs ys)) (q ys hp hs)
theorem co_sortedI : COk K (rSortedI K) (fun ds s Q => ∃ (d : Dat) (zs : List Int), ds = [d] ∧ LstD s d (zs.map Dat.int) ∧ ∀ ys : List Int, ys.Perm zs → ys.Pairwise (· ≤ ·) → Q (.lst (ys.map Dat.int)) s) := by
  rintro F Hf H s xs ds Q Qc R a L ⟨d, zs, rfl, h, q⟩
  obtain ⟨v, rfl, av⟩ := ats1 a
  obtain ⟨p, ys, rfl, h1, h2⟩ := h.sq R av
  rw [ats_ints_inv h2] at h1
  refine ⟨p, zs, rfl, SqL.of h1, fun ys p2 hp hs n => ?_⟩
  obtain ⟨R2, m⟩ := R.grow n (.lst (ys.map V.int))
  exact L _ _ _ _ s m R2 (.lst upd_same (ats_ints ys)) (q ys hp hs)
/-- dict(d) -/
theorem co_dictD : COk K (fun xs H Q => ∃ (a : Addr) (kvs : List (Key × V)), xs = [.ref a] ∧ Rd H a (.dK kvs) ∧ ∀ p, H p = none → Q (.ref p) (upd H p (.dK kvs))) (fun ds s Q => ∃ d es, ds = [d] ∧ DicR s d es ∧ ∀ p, s p = none → Q (.ref p) (supd s p (.raw (.dK es)))) := by
  rintro F Hf H s xs ds Q Qc R a L ⟨d, es, rfl, h, q⟩
  obtain ⟨v, rfl, av⟩ := ats1 a
  obtain ⟨p, kvs, rfl, h1, h2, h3⟩ := h.get R av
  refine ⟨p, kvs, rfl, h1, fun l hl => ?_⟩
  exact L _ _ Hf _ _ (Same.refl _) (R.new hl (w := .dK es) ⟨kvs, rfl, h2, h3⟩) (.ref l) (q l (R.free hl).1)
/-! ### operators of texts, lists, tuples -/
theorem ro_addS : ROk K (fun x y H Q => ∃ i j, x = .str i ∧ y = .str j ∧ i.length + j.length ≤ sizeLine ∧ Q (.str (i ++ j)) H) (fun a b s Q => ∃ i j, a = .str i ∧ b = .str j ∧ i.length + j.length ≤ sizeLine ∧ Q (.str (i ++ j)) s) := by
  rintro F Hf H s x y a b Q Qc R ax ay L ⟨i, j, rfl, rfl, h, q⟩
  cases ax
  cases ay
  exact ⟨i, j, rfl, rfl, h, L _ _ Hf H s (Same.refl _) R (.str _) q⟩
theorem ro_ltS : ROk K (fun x y H Q => ∃ i j, x = .str i ∧ y = .str j ∧ Q (.bl (decide (i.cps.toList < j.cps.toList))) H) (fun a b s Q => ∃ i j, a = .str i ∧ b = .str j ∧ Q (.bl (decide (i.cps.toList < j.cps.toList))) s) := by
  rintro F Hf H s x y a b Q Qc R ax ay L ⟨i, j, rfl, rfl, q⟩
  cases ax
  cases ay
  exact ⟨i, j, rfl, rfl, L _ _ Hf H s (Same.refl _) R (.bl _) q⟩
theorem ro_leS : ROk K (fun x y H Q => ∃ i j, x = .str i ∧ y = .str j ∧ Q (.bl (!decide (j.cps.toList < i.cps.toList))) H) (fun a b s Q => ∃ i j, a = .str i ∧ b = .str j ∧ Q (.bl (!decide (j.cps.toList < i.cps.toList))) s) := by
  rintro F Hf H s x y a b Q Qc R ax ay L ⟨i, j, rfl, rfl, q⟩
  cases ax
  cases ay
  exact ⟨i, j, rfl, rfl, L _ _ Hf H s (Same.refl _) R (.bl _) q⟩
def isNon : Dat → Bool | .non => true | _ => false
theorem isNon_ok {Hf : Hp} {x : V} {d : Dat} (a : At K Hf x d) : decide (x = .non) = isNon d := by
  cases a <;> first | rfl | exact decide_eq_false fun z => nomatch z
theorem ro_isN : ROk K (fun x y H Q => y = .non ∧ Q (.bl (decide (x = .non))) H) (fun a b s Q => b = .non ∧ Q (.bl (isNon a)) s) := by
  rintro F Hf H s x y a b Q Qc R ax ay L ⟨rfl, q⟩
  cases ay
  refine ⟨rfl, ?_⟩
  rw [isNon_ok ax]
  exact L _ _ Hf H s (Same.refl _) R (.bl _) q
theorem ro_notN : ROk K (fun x y H Q => y = .non ∧ Q (.bl (!decide (x = .non))) H) (fun a b s Q => b = .non ∧ Q (.bl (!isNon a)) s) := by
  rintro F Hf H s x y a b Q Qc R ax ay L ⟨rfl, q⟩
  cases ay
  refine ⟨rfl, ?_⟩
  rw [isNon_ok ax]
  exact L _ _ Hf H s (Same.refl _) R (.bl _) q
theorem ro_inSign : ROk K (fun x y H Q => ∃ (c : Nat) (z : Str), x = .str ⟨#[c]⟩ ∧ y = .str z ∧ Q (.bl (decide (c ∈ z.cps.toList))) H) (fun a b s Q => ∃ (c : Nat) (z : Str), a = .str ⟨#[c]⟩ ∧ b = .str z ∧ Q (.bl (decide (c ∈ z.cps.toList))) s) := by
  rintro F Hf H s x y a b Q Qc R ax ay L ⟨i, j, rfl, rfl, q⟩
  cases ax
  cases ay
  exact ⟨i, j, rfl, rfl, L _ _ Hf H s (Same.refl _) R (.bl _) q⟩
theorem ro_cat : ROk K rCat (fun a b s Q => ∃ xs ys, LstD s a xs ∧ LstD s b ys ∧ xs.length + ys.length ≤ sizeLine ∧ Q (.lst (xs ++ ys)) s) := by
  rintro F Hf H s x y a b Q Qc R ax ay L ⟨xs, ys, h1, h2, hl, q⟩
  obtain ⟨p, us, rfl, g1, k1⟩ := h1.sq R ax
  obtain ⟨p2, ws, rfl, g2, k2⟩ := h2.sq R ay
  refine ⟨p, p2, us, ws, rfl, rfl, g1, g2, by rw [k1.len, k2.len]; exact hl, fun l hl => ?_⟩
  obtain ⟨R2, m⟩ := R.grow hl (.lst (us ++ ws))
  exact L _ _ _ _ s m R2 (.lst upd_same ((k1.append k2).same m)) q
theorem ro_catM : ROk K rCat (fun a b s Q => ∃ xs ys, LstD s a xs ∧ LstD s b ys ∧ xs.length + ys.length ≤ sizeLine ∧ ∀ p, s p = none → Q (.ref p) (supd s p (.raw (.lst (xs ++ ys))))) := by
  rintro F Hf H s x y a b Q Qc R ax ay L ⟨xs, ys, h1, h2, hl, q⟩
  obtain ⟨p, us, rfl, g1, k1⟩ := h1.sq R ax
  obtain ⟨p2, ws, rfl, g2, k2⟩ := h2.sq R ay
  refine ⟨p, p2, us, ws, rfl, rfl, g1, g2, by rw [k1.len, k2.len]; exact hl, fun l hl => ?_⟩
  exact L _ _ Hf _ _ (Same.refl _) (R.new hl (w := .lst (xs ++ ys)) ⟨_, rfl, k1.append k2⟩) (.ref l) (q l (R.free hl).1)
theorem ats_nil {Hf : Hp} {xs : List V} (a : Ats K Hf xs []) : xs = [] := by cases a; rfl
theorem ats_nil2 {Hf : Hp} {ds : List Dat} (a : Ats K Hf [] ds) : ds = [] := by cases a; rfl
theorem ro_catT : ROk K (rCatT K) (fun a b s Q => ∃ xs ys, a = .tup xs ∧ TupD b ys ∧ xs ≠ [] ∧ xs.length + ys.length ≤ sizeLine ∧ Q (.tup (xs ++ ys)) s) := by
  rintro F Hf H s x y a b Q Qc R ax ay L ⟨xs, ys, rfl, h2, hn, hl, q⟩
  obtain ⟨p2, ws, rfl, g2, k2⟩ := h2.sq R ay
  cases ax with
  | @tup p us _ h1 k1 =>
    refine ⟨p, p2, us, ws, rfl, rfl, SqT.of (R.sub _ _ h1), g2, fun z => hn (ats_nil2 (z ▸ k1)), by rw [k1.len, k2.len]; exact hl, fun z => ?_, fun _ l hl => ?_⟩
    · subst z
      have := ats_nil2 k2
      subst this
      rw [List.append_nil] at q
      exact L _ _ Hf H s (Same.refl _) R (.tup h1 k1) q
    · obtain ⟨R2, m⟩ := R.grow hl (.tup (us ++ ws))
      exact L _ _ _ _ s m R2 (.tup upd_same ((k1.append k2).same m)) q
theorem ro_catA : ROk K (rCatA K) (fun a b s Q => ∃ xs ys, a = .tup xs ∧ b = .tup ys ∧ xs.length + ys.length ≤ sizeLine ∧ Q (.tup (xs ++ ys)) s) := by
  rintro F Hf H s x y a b Q Qc R ax ay L ⟨xs, ys, rfl, rfl, hl, q⟩
  cases ax with
  | @tup p us _ h1 k1 =>
    cases ay with
    | @tup p2 ws _ h2 k2 =>
      refine ⟨p, p2, us, ws, rfl, rfl, SqT.of (R.sub _ _ h1), SqT.of (R.sub _ _ h2), by rw [k1.len, k2.len]; exact hl, fun z => ?_, fun _ z => ?_, fun _ _ l hl => ?_⟩
      · subst z
        have := ats_nil2 k1
        subst this
        exact L _ _ Hf H s (Same.refl _) R (.tup h2 k2) q
      · subst z
        have := ats_nil2 k2
        subst this
        rw [List.append_nil] at q
        exact L _ _ Hf H s (Same.refl _) R (.tup h1 k1) q
      · obtain ⟨R2, m⟩ := R.grow hl (.tup (us ++ ws))
        exact L _ _ _ _ s m R2 (.tup upd_same ((k1.append k2).same m)) q
/-! ### slices -/
def GO (e : Ec) (t : TO) (γ : Ga) (s : AS) (Q : Option Int → AS → Prop) : Prop := ∀ F Hf H σ, Rep e.K F Hf H s → Slots e.K Hf σ γ → LiftX e F Hf → ∀ Qc : Option Int → Hp → Prop, (∀ o Hf' H' s', Same Hf Hf' → Rep e.K F Hf' H' s' → Q o s' → Qc o H') → t σ H Qc
theorem g_noPart {Q : Option Int → AS → Prop} (q : Q none s) : GO e tNoPart γ s Q := fun F Hf H σ R S X Qc k => k _ Hf H s (Same.refl _) R q
theorem g_part {Q : Option Int → AS → Prop} (h : GE e te γ s fun d s1 => ∃ i, d = .int i ∧ Q (some i) s1) : GO e (tPart te) γ s Q := fun F Hf H σ R S X Qc k =>
  h F Hf H σ R S X _ fun v d Hf1 H1 s1 m1 R1 a1 ⟨i, ed, q⟩ => by
    subst ed
    cases a1
    exact ⟨i, rfl, k _ Hf1 H1 s1 m1 R1 q⟩
def SOk (K : PySem.W.Frag) (r : V → Option Int → Option Int → Hp → VK → Prop) (A : Dat → Option Int → Option Int → AS → (Dat → AS → Prop) → Prop) : Prop :=
  ∀ (F : AS) (Hf H : Hp) (s : AS) (x : V) (a : Dat) (lo hi : Option Int) (Q : Dat → AS → Prop) (Qc : VK), Rep K F Hf H s → At K Hf x a → LQ K F Hf Q Qc → A a lo hi s Q → r x lo hi H Qc
theorem g_sl {r : V → Option Int → Option Int → Hp → VK → Prop} {A : Dat → Option Int → Option Int → AS → (Dat → AS → Prop) → Prop} {tlo thi : TO} (hr : SOk e.K r A) (h : GE e te γ s fun a s1 => GO e tlo γ s1 fun lo s2 => GO e thi γ s2 fun hi s3 => A a lo hi s3 Q) : GE e (tSl r te tlo thi) γ s Q := fun F Hf H σ R S X Qc L =>
  h F Hf H σ R S X _ fun x a Hf1 H1 s1 m1 R1 a1 h1 => h1 F Hf1 H1 σ R1 (S.same m1) (X.same m1) _ fun lo Hf2 H2 s2 m2 R2 h2 => h2 F Hf2 H2 σ R2 (S.same (m1.trans m2)) (X.same (m1.trans m2)) _ fun hi Hf3 H3 s3 m3 R3 h3 =>
    hr F Hf3 H3 s3 x a lo hi Q Qc R3 (a1.same (m2.trans m3)) (L.same ((m1.trans m2).trans m3)) h3
def cutD (xs : List Dat) (lo hi : Option Int) : List Dat := (xs.drop (HT.sIx xs.length 0 lo)).take (HT.sIx xs.length xs.length hi - HT.sIx xs.length 0 lo)
theorem cut_ats {Hf : Hp} {ys : List V} {xs : List Dat} (a : Ats K Hf ys xs) (lo hi : Option Int) : Ats K Hf (cutV ys lo hi) (cutD xs lo hi) := by
  unfold cutV cutD
  rw [a.len]
  exact (a.drop _).take _
theorem so_list : SOk K (rSlL K) (fun a lo hi s Q => ∃ xs, LstD s a xs ∧ Q (.lst (cutD xs lo hi)) s) := by
  rintro F Hf H s x a lo hi Q Qc R ax L ⟨xs, h, q⟩
  obtain ⟨p, ys, rfl, h1, h2⟩ := h.sq R ax
  refine ⟨p, ys, rfl, SqL.of h1, fun l hl => ?_⟩
  obtain ⟨R2, m⟩ := R.grow hl (.lst (cutV ys lo hi))
  exact L _ _ _ _ s m R2 (.lst upd_same ((cut_ats h2 lo hi).same m)) q
theorem so_str : SOk K rSlS (fun a lo hi s Q => ∃ z, a = .str z ∧ z.length ≤ sizeLine ∧ Q (.str (cutS z lo hi)) s) := by
  rintro F Hf H s x a lo hi Q Qc R ax L ⟨z, rfl, h, q⟩
  cases ax
  exact ⟨z, rfl, h, L _ _ Hf H s (Same.refl _) R (.str _) q⟩
theorem cut_whole {xs : List Dat} {lo hi : Option Int} (h : HT.sIx xs.length 0 lo = 0 ∧ HT.sIx xs.length xs.length hi = xs.length) : cutD xs lo hi = xs := by
  unfold cutD
  rw [h.1, h.2, List.drop_zero, Nat.sub_zero, List.take_length]
theorem so_tupA : SOk K (rSlA K) (fun a lo hi s Q => ∃ xs, a = .tup xs ∧ Q (.tup (cutD xs lo hi)) s) := by
  rintro F Hf H s x a lo hi Q Qc R ax L ⟨xs, rfl, q⟩
  cases ax with
  | @tup p ys _ h1 h2 =>
    refine ⟨p, ys, rfl, SqT.of (R.sub _ _ h1), fun w => ?_, fun _ l hl => ?_⟩
    · rw [h2.len] at w
      rw [cut_whole w] at q
      exact L _ _ Hf H s (Same.refl _) R (.tup h1 h2) q
    · obtain ⟨R2, m⟩ := R.grow hl (.tup (cutV ys lo hi))
      exact L _ _ _ _ s m R2 (.tup upd_same ((cut_ats h2 lo hi).same m)) q
theorem so_tup : SOk K (rSlT K) (fun a lo hi s Q => ∃ xs, a = .tup xs ∧ ¬ (HT.sIx xs.length 0 lo = 0 ∧ HT.sIx xs.length xs.length hi = xs.length) ∧ Q (.tup (cutD xs lo hi)) s) := by
  rintro F Hf H s x a lo hi Q Qc R ax L ⟨xs, rfl, n, q⟩
  cases ax with
  | @tup p ys _ h1 h2 =>
    refine ⟨p, ys, rfl, SqT.of (R.sub _ _ h1), by rw [h2.len]; exact n, fun l hl => ?_⟩
    obtain ⟨R2, m⟩ := R.grow hl (.tup (cutV ys lo hi))
    exact L _ _ _ _ s m R2 (.tup upd_same ((cut_ats h2 lo hi).same m)) q
/-! ### methods of texts -/
theorem g_m1 {r : V → List V → Hp → VK → Prop} {A : Dat → Dat → AS → (Dat → AS → Prop) → Prop} (hr : ROk e.K (fun x y H Q => r x [y] H Q) A) (h : GE e to γ s fun a s1 => (∃ z, a = .str z) ∧ GE e te γ s1 fun b s2 => A a b s2 Q) : GE e (tM1 r to te) γ s Q := fun F Hf H σ R S X Qc L =>
  h F Hf H σ R S X _ fun x a Hf1 H1 s1 m1 R1 a1 ⟨⟨z, ez⟩, h1⟩ => by
    subst ez
    cases a1
    exact ⟨⟨z, rfl⟩, h1 F Hf1 H1 σ R1 (S.same m1) (X.same m1) _ fun y b Hf2 H2 s2 m2 R2 a2 h2 => hr F Hf2 H2 s2 _ y _ b Q Qc R2 (.str z) a2 (L.same (m1.trans m2)) h2⟩
theorem mo_split : ROk K (fun x y H Q => (fun (x : V) (xs : List V) (H : Hp) (Q : VK) => ∃ a b, x = .str a ∧ xs = [.str b] ∧ (b.length == 0) = false ∧ a.length + 2 ≤ sizeLine ∧ rNewStrs (Txt.split a b) H Q) x [y] H Q) (fun a b s Q => ∃ x y, a = .str x ∧ b = .str y ∧ (y.length == 0) = false ∧ x.length + 2 ≤ sizeLine ∧ Q (.lst ((Txt.split x y).map Dat.str)) s) := by
  rintro F Hf H s x y a b Q Qc R ax ay L ⟨i, j, rfl, rfl, h1, h2, q⟩
  cases ax
  cases ay
  refine ⟨i, j, rfl, rfl, h1, h2, fun p hp => ?_⟩
  obtain ⟨R2, m⟩ := R.grow hp (.lst ((Txt.split i j).map V.str))
  exact L _ _ _ _ s m R2 (.lst upd_same (ats_strs _)) q
theorem mo_splitM : ROk K (fun x y H Q => (fun (x : V) (xs : List V) (H : Hp) (Q : VK) => ∃ a b, x = .str a ∧ xs = [.str b] ∧ (b.length == 0) = false ∧ a.length + 2 ≤ sizeLine ∧ rNewStrs (Txt.split a b) H Q) x [y] H Q) (fun a b s Q => ∃ x y, a = .str x ∧ b = .str y ∧ (y.length == 0) = false ∧ x.length + 2 ≤ sizeLine ∧ ∀ p, s p = none → Q (.ref p) (supd s p (.raw (.lst ((Txt.split x y).map Dat.str))))) := by
  rintro F Hf H s x y a b Q Qc R ax ay L ⟨i, j, rfl, rfl, h1, h2, q⟩
  cases ax
  cases ay
  refine ⟨i, j, rfl, rfl, h1, h2, fun p hp => ?_⟩
  exact L _ _ Hf _ _ (Same.refl _) (R.new hp (w := .lst ((Txt.split i j).map Dat.str)) ⟨_, rfl, ats_strs _⟩) (.ref p) (q p (R.free hp).1)
theorem mo_join : ROk K (fun x y H Q => (fun (x : V) (xs : List V) (H : Hp) (Q : VK) => ∃ a p, ∃ ys : List Str, x = .str a ∧ xs = [.ref p] ∧ (SqL K H p (ys.map V.str) ∨ SqT K H p (ys.map V.str)) ∧ (ys.map (·.length)).sum + ys.length * a.length ≤ 16777216 ∧ Q (.str (Txt.join a ys)) H) x [y] H Q)
    (fun a b s Q => ∃ (x : Str) (ys : List Str), a = .str x ∧ SeqD s b (ys.map Dat.str) ∧ (ys.map (·.length)).sum + ys.length * x.length ≤ 16777216 ∧ Q (.str (Txt.join x ys)) s) := by
  rintro F Hf H s x y a b Q Qc R ax ay L ⟨i, ys, rfl, h, hl, q⟩
  cases ax
  obtain ⟨p, us, rfl, h1, h2⟩ := h.sq R ay
  rw [ats_strs_inv h2] at h1
  exact ⟨i, p, ys, rfl, rfl, h1, hl, L _ _ Hf H s (Same.refl _) R (.str _) q⟩
end
end AL
namespace Ls
open PySem PySem.Spec PyProof.Rows L2
/-- an f-string, not unfolded by itself -/
def tJoin (ts : List TE) : TE := fun σ H Q => tJs ts Str.empty σ H fun out H1 => Q (.str out) H1
theorem pe_fstr {X : Cx} {v1 v2 : Expr} {rest : List Expr} {pos : Pos} {ts : List TE} (h : PJ X (v1 :: v2 :: rest) ts) : PE X (.JoinedStr (v1 :: v2 :: rest) pos) (tJoin ts) := pe_joined h
theorem join_go {ts : List TE} {σ : L2.St} {H : Hp} {Q : VK} (h : tJs ts Str.empty σ H fun out H1 => Q (.str out) H1) : tJoin ts σ H Q := h
end Ls
namespace AL
open PySem PySem.Spec PyProof.Rows L2 Ls
section
variable {e : Ec} {γ γ' : Ga} {s s' : AS} {ta tb tc te tv tl tk to td ty tx : TE} {tA : TA} {Q Q' : Dat → AS → Prop} {Qs : List Dat → AS → Prop} {D : AD} {t : TT} {wi : TI} {g : TG}
/-! ### methods of lists, dicts -/
def OkT (s : AS) (d : Dat) (T : String) : Prop := (T = "list" ∧ ∃ xs, LstD s d xs) ∨ (T = "dict" ∧ ((∃ es, DicD s d es) ∨ ∃ es, DicT s d es))
theorem OkT.get {K : PySem.W.Frag} {F : AS} {Hf H : Hp} {v : V} {d : Dat} {T : String} (h : OkT s d T) (R : Rep K F Hf H s) (a : At K Hf v d) : tyV K T v H := by
  rcases h with ⟨rfl, xs, h⟩ | ⟨rfl, ⟨es, h⟩ | ⟨es, h⟩⟩
  · obtain ⟨p, ys, rfl, h1, _⟩ := h.sq R a
    exact .inl ⟨rfl, ys, SqL.of h1⟩
  · obtain ⟨p, ys, rfl, h1, _⟩ := h.get R a
    exact .inr (.inr (.inl ⟨rfl, .inl ⟨ys, h1⟩⟩))
  · obtain ⟨p, ys, rfl, h1, _⟩ := h.get R a
    exact .inr (.inr (.inl ⟨rfl, .inr ⟨ys, h1⟩⟩))
def MOk (K : PySem.W.Frag) (r : V → List V → Hp → VK → Prop) (A : Dat → List Dat → AS → (Dat → AS → Prop) → Prop) : Prop :=
  ∀ (F : AS) (Hf H : Hp) (s : AS) (x : V) (xs : List V) (a : Dat) (ds : List Dat) (Q : Dat → AS → Prop) (Qc : VK), Rep K F Hf H s → At K Hf x a → Ats K Hf xs ds → LQ K F Hf Q Qc → A a ds s Q → r x xs H Qc
theorem g_bm {T : String} {r : V → List V → Hp → VK → Prop} {A : Dat → List Dat → AS → (Dat → AS → Prop) → Prop} (hr : MOk e.K r A) (h : GE e to γ s fun a s1 => OkT s1 a T ∧ GA e tA γ s1 fun ds s2 => A a ds s2 Q) : GE e (tBM e.K T r to tA) γ s Q := fun F Hf H σ R S X Qc L =>
  h F Hf H σ R S X _ fun x a Hf1 H1 s1 m1 R1 a1 ⟨hT, h1⟩ => ⟨hT.get R1 a1, h1 F Hf1 H1 σ R1 (S.same m1) (X.same m1) _ fun xs ds Hf2 H2 s2 m2 R2 a2 q => hr F Hf2 H2 s2 x xs a ds Q Qc R2 (a1.same m2) a2 (L.same (m1.trans m2)) q⟩
theorem g_bm0 {T : String} {r : V → List V → Hp → VK → Prop} {A : Dat → List Dat → AS → (Dat → AS → Prop) → Prop} (hr : MOk e.K r A) (h : GE e to γ s fun a s1 => OkT s1 a T ∧ A a [] s1 Q) : GE e (tBM0 e.K T r to) γ s Q := fun F Hf H σ R S X Qc L =>
  h F Hf H σ R S X _ fun x a Hf1 H1 s1 m1 R1 a1 ⟨hT, q⟩ => ⟨hT.get R1 a1, hr F Hf1 H1 s1 x [] a [] Q Qc R1 a1 .nil (L.same m1) q⟩
variable {K : PySem.W.Frag}
theorem mo_append : MOk K rAppend (fun a ds s Q => ∃ p xs d, a = .ref p ∧ ds = [d] ∧ s p = some (.raw (.lst xs)) ∧ xs.length < sizeLine ∧ Q .non (supd s p (.raw (.lst (xs ++ [d]))))) := by
  rintro F Hf H s x xs a ds Q Qc R ax aa L ⟨p, ys, d, rfl, rfl, h, hl, q⟩
  cases ax
  obtain ⟨v, rfl, av⟩ := ats1 aa
  obtain ⟨ho, h1, zs, rfl, h2⟩ := R.read h
  refine ⟨p, zs, v, rfl, rfl, h1, by rw [h2.len]; exact hl, L _ _ Hf _ _ (Same.refl _) (R.write h (w' := .lst (ys ++ [d])) ⟨_, rfl, h2.append (.cons av .nil)⟩) .non q⟩
theorem mo_extend : MOk K rExtend (fun a ds s Q => ∃ p xs d ys, a = .ref p ∧ ds = [d] ∧ s p = some (.raw (.lst xs)) ∧ LstD s d ys ∧ xs.length + ys.length ≤ sizeLine ∧ Q .non (supd s p (.raw (.lst (xs ++ ys))))) := by
  rintro F Hf H s x xs a ds Q Qc R ax aa L ⟨p, ys, d, ws, rfl, rfl, h, hd, hl, q⟩
  cases ax
  obtain ⟨v, rfl, av⟩ := ats1 aa
  obtain ⟨ho, h1, zs, rfl, h2⟩ := R.read h
  obtain ⟨b, us, rfl, h3, h4⟩ := hd.sq R av
  refine ⟨p, b, zs, us, rfl, rfl, h1, h3, by rw [h2.len, h4.len]; exact hl, L _ _ Hf _ _ (Same.refl _) (R.write h (w' := .lst (ys ++ ws)) ⟨_, rfl, h2.append h4⟩) .non q⟩
theorem mo_pop : MOk K rPop (fun a ds s Q => ∃ p xs d, a = .ref p ∧ ds = [] ∧ s p = some (.raw (.lst xs)) ∧ xs[xs.length - 1]? = some d ∧ Q d (supd s p (.raw (.lst xs.dropLast)))) := by
  rintro F Hf H s x xs a ds Q Qc R ax aa L ⟨p, ys, d, rfl, rfl, h, hd, q⟩
  cases ax
  cases aa
  obtain ⟨ho, h1, zs, rfl, h2⟩ := R.read h
  obtain ⟨v, h3, h4⟩ := h2.get hd
  refine ⟨p, zs, v, rfl, rfl, h1, by rw [h2.len]; exact h3, L _ _ Hf _ _ (Same.refl _) (R.write h (w' := .lst ys.dropLast) ⟨_, rfl, h2.dropLast⟩) h4 q⟩
theorem mo_popAt : MOk K rPopAt (fun a ds s Q => ∃ p xs i k d, a = .ref p ∧ ds = [.int i] ∧ s p = some (.raw (.lst xs)) ∧ -(2 ^ 63) ≤ i ∧ i < 2 ^ 63 ∧ seqIndex? i xs.length = some k ∧ xs[k]? = some d ∧ Q d (supd s p (.raw (.lst (xs.eraseIdx k))))) := by
  rintro F Hf H s x xs a ds Q Qc R ax aa L ⟨p, ys, i, k, d, rfl, rfl, h, hi, hj, hk, hd, q⟩
  cases ax
  obtain ⟨v, rfl, av⟩ := ats1 aa
  cases av
  obtain ⟨ho, h1, zs, rfl, h2⟩ := R.read h
  obtain ⟨v, h3, h4⟩ := h2.get hd
  refine ⟨p, zs, i, k, v, rfl, rfl, h1, hi, hj, by rw [h2.len]; exact hk, h3, L _ _ Hf _ _ (Same.refl _) (R.write h (w' := .lst (ys.eraseIdx k)) ⟨_, rfl, h2.erase k⟩) h4 q⟩
/-! ### dicts -/
section
variable {κ : Type} [DecidableEq κ]
def getD (es : List (κ × Dat)) (k : κ) : Option Dat := (es.find? fun kv => decide (kv.1 = k)).map (·.2)
def putG (es : List (κ × Dat)) (k : κ) (v : Dat) : List (κ × Dat) :=
  if (es.any fun kv => decide (kv.1 = k)) = true then es.map (fun kv => if kv.1 = k then (kv.1, v) else kv) else es ++ [(k, v)]
def dropG (es : List (κ × Dat)) (k : κ) : List (κ × Dat) := es.filter fun kv => decide (kv.1 ≠ k)
def ORel (K : PySem.W.Frag) (Hf : Hp) : Option V → Option Dat → Prop
  | none, none => True
  | some v, some d => At K Hf v d
  | _, _ => False
theorem get_at {Hf : Hp} {k : κ} : ∀ {kvs : List (κ × V)} {es : List (κ × Dat)}, kvs.map (·.1) = es.map (·.1) → Ats K Hf (kvs.map (·.2)) (es.map (·.2)) → ORel K Hf (valV kvs k) (getD es k)
  | [], [], _, _ => trivial
  | [], _ :: _, h, _ => by cases h
  | _ :: _, [], h, _ => by cases h
  | (a, v) :: r, (b, d) :: q, h, .cons x y => by
    rw [List.map_cons, List.map_cons, List.cons.injEq] at h
    obtain ⟨h1, h2⟩ := h
    dsimp only at h1
    subst h1
    have ih := get_at (k := k) h2 y
    unfold valV getD at ih ⊢
    rw [List.find?_cons, List.find?_cons]
    cases z : decide (a = k) with
    | true => exact x
    | false => exact ih
theorem put_at {Hf : Hp} {k : κ} {v : V} {d : Dat} (a : At K Hf v d) {kvs : List (κ × V)} {es : List (κ × Dat)} (h : kvs.map (·.1) = es.map (·.1)) (x : Ats K Hf (kvs.map (·.2)) (es.map (·.2))) : (putK kvs k v).map (·.1) = (putG es k d).map (·.1) ∧ Ats K Hf ((putK kvs k v).map (·.2)) ((putG es k d).map (·.2)) := by
  have hany : (kvs.any fun kv => decide (kv.1 = k)) = (es.any fun kv => decide (kv.1 = k)) := by
    have := congrArg (fun l => l.any fun a => decide (a = k)) h
    rw [List.any_map, List.any_map] at this
    exact this
  unfold putK putG
  rw [hany]
  split
  · rename_i hh
    clear hany hh
    induction kvs generalizing es with
    | nil =>
      cases es with
      | nil => exact ⟨rfl, .nil⟩
      | cons _ _ => cases h
    | cons p r ih =>
      cases es with
      | nil => cases h
      | cons q t =>
        rw [List.map_cons, List.map_cons, List.cons.injEq] at h
        obtain ⟨h1, h2⟩ := h
        cases x with
        | cons x y =>
          obtain ⟨i1, i2⟩ := ih h2 y
          obtain ⟨p1, p2⟩ := p
          obtain ⟨q1, q2⟩ := q
          dsimp only at h1
          subst h1
          rw [List.map_cons, List.map_cons, List.map_cons, List.map_cons, List.map_cons, List.map_cons]
          dsimp only
          split
          · exact ⟨by rw [i1], .cons a i2⟩
          · exact ⟨by rw [i1], .cons x i2⟩
  · rw [List.map_append, List.map_append, List.map_append, List.map_append, h]
    exact ⟨rfl, x.append (.cons a .nil)⟩
theorem drop_at {Hf : Hp} {k : κ} : ∀ {kvs : List (κ × V)} {es : List (κ × Dat)}, kvs.map (·.1) = es.map (·.1) → Ats K Hf (kvs.map (·.2)) (es.map (·.2)) → (dropK kvs k).map (·.1) = (dropG es k).map (·.1) ∧ Ats K Hf ((dropK kvs k).map (·.2)) ((dropG es k).map (·.2))
  | [], [], _, _ => ⟨rfl, .nil⟩
  | [], _ :: _, h, _ => by cases h
  | _ :: _, [], h, _ => by cases h
  | (a, v) :: r, (b, d) :: q, h, .cons x y => by
    rw [List.map_cons, List.map_cons, List.cons.injEq] at h
    obtain ⟨h1, h2⟩ := h
    dsimp only at h1
    subst h1
    obtain ⟨i1, i2⟩ := drop_at (k := k) h2 y
    unfold dropK dropG at i1 i2 ⊢
    rw [List.filter_cons, List.filter_cons]
    dsimp only
    split
    · rw [List.map_cons, List.map_cons, List.map_cons, List.map_cons]
      exact ⟨by rw [i1], .cons x i2⟩
    · exact ⟨i1, i2⟩
theorem len_map {α β γ : Type} {xs : List (α × β)} {ys : List (α × γ)} (h : xs.map (·.1) = ys.map (·.1)) : xs.length = ys.length := by
  have := congrArg List.length h
  rw [List.length_map, List.length_map] at this
  exact this
end
/-- a key as data -/
def keyD : Key → Dat
  | .inl i => .int i
  | .inr z => .str z
theorem keyD_at {Hf : Hp} {v : V} {k : Key} (a : At K Hf v (keyD k)) : v = kV k := by
  cases k <;> (cases a; rfl)
theorem keyD_ats {Hf : Hp} : ∀ {ks : List Key} {vs : List V}, Ats K Hf vs (ks.map keyD) → vs = ks.map kV
  | [], _, .nil => rfl
  | k :: r, _, .cons a b => by rw [keyD_at a, keyD_ats b]; rfl
/-- what the dict b holds at the key a -/
def GetD (s : AS) (b a : Dat) (o : Option Dat) : Prop := (∃ es k, DicR s b es ∧ a = keyD k ∧ o = getD es k) ∨ ∃ es k, DicTR s b es ∧ a = .tup (k.map keyD) ∧ o = getD es k
theorem GetD.get {F : AS} {Hf H : Hp} {v w : V} {b a : Dat} {o : Option Dat} (h : GetD s b a o) (R : Rep K F Hf H s) (av : At K Hf v b) (aw : At K Hf w a) : ∃ p o', v = .ref p ∧ DGet H p w o' ∧ ORel K Hf o' o := by
  rcases h with ⟨es, k, h, rfl, rfl⟩ | ⟨es, k, h, rfl, rfl⟩
  · obtain ⟨p, kvs, rfl, h1, h2, h3⟩ := h.get R av
    rw [keyD_at aw]
    exact ⟨p, _, rfl, .inl ⟨kvs, k, h1, rfl, rfl⟩, get_at h2 h3⟩
  · obtain ⟨p, kvs, rfl, h1, h2, h3⟩ := h.get R av
    cases aw with
    | @tup b _ _ h4 h5 =>
      rw [keyD_ats h5] at h4
      exact ⟨p, _, rfl, .inr ⟨kvs, k, b, h1, rfl, R.sub _ _ h4, rfl⟩, get_at h2 h3⟩
theorem g_dget (h : GE e td γ s fun b s1 => GE e ty γ s1 fun a s2 => ∃ d, GetD s2 b a (some d) ∧ Q d s2) : GE e (tDGet td ty) γ s Q := fun F Hf H σ R S X Qc L =>
  h F Hf H σ R S X _ fun x b Hf1 H1 s1 m1 R1 a1 h1 => h1 F Hf1 H1 σ R1 (S.same m1) (X.same m1) _ fun y a Hf2 H2 s2 m2 R2 a2 ⟨d, hg, q⟩ => by
    obtain ⟨p, o', rfl, h3, h4⟩ := hg.get R2 (a1.same m2) a2
    cases o' with
    | none => exact (h4 : False).elim
    | some v => exact ⟨p, v, rfl, h3, L _ _ Hf2 H2 s2 (m1.trans m2) R2 h4 q⟩
theorem orel_some {Hf : Hp} {o' : Option V} {o : Option Dat} (h : ORel K Hf o' o) : o'.isSome = o.isSome := by
  cases o' <;> cases o <;> first | rfl | exact (h : False).elim
theorem g_din (h : GE e ty γ s fun a s1 => GE e td γ s1 fun b s2 => ∃ o, GetD s2 b a o ∧ Q (.bl o.isSome) s2) : GE e (tDIn ty td) γ s Q := fun F Hf H σ R S X Qc L =>
  h F Hf H σ R S X _ fun x b Hf1 H1 s1 m1 R1 a1 h1 => h1 F Hf1 H1 σ R1 (S.same m1) (X.same m1) _ fun y a Hf2 H2 s2 m2 R2 a2 ⟨o, hg, q⟩ => by
    obtain ⟨p, o', rfl, h3, h4⟩ := hg.get R2 a2 (a1.same m2)
    refine ⟨p, o', rfl, h3, ?_⟩
    rw [orel_some h4]
    exact L _ _ Hf2 H2 s2 (m1.trans m2) R2 (.bl _) q
theorem g_dnotin (h : GE e ty γ s fun a s1 => GE e td γ s1 fun b s2 => ∃ o, GetD s2 b a o ∧ Q (.bl (!o.isSome)) s2) : GE e (tDNotIn ty td) γ s Q := fun F Hf H σ R S X Qc L =>
  h F Hf H σ R S X _ fun x b Hf1 H1 s1 m1 R1 a1 h1 => h1 F Hf1 H1 σ R1 (S.same m1) (X.same m1) _ fun y a Hf2 H2 s2 m2 R2 a2 ⟨o, hg, q⟩ => by
    obtain ⟨p, o', rfl, h3, h4⟩ := hg.get R2 a2 (a1.same m2)
    refine ⟨p, o', rfl, h3, ?_⟩
    rw [orel_some h4]
    exact L _ _ Hf2 H2 s2 (m1.trans m2) R2 (.bl _) q
/-- a dict -/
def IsDD (s : AS) (b : Dat) : Prop := (∃ es, DicR s b es) ∨ ∃ es, DicTR s b es
theorem IsDD.get {F : AS} {Hf H : Hp} {v : V} {b : Dat} (h : IsDD s b) (R : Rep K F Hf H s) (av : At K Hf v b) : ∃ p, v = .ref p ∧ IsD H p := by
  rcases h with ⟨es, h⟩ | ⟨es, h⟩
  · obtain ⟨p, kvs, rfl, h1, _⟩ := h.get R av
    exact ⟨p, rfl, .inl ⟨kvs, h1⟩⟩
  · obtain ⟨p, kvs, rfl, h1, _⟩ := h.get R av
    exact ⟨p, rfl, .inr ⟨kvs, h1⟩⟩
theorem g_dget1 (h : GE e td γ s fun b s1 => IsDD s1 b ∧ GE e ty γ s1 fun a s2 => ∃ o, GetD s2 b a o ∧ Q (o.getD .non) s2) : GE e (tDGet1 td ty) γ s Q := fun F Hf H σ R S X Qc L =>
  h F Hf H σ R S X _ fun x b Hf1 H1 s1 m1 R1 a1 ⟨hd, h1⟩ => by
    obtain ⟨p, rfl, hp⟩ := hd.get R1 a1
    refine ⟨p, rfl, hp, h1 F Hf1 H1 σ R1 (S.same m1) (X.same m1) _ fun y a Hf2 H2 s2 m2 R2 a2 ⟨o, hg, q⟩ => ?_⟩
    obtain ⟨p2, o', e2, h3, h4⟩ := hg.get R2 (a1.same m2) a2
    cases e2
    refine ⟨o', h3, L _ _ Hf2 H2 s2 (m1.trans m2) R2 ?_ q⟩
    cases o' <;> cases o <;> first | exact .non | exact h4 | exact (h4 : False).elim
theorem g_dget2 (h : GE e td γ s fun b s1 => IsDD s1 b ∧ GE e ty γ s1 fun a s2 => GE e tx γ s2 fun z s3 => ∃ o, GetD s3 b a o ∧ Q (o.getD z) s3) : GE e (tDGet2 td ty tx) γ s Q := fun F Hf H σ R S X Qc L =>
  h F Hf H σ R S X _ fun x b Hf1 H1 s1 m1 R1 a1 ⟨hd, h1⟩ => by
    obtain ⟨p, rfl, hp⟩ := hd.get R1 a1
    refine ⟨p, rfl, hp, h1 F Hf1 H1 σ R1 (S.same m1) (X.same m1) _ fun y a Hf2 H2 s2 m2 R2 a2 h2 => h2 F Hf2 H2 σ R2 (S.same (m1.trans m2)) (X.same (m1.trans m2)) _ fun z dz Hf3 H3 s3 m3 R3 a3 ⟨o, hg, q⟩ => ?_⟩
    obtain ⟨p2, o', e2, h3, h4⟩ := hg.get R3 (a1.same (m2.trans m3)) (a2.same m3)
    cases e2
    refine ⟨o', h3, L _ _ Hf3 H3 s3 ((m1.trans m2).trans m3) R3 ?_ q⟩
    cases o' <;> cases o <;> first | exact a3 | exact h4 | exact (h4 : False).elim
/-- b[a] = d for a dict of one's own -/
def PutS (s : AS) (b a d : Dat) (s' : AS) : Prop := (∃ p es k, b = .ref p ∧ s p = some (.raw (.dK es)) ∧ a = keyD k ∧ es.length < sizeLine ∧ s' = supd s p (.raw (.dK (putG es k d)))) ∨
  ∃ p es k, b = .ref p ∧ s p = some (.raw (.dT es)) ∧ a = .tup (k.map keyD) ∧ es.length < sizeLine ∧ s' = supd s p (.raw (.dT (putG es k d)))
theorem g_dput (h : GE e tv γ s fun d s1 => GE e td γ s1 fun b s2 => GE e ty γ s2 fun a s3 => ∃ s4, PutS s3 b a d s4 ∧ D.nx γ s4) : GS e (sDPut td ty tv) γ s D := fun F Hf H σ R S X Dc L =>
  h F Hf H σ R S X _ fun v d Hf1 H1 s1 m1 R1 a1 h1 => h1 F Hf1 H1 σ R1 (S.same m1) (X.same m1) _ fun x b Hf2 H2 s2 m2 R2 a2 h2 => h2 F Hf2 H2 σ R2 (S.same (m1.trans m2)) (X.same (m1.trans m2)) _ fun y a Hf3 H3 s3 m3 R3 a3 ⟨s4, hp, q⟩ => by
    have a1' := a1.same (m2.trans m3)
    have a2' := a2.same m3
    have m := (m1.trans m2).trans m3
    rcases hp with ⟨p, es, k, rfl, hp, rfl, hl, rfl⟩ | ⟨p, es, k, rfl, hp, rfl, hl, rfl⟩
    · cases a2
      rw [keyD_at a3]
      obtain ⟨ho, h4, kvs, rfl, h5, h6⟩ := R3.read hp
      obtain ⟨h7, h8⟩ := put_at a1' (k := k) h5 h6
      exact ⟨p, _, rfl, DPut.k h4 (by rw [len_map h5]; exact hl), L.nx σ γ Hf3 _ _ m (R3.write hp (w' := .dK (putG es k d)) ⟨_, rfl, h7, h8⟩) (S.same m) q⟩
    · cases a2
      cases a3 with
      | tup h9 h10 =>
        rw [keyD_ats h10] at h9
        obtain ⟨ho, h4, kvs, rfl, h5, h6⟩ := R3.read hp
        obtain ⟨h7, h8⟩ := put_at a1' (k := k) h5 h6
        exact ⟨p, _, rfl, DPut.t h4 (R3.sub _ _ h9) (by rw [len_map h5]; exact hl), L.nx σ γ Hf3 _ _ m (R3.write hp (w' := .dT (putG es k d)) ⟨_, rfl, h7, h8⟩) (S.same m) q⟩
theorem g_ddel (h : GE e td γ s fun b s1 => GE e ty γ s1 fun a s2 => ∃ p es k, b = .ref p ∧ s2 p = some (.raw (.dK es)) ∧ a = keyD k ∧ (getD es k).isSome = true ∧ D.nx γ (supd s2 p (.raw (.dK (dropG es k))))) : GS e (sDDel td ty) γ s D := fun F Hf H σ R S X Dc L =>
  h F Hf H σ R S X _ fun x b Hf1 H1 s1 m1 R1 a1 h1 => h1 F Hf1 H1 σ R1 (S.same m1) (X.same m1) _ fun y a Hf2 H2 s2 m2 R2 a2 ⟨p, es, k, eb, hp, ea, hs, q⟩ => by
    subst eb ea
    cases a1
    have m := m1.trans m2
    obtain ⟨ho, h4, kvs, rfl, h5, h6⟩ := R2.read hp
    obtain ⟨h7, h8⟩ := drop_at (k := k) h5 h6
    exact ⟨p, kvs, k, rfl, h4, keyD_at a2, by rw [orel_some (get_at (k := k) h5 h6)]; exact hs, L.nx σ γ Hf2 _ _ m (R2.write hp (w' := .dK (dropG es k)) ⟨_, rfl, h7, h8⟩) (S.same m) q⟩
/-- o.f = e -/
def putD (f : Str) (v : Dat) : List (Str × Dat) → List (Str × Dat)
  | [] => [(f, v)]
  | (g, x) :: r => if g = f then (g, v) :: r else (g, x) :: putD f v r
theorem putF_at {Hf : Hp} {f : Str} {v : V} {d : Dat} (a : At K Hf v d) : ∀ {gs : List (Str × V)} {fs : List (Str × Dat)}, gs.map (·.1) = fs.map (·.1) → Ats K Hf (gs.map (·.2)) (fs.map (·.2)) → (putF f v gs).map (·.1) = (putD f d fs).map (·.1) ∧ Ats K Hf ((putF f v gs).map (·.2)) ((putD f d fs).map (·.2))
  | [], [], _, _ => ⟨rfl, .cons a .nil⟩
  | [], _ :: _, h, _ => by cases h
  | _ :: _, [], h, _ => by cases h
  | (g, x) :: r, (k, y) :: q, h, .cons b c => by
    rw [List.map_cons, List.map_cons, List.cons.injEq] at h
    obtain ⟨h1, h2⟩ := h
    dsimp only at h1
    subst h1
    obtain ⟨i1, i2⟩ := putF_at a (f := f) h2 c
    unfold putF putD
    split
    · rw [List.map_cons, List.map_cons, List.map_cons, List.map_cons]
      exact ⟨by rw [h2], .cons a c⟩
    · rw [List.map_cons, List.map_cons, List.map_cons, List.map_cons]
      exact ⟨by rw [i1], .cons b i2⟩
theorem g_sfld {f : Str} (h : GE e tv γ s fun d s1 => GE e ta γ s1 fun a s2 => ∃ o C dx fs, a = .ref o ∧ s2 o = some (.raw (.ins C dx fs)) ∧ Cls e.K C ∧ NoAttr e.K C f ∧ fs.length < 1000 ∧ D.nx γ (supd s2 o (.raw (.ins C dx (putD f d fs))))) : GS e (sFld e.K ta tv f) γ s D := fun F Hf H σ R S X Dc L =>
  h F Hf H σ R S X _ fun y d Hf1 H1 s1 m1 R1 a1 h1 => h1 F Hf1 H1 σ R1 (S.same m1) (X.same m1) _ fun x a Hf2 H2 s2 m2 R2 a2 ⟨o, C, dx, fs, ea, ho, c, n, l, q⟩ => by
    subst ea
    cases a2
    have m := m1.trans m2
    obtain ⟨hh, h4, gs, rfl, h5, h6⟩ := R2.read ho
    obtain ⟨h7, h8⟩ := putF_at (a1.same m2) (f := f) h5 h6
    exact ⟨o, C, dx, gs, rfl, h4, c, n, by rw [len_map h5]; exact l, L.nx σ γ Hf2 _ _ m (R2.write ho (w' := .ins C dx (putD f d fs)) ⟨_, rfl, h7, h8⟩) (S.same m) q⟩
/-- l[i] = d -/
theorem g_setI (h : GE e tv γ s fun d s1 => GE e ta γ s1 fun b s2 => GE e tb γ s2 fun a s3 => ∃ p xs k j, b = .ref p ∧ a = .int k ∧ s3 p = some (.raw (.lst xs)) ∧ ixN xs.length k = some j ∧ D.nx γ (supd s3 p (.raw (.lst (xs.set j d))))) : GS e (tAsg tv (gSub ta tb rSetL)) γ s D := fun F Hf H σ R S X Dc L =>
  h F Hf H σ R S X _ fun y d Hf1 H1 s1 m1 R1 a1 h1 => h1 F Hf1 H1 σ R1 (S.same m1) (X.same m1) _ fun x b Hf2 H2 s2 m2 R2 a2 h2 => h2 F Hf2 H2 σ R2 (S.same (m1.trans m2)) (X.same (m1.trans m2)) _ fun z a Hf3 H3 s3 m3 R3 a3 ⟨p, xs, k, j, eb, ea, hp, hj, q⟩ => by
    subst eb ea
    cases a2
    cases a3
    have m := (m1.trans m2).trans m3
    obtain ⟨ho, h4, ys, rfl, h5⟩ := R3.read hp
    exact ⟨p, ys, k, j, rfl, rfl, h4, by rw [h5.len]; exact hj, L.nx σ γ Hf3 _ _ m (R3.write hp (w' := .lst (xs.set j d)) ⟨_, rfl, h5.set (a1.same (m2.trans m3)) j⟩) (S.same m) q⟩
/-! ### a thing of one's own that is let stand -/
theorem GS.freeze {ts : TS} {p : Addr} {i : Nat} {xs : List Dat} (hp : s p = some (.raw (.lst xs))) (hi : γ[i]? = some (some (.ref p))) (h : GS e ts (γ.set i (some (.lst xs))) (sdel s p) D) : GS e ts γ s D := fun F Hf H σ R S X Dc L => by
  obtain ⟨ho, h1, ⟨ys, rfl, h2⟩, m, R2⟩ := R.freeze hp
  have S2 := S.same m
  refine h F _ H σ R2 ⟨by rw [List.length_set]; exact S2.len, fun j d hj => ?_⟩ (X.same m) Dc (L.same m)
  by_cases z : i = j
  · subst z
    have hl : i < γ.length := by
      rcases Nat.lt_or_ge i γ.length with h | h
      · exact h
      · rw [List.getElem?_eq_none_iff.mpr h] at hi
        cases hi
    rw [List.getElem?_set_self hl] at hj
    cases hj
    obtain ⟨v, e1, e2⟩ := S.at_ i _ hi
    cases e2
    exact ⟨_, e1, .lst upd_same (h2.same m)⟩
  · rw [List.getElem?_set_ne z] at hj
    exact S2.at_ j d hj
theorem g_retF {i : Nat} {p : Addr} {xs : List Dat} (hi : γ[i]? = some (some (.ref p))) (hp : s p = some (.raw (.lst xs))) (q : D.rt (.lst xs) (sdel s p)) : GS e (tRet (tVar i)) γ s D := fun F Hf H σ R S X Dc L => by
  obtain ⟨v, h1, h2⟩ := S.at_ i _ hi
  cases h2
  obtain ⟨ho, h3, ⟨ys, rfl, h4⟩, m, R2⟩ := R.freeze hp
  exact ⟨_, h1, L.rt _ _ _ H _ m R2 (.lst upd_same (h4.same m)) q⟩
theorem GE.freezeR {p : Addr} {xs : List Dat} (hp : s p = some (.raw (.lst xs))) (q : Q (.lst xs) (sdel s p)) {F : AS} {Hf H : Hp} (R : Rep e.K F Hf H s) {Qc : VK} (L : LQ e.K F Hf Q Qc) : Qc (.ref p) H := by
  obtain ⟨ho, h3, ⟨ys, rfl, h4⟩, m, R2⟩ := R.freeze hp
  exact L _ _ _ H _ m R2 (.lst upd_same (h4.same m)) q
/-! ### f-strings, len(set(..)), list(d.items()) -/
theorem g_fmt (h : GE e te γ s fun d s1 => (∃ y : Str, d = .str y ∧ y.length ≤ sizeLine ∧ Q (.str y) s1) ∨ ∃ i : Int, d = .int i ∧ i.natAbs.log2 < 1920 ∧ Q (.str (toString i)) s1) : GE e (tFmt te) γ s Q := fun F Hf H σ R S X Qc L =>
  h F Hf H σ R S X _ fun x a Hf1 H1 s1 m1 R1 a1 q => by
    rcases q with ⟨y, rfl, hl, q⟩ | ⟨i, rfl, hl, q⟩
    · cases a1
      exact .inl ⟨y, rfl, hl, L _ _ Hf1 H1 s1 m1 R1 (.str _) q⟩
    · cases a1
      exact .inr ⟨i, rfl, hl, L _ _ Hf1 H1 s1 m1 R1 (.str _) q⟩
def GJ (e : Ec) (ts : List TE) (acc : Str) (γ : Ga) (s : AS) (Q : Str → AS → Prop) : Prop := ∀ F Hf H σ, Rep e.K F Hf H s → Slots e.K Hf σ γ → LiftX e F Hf → ∀ Qc : Str → Hp → Prop, (∀ z Hf' H' s', Same Hf Hf' → Rep e.K F Hf' H' s' → Q z s' → Qc z H') → tJs ts acc σ H Qc
theorem g_jnil {acc : Str} {Q : Str → AS → Prop} (q : Q acc s) : GJ e [] acc γ s Q := fun F Hf H σ R S X Qc k => k _ Hf H s (Same.refl _) R q
theorem g_jcons {ts : List TE} {acc : Str} {Q : Str → AS → Prop} (h : GE e te γ s fun d s1 => ∃ y : Str, d = .str y ∧ (acc ++ y).length ≤ sizeLine ∧ GJ e ts (acc ++ y) γ s1 Q) : GJ e (te :: ts) acc γ s Q := fun F Hf H σ R S X Qc k =>
  h F Hf H σ R S X _ fun x a Hf1 H1 s1 m1 R1 a1 ⟨y, ed, hl, q⟩ => by
    subst ed
    cases a1
    exact ⟨y, rfl, hl, q F Hf1 H1 σ R1 (S.same m1) (X.same m1) Qc fun z Hf' H' s' m R' q' => k z Hf' H' s' (m1.trans m) R' q'⟩
theorem g_join {ts : List TE} (h : GJ e ts Str.empty γ s fun z s1 => Q (.str z) s1) : GE e (tJoin ts) γ s Q := fun F Hf H σ R S X Qc L =>
  join_go (h F Hf H σ R S X _ fun z Hf' H' s' m R' q => L _ _ Hf' H' s' m R' (.str z) q)
theorem g_lenSet (h : GE e ta γ s fun d s1 => ∃ xs : List Str, LstD s1 d (xs.map Dat.str) ∧ xs.length ≤ 50 ∧ Q (.int (manyS xs : Nat)) s1) : GE e (tLenSetS e.K ta) γ s Q := fun F Hf H σ R S X Qc L =>
  h F Hf H σ R S X _ fun x a Hf1 H1 s1 m1 R1 a1 ⟨xs, hd, hl, q⟩ => by
    obtain ⟨p, ys, rfl, h1, h2⟩ := hd.sq R1 a1
    rw [ats_strs_inv h2] at h1
    exact ⟨p, xs, rfl, SqL.of h1, hl, L _ _ Hf1 H1 s1 m1 R1 (.int _) q⟩
/-! ### entries -/
abbrev ec0 (K : PySem.W.Frag) : Ec := ⟨K, fun _ _ _ _ => True, fun _ _ _ _ => False⟩
abbrev ecX (K : PySem.W.Frag) (E : XK) (Ea : Value → List (Str × Dat) → AS → Prop) : Ec := ⟨K, fun cls d _ H => E cls d H, fun cls fs _ s => Ea cls fs s⟩
def gst (N : List Str) (ds : List Dat) : Ga := ds.map some ++ List.replicate (N.length - ds.length) none
theorem slots0 {Hf : Hp} : ∀ {vs : List V} {ds : List Dat} {n : Nat}, Ats K Hf vs ds → Slots K Hf (vs.map some ++ List.replicate n none) (ds.map some ++ List.replicate n none)
  | _, _, n, .nil => ⟨by rw [List.length_append, List.length_append, List.length_replicate, List.length_replicate]; rfl, fun i d h => by
    rw [List.map_nil, List.nil_append, List.getElem?_replicate] at h
    split at h <;> cases h⟩
  | _, _, n, .cons a r => by
    have ih := slots0 (n := n) r
    refine ⟨?_, fun i d h => ?_⟩
    · rw [List.map_cons, List.map_cons, List.cons_append, List.cons_append, List.length_cons, List.length_cons, ih.len]
    · cases i with
      | zero => cases h; exact ⟨_, rfl, a⟩
      | succ i => exact ih.at_ i d h
theorem slots_start {Hf : Hp} {N : List Str} {vs : List V} {ds : List Dat} (a : Ats K Hf vs ds) : Slots K Hf (L2.start N vs) (gst N ds) := by
  unfold L2.start gst
  rw [a.len]
  exact slots0 a
section
variable {P : Program} {w : World} {mg : Str → Option Value} {base : Heap} {x qual : Str} {st : Stmt} {f : Addr} {fd : FuncData} {N ps : List Str} {k : Nat} {A : ASp}
theorem a_ok (Fn : Fun K x qual st f fd) (Sc : FnScope N ps (defScope st)) (len : ∀ ds s Q E, A ds s Q E → ds.length = ps.length)
    (body : ∀ (cdv : Value) (A' : Around) (outer : List Env) (s0 : Shared) (H0 : Hp) (E : XK), Room k (A'.deeper (envOfC qual (defScope st) s0.heap.objs.size f cdv)) → ∃ t, PSs (cxOf CX0 P w K mg base N qual (defScope st) f cdv A' outer s0 H0 E).nox (defBody st) t ∧
      ∀ ds s Qa Ea, A ds s Qa Ea → GS (ec0 K) t (gst N ds) s { nx := fun _ s' => Qa .non s', rt := Qa }) : FnOk P w K mg base CX0 (k + 1) f fd ps (conc K A) := by
  refine Fn.ok Sc (fun vs H Q E h => ?_) (fun cdv A' outer s0 H vs Q E hr h => ?_)
  · obtain ⟨ds, F, Hf, s, Qa, Ea, R, a, q, _⟩ := h
    exact a.len.trans (len ds s Qa Ea q)
  · obtain ⟨ds, F, Hf, s, Qa, Ea, R, a, q, L, _⟩ := h
    obtain ⟨t, ht, g⟩ := body cdv A' outer s0 H E hr
    exact ⟨t, ht, g ds s Qa Ea q F Hf H _ R (slots_start a) (fun _ _ _ _ _ _ _ _ _ _ _ _ _ => trivial) _ ⟨fun σ γ Hf' H' s' m R' S q' => L _ _ Hf' H' s' m R' .non q', L, fun _ _ _ _ _ _ _ _ z => z.elim, fun _ _ _ _ _ _ _ _ z => z.elim⟩⟩
theorem a_okX (Fn : Fun K x qual st f fd) (Sc : FnScope N ps (defScope st)) (len : ∀ ds s Q E, A ds s Q E → ds.length = ps.length)
    (body : ∀ (cdv : Value) (A' : Around) (outer : List Env) (s0 : Shared) (H0 : Hp) (E : XK), Room k (A'.deeper (envOfC qual (defScope st) s0.heap.objs.size f cdv)) → ∃ t, PSs (cxOf (L2.CX P w) P w K mg base N qual (defScope st) f cdv A' outer s0 H0 E) (defBody st) t ∧
      ∀ ds s Qa Ea, A ds s Qa Ea → GS (ecX K E Ea) t (gst N ds) s { nx := fun _ s' => Qa .non s', rt := Qa }) : FnOk P w K mg base (L2.CX P w) (k + 1) f fd ps (conc K A) := by
  refine Fn.okX Sc (fun vs H Q E h => ?_) (fun cdv A' outer s0 H vs Q E hr h => ?_)
  · obtain ⟨ds, F, Hf, s, Qa, Ea, R, a, q, _⟩ := h
    exact a.len.trans (len ds s Qa Ea q)
  · obtain ⟨ds, F, Hf, s, Qa, Ea, R, a, q, L, X⟩ := h
    obtain ⟨t, ht, g⟩ := body cdv A' outer s0 H E hr
    exact ⟨t, ht, g ds s Qa Ea q F Hf H _ R (slots_start a) (fun cls d fs γ s2 σ Hf2 H2 m R2 S er z => X cls d fs Hf2 H2 s2 m R2 er z) _ ⟨fun σ γ Hf' H' s' m R' S q' => L _ _ Hf' H' s' m R' .non q', L, fun _ _ _ _ _ _ _ _ z => z.elim, fun _ _ _ _ _ _ _ _ z => z.elim⟩⟩
end
/-! ### raising, trying -/
theorem g_raise1 {C : Addr} {f : Str} (h : GA e tA γ s fun ds s1 => ∃ d, ds = [d] ∧ e.Ax (.ref C) [(f, d)] γ s1) : GS e (tRaise e.W (tErr1 C f tA)) γ s D := fun F Hf H σ R S X Dc L =>
  h F Hf H σ R S X _ fun xs ds Hf1 H1 s1 m1 R1 a1 ⟨d, ed, q⟩ => by
    subst ed
    obtain ⟨v, rfl, av⟩ := ats1 a1
    refine ⟨v, rfl, fun dd hd => ?_⟩
    obtain ⟨R2, m2⟩ := R1.grow hd (.xd [(f, v)])
    exact X _ _ [(f, d)] γ s1 σ _ _ (m1.trans m2) R2 (S.same (m1.trans m2)) (.inr ⟨dd, [(f, v)], rfl, upd_same, rfl, .cons (av.same m2) .nil⟩) q
theorem g_raise2 {C : Addr} {f g : Str} (h : GA e tA γ s fun ds s1 => ∃ d d2, ds = [d, d2] ∧ e.Ax (.ref C) [(g, d2), (f, d)] γ s1) : GS e (tRaise e.W (tErr2 C f g tA)) γ s D := fun F Hf H σ R S X Dc L =>
  h F Hf H σ R S X _ fun xs ds Hf1 H1 s1 m1 R1 a1 ⟨d, d2, ed, q⟩ => by
    subst ed
    obtain ⟨v, w, rfl, av, aw⟩ := ats2 a1
    refine ⟨v, w, rfl, fun dd hd => ?_⟩
    obtain ⟨R2, m2⟩ := R1.grow hd (.xd [(g, w), (f, v)])
    exact X _ _ [(g, d2), (f, d)] γ s1 σ _ _ (m1.trans m2) R2 (S.same (m1.trans m2)) (.inr ⟨dd, [(g, w), (f, v)], rfl, upd_same, rfl, .cons (aw.same m2) (.cons (av.same m2) .nil)⟩) q
theorem g_raise0 {C : Addr} (h : e.Ax (.ref C) [] γ s) : GS e (tRaise e.W (tErr0 C)) γ s D := fun F Hf H σ R S X Dc L => X _ _ [] γ s σ _ _ (Same.refl _) R S (.inl ⟨rfl, rfl⟩) h
end
end AL
namespace AL
open PySem PySem.Spec PyProof.Rows L2 Ls
section
variable {K : PySem.W.Frag} {F : AS} {H H' Hf Hf' : Hp} {s s' : AS} {p : Addr}
def chg (C : Addr → Option Raw) (s : AS) : AS := fun a => match C a with | some w => some (.raw w) | none => s a
theorem chg_some {C : Addr → Option Raw} {s : AS} {a : Addr} {w : Raw} (h : C a = some w) : chg C s a = some (.raw w) := by unfold chg; rw [h]
theorem chg_none {C : Addr → Option Raw} {s : AS} {a : Addr} (h : C a = none) : chg C s a = s a := by unfold chg; rw [h]
/-- things of one's own, changed by what one does not look into -/
theorem Rep.change (R : Rep K F Hf H s) (C : Addr → Option Raw) (hC : ∀ a w, C a = some w → (∃ w0, s a = some (.raw w0)) ∧ ∃ ho, H' a = some ho ∧ RawHO K Hf w ho) (hO : ∀ a o, C a = none → H a = some o → H' a = some o) : Rep K F Hf H' (chg C s) := by
  obtain ⟨φ, h1, h2⟩ := R.r0.ex
  have hs : ∀ a w, C a = some w → φ a = some a := fun a w h => by
    obtain ⟨⟨w0, h0⟩, _⟩ := hC a w h
    exact (h2 a _ (jn_s h0)).1
  have hH : ∀ a, H a ≠ none → H' a ≠ none := fun a h => by
    cases c : C a with
    | some w =>
      obtain ⟨_, ho, h3, _⟩ := hC a w c
      rw [h3]
      simp
    | none =>
      cases z : H a with
      | none => exact absurd z h
      | some o => rw [hO a o c z]; simp
  refine ⟨⟨fun b u e => ?_, φ, fun a r e => ?_, fun r c e => ?_⟩, fun a c e => ?_⟩
  · cases z : C b with
    | none => exact hO b u z (R.sub _ _ e)
    | some w =>
      obtain ⟨⟨w0, h0⟩, _⟩ := hC b w z
      rw [(R.r0.off (jn_s h0))] at e
      cases e
  · obtain ⟨a1, a2, a3⟩ := h1 a r e
    refine ⟨a1, hH a a2, ?_⟩
    cases z : C r with
    | some w => rw [jn_s (chg_some z)]; simp
    | none =>
      unfold jn
      rw [chg_none z]
      exact a3
  · cases z : C r with
    | some w =>
      rw [jn_s (chg_some z)] at e
      cases e
      exact ⟨hs r w z, (hC r w z).2⟩
    | none =>
      have e' : jn s F r = some c := by
        unfold jn at e ⊢
        rw [chg_none z] at e
        exact e
      obtain ⟨k1, k2⟩ := h2 r c e'
      refine ⟨k1, ?_⟩
      have keep : ∀ a, φ a = some r → ∀ ho, H a = some ho → H' a = some ho := fun a ha ho e3 => by
        cases y : C a with
        | none => exact hO a ho y e3
        | some w =>
          have := hs a w y
          rw [this] at ha
          cases ha
          rw [z] at y
          cases y
      exact k2.imp (Same.refl _) (fun a ha => ⟨ha, keep a ha⟩) k1
  · cases z : C a with
    | some w =>
      obtain ⟨⟨w0, h0⟩, _⟩ := hC a w z
      exact R.dis a _ h0
    | none =>
      rw [chg_none z] at e
      exact R.dis a c e
end
/-! ### the stream -/
def StrmC (S L : Addr) (n : Nat) (sm : Addr → Option Raw) : Prop := S ≠ L ∧ (∃ (ns : List Int) (d c m : Int), sm S = some (.lst [.ref L, .int d, .int c, .int m]) ∧ sm L = some (.lst (ns.map Dat.int)) ∧ 0 ≤ d ∧ 0 ≤ c ∧ c ≤ (n : Int) ∧ 0 ≤ m ∧ m < 2147483647) ∧ ∀ a, a ≠ S → a ≠ L → sm a = none
abbrev StrmB (S L : Addr) (n : Nat) : Cell := .box (StrmC S L n)
def aDraw : ASp := fun ds s Q _ => ∃ (S L : Addr) (n : Nat) (k : Int), ds = [.ref S, .int k] ∧ s S = some (StrmB S L n) ∧ n ≤ 10000000 ∧ 0 < k ∧ k ≤ 10 ^ 40 ∧ ∀ r : Int, 0 ≤ r → r < k → Q (.int r) (supd s S (StrmB S L (n + 1)))
def smS (S L : Addr) (ns : List Int) (d c m : Int) (a : Addr) : Option Raw := if a = S then some (.lst [.ref L, .int d, .int c, .int m]) else if a = L then some (.lst (ns.map Dat.int)) else none
theorem smS_ok {S L : Addr} {n : Nat} {ns : List Int} {d c m : Int} (ne : S ≠ L) (h3 : 0 ≤ d ∧ 0 ≤ c ∧ c ≤ (n : Int) ∧ 0 ≤ m ∧ m < 2147483647) : StrmC S L n (smS S L ns d c m) := by
  refine ⟨ne, ⟨ns, d, c, m, ?_, ?_, h3⟩, fun a n1 n2 => ?_⟩
  · unfold smS
    rw [if_pos rfl]
  · unfold smS
    rw [if_neg (Ne.symm ne), if_pos rfl]
  · unfold smS
    rw [if_neg n1, if_neg n2]
theorem stm_cells {S L : Addr} {n : Nat} {H : Hp} (h : Stm H S L n) : ∃ sm, StrmC S L n sm ∧ ∀ (K : PySem.W.Frag) (Hf : Hp) a w, sm a = some w → ∃ ho, H a = some ho ∧ RawHO K Hf w ho := by
  classical
  have ne := h.ne
  obtain ⟨ns, d, c, m, h1, h2, h3⟩ := h
  refine ⟨smS S L ns d c m, smS_ok ne h3, fun K Hf a w e => ?_⟩
  unfold smS at e
  split at e
  · rename_i z
    cases e
    exact ⟨_, by rw [z]; exact h1, _, rfl, .cons (.ref L) (.cons (.int d) (.cons (.int c) (.cons (.int m) .nil)))⟩
  · split at e
    · rename_i z
      cases e
      exact ⟨_, by rw [z]; exact h2, _, rfl, ats_ints ns⟩
    · cases e
section
variable {K : PySem.W.Frag} {F : AS} {H H' Hf Hf' : Hp} {s : AS} {S L : Addr} {n : Nat}
theorem Rep.strm (R : Rep K F Hf H s) (h : s S = some (StrmB S L n)) : Stm H S L n ∧ Hf S = none ∧ Hf L = none ∧ (∀ a, a ≠ S → s a ≠ none → a ≠ L) ∧ H S ≠ none ∧ H L ≠ none ∧
    ∀ H' m, Old S L H H' → Stm H' S L m → Rep K F Hf H' (supd s S (StrmB S L m)) := by
  obtain ⟨sm, ⟨ne, ⟨ns, d, c, m, h1, h2, h3⟩, h4⟩, ap, R2⟩ := R.open h
  obtain ⟨ho, k1, xs, rfl, k2⟩ := R2.read (ovr_some h1)
  obtain ⟨ho, j1, ys, rfl, j2⟩ := R2.read (ovr_some h2)
  have ex : xs = [.ref L, .int d, .int c, .int m] := by
    cases k2 with
    | cons a r =>
      cases a
      cases r with
      | cons a r =>
        cases a
        cases r with
        | cons a r =>
          cases a
          cases r with
          | cons a r =>
            cases a
            cases r
            rfl
  subst ex
  rw [ats_ints_inv j2] at j1
  have hSL : ∀ a, a ≠ S → s a ≠ none → a ≠ L := fun a n1 n2 z => by
    rcases ap L (by rw [h2]; simp) with e | e
    · exact ne e.symm
    · exact n2 (z ▸ e)
  refine ⟨⟨ns, d, c, m, k1, j1, h3⟩, R2.r0.off (jn_s (ovr_some h1)), R2.r0.off (jn_s (ovr_some h2)), hSL, by rw [k1]; simp, by rw [j1]; simp, fun H' m' old st => ?_⟩
  obtain ⟨sm', hC, hr⟩ := stm_cells st
  have dom : ∀ a w, sm' a = some w → a = S ∨ a = L := fun a w e => by
    by_cases z : a = S
    · exact .inl z
    · by_cases z2 : a = L
      · exact .inr z2
      · rw [hC.2.2 a z z2] at e
        cases e
  have inS : ∀ a, sm' a = none → a ≠ S ∧ a ≠ L := fun a e => by
    obtain ⟨_, ⟨_, _, _, _, q1, q2, _⟩, _⟩ := hC
    refine ⟨fun z => ?_, fun z => ?_⟩
    · rw [z, q1] at e
      cases e
    · rw [z, q2] at e
      cases e
  have R3 := R2.change (H' := H') sm' (fun a w e => ⟨by
    rcases dom a w e with z | z
    · exact ⟨_, by rw [z]; exact ovr_some h1⟩
    · exact ⟨_, by rw [z]; exact ovr_some h2⟩, hr K Hf a w e⟩) fun a o e e2 => old a o (inS a e).1 (inS a e).2 e2
  refine R3.close hC (by obtain ⟨_, ⟨_, _, _, _, q1, _⟩, _⟩ := hC; rw [q1]; simp) (fun a w e => chg_some e) fun a c n1 e => ?_
  have nL := hSL a n1 (by rw [e]; simp)
  have nn := hC.2.2 a n1 nL
  refine ⟨?_, nn⟩
  rw [chg_none nn, ovr_ne (h4 a n1 nL) n1]
  exact e
/-- a stream of one's own cells is put into its box -/
theorem Rep.strmBox (R : Rep K F Hf H s) {ns : List Int} {d c m : Int} (h1 : s S = some (.raw (.lst [.ref L, .int d, .int c, .int m]))) (h2 : s L = some (.raw (.lst (ns.map Dat.int)))) (ne : S ≠ L) (h3 : 0 ≤ d ∧ 0 ≤ c ∧ c ≤ (n : Int) ∧ 0 ≤ m ∧ m < 2147483647) : Rep K F Hf H (supd (sdel s L) S (StrmB S L n)) := by
  classical
  refine R.close (P := StrmC S L n) (sm := smS S L ns d c m) (smS_ok ne h3) (by unfold smS; rw [if_pos rfl]; simp) (fun a w e => ?_) fun a c n1 e => ?_
  · unfold smS at e
    split at e
    · rename_i z
      cases e
      rw [z]
      exact h1
    · split at e
      · rename_i z
        cases e
        rw [z]
        exact h2
      · cases e
  · have nL : a ≠ L := fun z => by rw [z, sdel_same] at e; cases e
    rw [sdel_ne nL] at e
    exact ⟨e, by unfold smS; rw [if_neg n1, if_neg nL]⟩
end
theorem GS.strmBox {e : Ec} {ts : TS} {γ : Ga} {s : AS} {D : AD} {S L : Addr} {n : Nat} {ns : List Int} {d c m : Int} (h1 : s S = some (.raw (.lst [.ref L, .int d, .int c, .int m]))) (h2 : s L = some (.raw (.lst (ns.map Dat.int)))) (ne : S ≠ L) (h3 : 0 ≤ d ∧ 0 ≤ c ∧ c ≤ (n : Int) ∧ 0 ≤ m ∧ m < 2147483647)
    (h : GS e ts γ (supd (sdel s L) S (StrmB S L n)) D) : GS e ts γ s D := fun F Hf H σ R S2 X Dc LL => h F Hf H σ (R.strmBox h1 h2 ne h3) S2 X Dc LL
theorem draw_conc {K : PySem.W.Frag} {vs : List V} {H : Hp} {Q : VK} {E : XK} (h : conc K aDraw vs H Q E) : spDraw vs H Q E := by
  obtain ⟨ds, F, Hf, s, Qa, Ea, R, a, ⟨S, L, n, k, rfl, hs, hn, h0, h1, q⟩, LL, _⟩ := h
  obtain ⟨v, w, rfl, av, aw⟩ := ats2 a
  cases av
  cases aw
  obtain ⟨st, fS, fL, _, _, _, ch⟩ := R.strm hs
  exact ⟨S, L, n, k, rfl, st, hn, h0, h1, fun H' r r0 r1 st' old => LL _ _ Hf H' _ (Same.refl _) (ch H' _ old st') (.int r) (q r r0 r1)⟩
/-! ### the law's own entry -/
def scrD (K : PySem.W.Frag) (ns : List Int) : Dat := .ob fun H a => SqL K H a (ns.map V.int)
theorem scr_at {K : PySem.W.Frag} {H : Hp} {a : Addr} {ns : List Int} (h : SqL K H a (ns.map V.int)) : At K H (.ref a) (scrD K ns) := .ob fun H' s => s.seq h
theorem co_listO {K : PySem.W.Frag} : COk K (fun xs H Q => ∃ p ys, xs = [.ref p] ∧ (SqL K H p ys ∨ SqT K H p ys) ∧ ∀ l, H l = none → Q (.ref l) (upd H l (.lst ys))) (fun ds s Q => ∃ ns : List Int, ds = [scrD K ns] ∧ ∀ p, s p = none → Q (.ref p) (supd s p (.raw (.lst (ns.map Dat.int))))) := by
  rintro F Hf H s xs ds Q Qc R a L ⟨ns, rfl, q⟩
  obtain ⟨v, rfl, av⟩ := ats1 a
  cases av with
  | ob h =>
    refine ⟨_, _, rfl, .inl (R.sub.seq (h _ (Same.refl _))), fun l hl => ?_⟩
    exact L _ _ Hf _ _ (Same.refl _) (R.new hl (w := .lst (ns.map Dat.int)) ⟨_, rfl, ats_ints ns⟩) (.ref l) (q l (R.free hl).1)
/-- the law's promise: at every script it gives True -/
def aLaw (K : PySem.W.Frag) : ASp := fun ds s Q _ => ∃ ns : List Int, ns.length ≤ 63 ∧ ds = [scrD K ns] ∧ s = (fun _ => none) ∧ ∀ s', Q (.bl true) s'
theorem law_want {K : PySem.W.Frag} {H : Hp} {a : Addr} {ns : List Int} (hl : ns.length ≤ 63) (h : SqL K H a (ns.map V.int)) : conc K (aLaw K) [.ref a] H (fun v _ => v = .bl true) E0 := by
  refine ⟨[scrD K ns], fun _ => none, H, fun _ => none, fun d _ => d = .bl true, noX, ⟨⟨Same.refl _, fun _ => none, fun a r e => (by cases e), fun r c e => (by cases e)⟩, fun a c e => (by cases e)⟩, .cons (scr_at h) .nil, ⟨ns, hl, rfl, rfl, fun _ => rfl⟩, fun v d Hf' H' s' _ _ av ed => ?_, fun _ _ _ _ _ _ _ _ _ z => z.elim⟩
  subst ed
  cases av
  rfl
section
variable {P : Program} {w : World} {K : PySem.W.Frag} {mg : Str → Option Value} {base : Heap} {x qual : Str} {st : Stmt} {f : Addr} {fd : FuncData} {N ps : List Str} {k : Nat} {A : ASp}
theorem a_okG (Fn : Fun K x qual st f fd) (Sc : FnScope N ps (defScope st)) (len : ∀ ds s Q E, A ds s Q E → ds.length = ps.length)
    (body : ∀ (cdv : Value) (A' : Around) (outer : List Env) (s0 : Shared) (H0 : Hp) (E : XK), A'.guards = some [] → Room k (A'.deeper (envOfC qual (defScope st) s0.heap.objs.size f cdv)) → ∃ t, PSs (cxOf CX0 P w K mg base N qual (defScope st) f cdv A' outer s0 H0 E).nox (defBody st) t ∧
      ∀ ds s Qa Ea, A ds s Qa Ea → GS (ec0 K) t (gst N ds) s { nx := fun _ s' => Qa .non s', rt := Qa }) : FnG P w K mg base CX0 (k + 1) f fd ps (conc K A) := by
  refine fun_okG Fn Sc (fun vs H Q E h => ?_) (fun cdv A' outer s0 H vs Q E hgd hr h => ?_)
  · obtain ⟨ds, F, Hf, s, Qa, Ea, R, a, q, _⟩ := h
    exact a.len.trans (len ds s Qa Ea q)
  · obtain ⟨ds, F, Hf, s, Qa, Ea, R, a, q, L, _⟩ := h
    obtain ⟨t, ht, g⟩ := body cdv A' outer s0 H E hgd hr
    exact ⟨t, ht, g ds s Qa Ea q F Hf H _ R (slots_start a) (fun _ _ _ _ _ _ _ _ _ _ _ _ _ => trivial) _ ⟨fun σ γ Hf' H' s' m R' S q' => L _ _ Hf' H' s' m R' .non q', L, fun _ _ _ _ _ _ _ _ z => z.elim, fun _ _ _ _ _ _ _ _ z => z.elim⟩⟩
end
theorem nox_K {CX : CXT} {P : Program} {w : World} {K : PySem.W.Frag} {mg : Str → Option Value} {base : Heap} {N : List Str} {qual : Str} {scope : Scope} {f : Addr} {cd : Value} {A : Around} {outer : List Env} {s : Shared} {H : Hp} {E : XK} : (cxOf CX P w K mg base N qual scope f cd A outer s H E).nox.K = K := rfl
theorem cx_K {CX : CXT} {P : Program} {w : World} {K : PySem.W.Frag} {mg : Str → Option Value} {base : Heap} {N : List Str} {qual : Str} {scope : Scope} {f : Addr} {cd : Value} {A : Around} {outer : List Env} {s : Shared} {H : Hp} {E : XK} : (cxOf CX P w K mg base N qual scope f cd A outer s H E).K = K := rfl
end AL
namespace Ls
open PySem PySem.Spec PyProof.Rows L2
/-! ### enumerate(v), v a tuple or a text -/
set_option maxHeartbeats 1000000 in
theorem meets_enum1 {v : Value} {o : Obj} {G : Heap → Prop} (B : Begins v o G) : Meets (Builtin.«enumerate.__new__» ⟨[.type "enumerate", v], []⟩) (fun _ R s => G s.heap ∧
    R (.ok (.ret (.ref (s.heap.push o).objs.size))) { s with heap := (s.heap.push o).push { cls := .type "enumerate", data := .fields #[.none, .bool false, .ref s.heap.objs.size, rawInt 0, .none, .none] } }) :=
  .of_wp fun prog w A R s h => by
    obtain ⟨hp, g, d, tk, os⟩ := s
    obtain ⟨h1, h⟩ := h
    have hsub := sub_enumerate
    have q1 : ∀ {A2 : Around} {E : Value → Shared → Prop} {Q : Value → Shared → Prop}, Q (.ref hp.objs.size) ⟨hp.push o, g, d, tk, os⟩ → wpAny (model prog w) A2 (pyIter v) Q E ⟨hp, g, d, tk, os⟩ := fun q => B.iter prog w _ _ ⟨hp, g, d, tk, os⟩ _ h1 q
    wp_walk using q1
    refine wpAny_stack_any fun st => wpAny_pure ?_
    split
    · rename_i c _ _ _ _ _
      cases (c == Value.type "enumerate") <;> (wp_walk using q1; exact ⟨_, rfl, h⟩)
    · wp_walk using q1
      exact ⟨_, rfl, h⟩
section
variable {prog : Program} {w : World} {A : Around} {E : Value → Shared → Prop} {s : Shared}
theorem enum_begin1 {v : Value} {o : Obj} {G : Heap → Prop} {Q : Value → Shared → Prop} (B : Begins v o G) (h1 : G s.heap)
    (h : ∀ h2, IsEnum h2 (s.heap.objs.size + 1) s.heap.objs.size 0 .none → h2.get? s.heap.objs.size = some o → h2.objs.size = s.heap.objs.size + 2 → (∀ b u, s.heap.get? b = some u → h2.get? b = some u) → Q (.ref (s.heap.objs.size + 1)) { s with heap := h2 }) :
    wpAny (model prog w) A (call (.type "enumerate") [v]) Q E s := by
  refine callType_new F.called_enumerate (by decide) (F.typeCall_enumerate_1 _) (F.newCall_enumerate_1 _) (fun obj => F.args_object_init_2 obj _) F.entry_enumerate_new (meets_enum1 B) ⟨h1, ?_⟩
  have hz : (s.heap.push o).objs.size = s.heap.objs.size + 1 := Heap.size_push ..
  show _ ∧ _
  rw [hz]
  have he : IsEnum ((s.heap.push o).push { cls := .type "enumerate", data := .fields #[.none, .bool false, .ref s.heap.objs.size, rawInt 0, .none, .none] }) (s.heap.objs.size + 1) s.heap.objs.size 0 .none := by
    have q := Heap.get?_push_size (s.heap.push o) (o := { cls := .type "enumerate", data := .fields #[.none, .bool false, .ref s.heap.objs.size, rawInt 0, .none, .none] }) rfl
    rw [hz] at q
    exact q
  exact ⟨⟨_, he, rfl⟩, h _ he (Heap.get?_push_of_some _ (Heap.get?_push_size _ B.free)) (by rw [Heap.size_push, hz]) fun b u x => Heap.get?_push_of_some _ (Heap.get?_push_of_some _ x)⟩
end
/-- the tuple at a, each item in a new pair behind its place -/
def ItEt (K : PySem.W.Frag) (a : Addr) : It :=
  ⟨fun i H => ∃ (xs : List V) (x : V), SqT K H a xs ∧ xs[i]? = some x, fun i H v H' => ∃ T x, v = .ref T ∧ H T = none ∧ H' = upd H T (.tup [.int (i : Nat), x]) ∧ ∀ xs, SqT K H a xs → xs[i]? = some x, fun i H => ∃ xs : List V, SqT K H a xs ∧ xs.length = i⟩
theorem walk_enumT {K : PySem.W.Frag} {a : Addr} {xs : List V} : Walk (ItEt K a) xs.length (fun H => SqT K H a xs) (YPair (fun i => some (.int (i : Nat))) (fun i => xs[i]?)) := by
  refine ⟨fun i _ hi q => ⟨xs, xs[i], q, by simp [hi]⟩, fun _ q => ⟨xs, q, rfl⟩, fun i H v H' _ q y => ?_⟩
  obtain ⟨T, x, h1, h2, h3, h4⟩ := y
  exact ⟨T, .int (i : Nat), x, h1, h2, h3, rfl, h4 xs q⟩
/-- the text z, each sign in a new pair behind its place -/
def ItEs (z : Str) : It :=
  ⟨fun i _ => i < z.cps.size, fun i H v H' => ∃ T x, v = .ref T ∧ H T = none ∧ H' = upd H T (.tup [.int (i : Nat), x]) ∧ (signs z)[i]? = some x, fun i _ => i = z.cps.size⟩
theorem walk_enumS {z : Str} : Walk (ItEs z) z.cps.size (fun _ => True) (YPair (fun i => some (.int (i : Nat))) (fun i => (signs z)[i]?)) := by
  refine ⟨fun i _ hi _ => hi, fun _ _ => rfl, fun i H v H' _ _ y => ?_⟩
  obtain ⟨T, x, h1, h2, h3, h4⟩ := y
  exact ⟨T, .int (i : Nat), x, h1, h2, h3, rfl, h4⟩
section
variable {P : Program} {w : World} {K : PySem.W.Frag} {elts : List Expr} {kk : Nat} {tpos : Pos}
/-- behind the drawing of an item: the new pair -/
theorem enum_out {X : Cx} {pins : List (Addr × Obj)} {σ : L2.St} {H : Hp} {s : Shared} {e it : Addr} {i : Nat} {x : V} {u : Value} {h2 : Heap} {tk : Tok} {E : Value → Shared → Prop} {R : Heap → Prop} {elts : List Expr} {kk : Nat} {tpos : Pos} (I : Inv X pins σ H s) (hel : e < s.heap.objs.size) (hil : it < s.heap.objs.size) (hne : e ≠ it) (hf : ∀ b ∈ [e, it], FpOk X pins H b) (ru : RelV x u)
    (ho : IsEnumOut h2 e it ((i : Int) + 1) u s.heap.objs.size) (hT : h2.get? s.heap.objs.size = some { cls := .type "tuple", data := .seq #[.int i tk, u] }) (hk : ∀ b o, b ≠ e → b ≠ it → s.heap.get? b = some o → h2.get? b = some o)
    (hq : ∀ h3, (∀ b, b ≠ e → h3.get? b = h2.get? b) → (∃ old, IsEnum h3 e it (((i + 1 : Nat) : Nat) : Int) old) → R h3) {Y : V → Hp → Prop} (hY : Y (.ref s.heap.objs.size) (upd H s.heap.objs.size (.tup [.int (i : Nat), x]))) :
    wpAny (model X.prog X.w) X.A (letOwnedTupleGo (.Tuple elts kk tpos) (.ref e) (.ref s.heap.objs.size)) (fun _ s2 => ∃ x' H', Inv X pins σ H' s2 ∧ RelV x' (.ref s.heap.objs.size) ∧ Y x' H' ∧ R s2.heap ∧ ∀ b ∈ [e, it], H' b = none) E { s with heap := h2, toks := tk + 1 } := by
  refine wpAny_letOwnedTupleGo_enum (s := { s with heap := h2, toks := tk + 1 }) ho fun h3 he3 sb => ?_
  have hT2 : h3.get? s.heap.objs.size = some { cls := .type "tuple", data := .seq #[.int i tk, u] } := (sb.2 _ (Nat.ne_of_gt hel)).trans hT
  have new : ObjOk X.prog X.w (upd H s.heap.objs.size (.tup [.int (i : Nat), x])) h3 s.heap.objs.size (.tup [.int (i : Nat), x]) :=
    ⟨by show 2 ≤ sizeLine; decide, [.int i tk, u], .cons ⟨_, rfl⟩ (.cons ru .nil), ⟨_, hT2, rfl, _, rfl⟩⟩
  have I1 : Inv X pins σ (upd H s.heap.objs.size (.tup [.int (i : Nat), x])) { s with heap := h3, toks := tk + 1 } :=
    I.turnedNew (ch := [e, it]) (fun b o hb z => (sb.2 b (fun q => hb (by simp [q]))).trans (hk b o (fun q => hb (by simp [q])) (fun q => hb (by simp [q])) z)) hf (Nat.le_refl _) new
  refine ⟨.ref s.heap.objs.size, _, I1, rfl, hY, hq h3 (fun b hb => sb.2 b hb) ⟨u, ?_⟩, fun b hb => ?_⟩
  · have e1 : ((i + 1 : Nat) : Int) = (i : Int) + 1 := by omega
    rw [e1]
    exact he3
  · have hb2 : b < s.heap.objs.size := by
      have e2 : b = e ∨ b = it := by simpa using hb
      rcases e2 with q | q <;> rw [q] <;> assumption
    rw [upd_ne (Nat.ne_of_lt hb2)]
    exact (hf b hb).1
theorem turn_enumT (a e it : Addr) : Turn P w K (.Tuple elts kk tpos) (ItEt K a) [e, it] e (fun i h => (∃ old, IsEnum h e it ((i : Nat) : Int) old) ∧ h.IsTupleIter it a i ∧ e ≠ it) where
  mem := by simp
  obj := fun i h st b hb => by
    obtain ⟨⟨old, he⟩, ⟨o, ho, hc, hd⟩, _⟩ := st
    have e2 : b = e ∨ b = it := by simpa using hb
    rcases e2 with q | q
    · rw [q]; exact ⟨_, he, fun v z => nomatch z⟩
    · rw [q]; exact ⟨o, ho, fun v z => by rw [hd] at z; cases z⟩
  keep := fun i h h' st k => let ⟨⟨old, he⟩, hi, hne⟩ := st; ⟨⟨old, k e (by simp) _ he⟩, hi.at fun o q => k it (by simp) o q, hne⟩
  item := by
    intro X hP hw hK hc i pins s σ H E I hf st hg
    subst hP hw hK
    obtain ⟨⟨old, he⟩, hit, hne⟩ := st
    obtain ⟨xs, x, hq, hx⟩ := hg
    obtain ⟨its, rv, p, hz⟩ := I.tuple hq
    obtain ⟨u, hu, ru⟩ := rv.get hx
    have hai : a ≠ it := fun z => by
      obtain ⟨o, ho, hc1, _⟩ := hit
      obtain ⟨o2, ho2, hc2, _⟩ := p
      rw [z, ho] at ho2
      cases ho2
      rw [hc1] at hc2
      exact absurd hc2 (by decide)
    have hi : i < its.toArray.size := by
      rw [List.size_toArray]
      exact (List.getElem?_eq_some_iff.mp hu).1
    have hea : e ≠ a := fun z => by
      obtain ⟨o2, ho2, hc2, _⟩ := p
      rw [← z] at ho2
      have := he.symm.trans ho2
      cases this
      simp at hc2
    refine wpAny_pyNext_enum_itemD (Draws.tuple (prog := X.prog) (w := X.w) (A := X.A.in1) (I.ok.hd hc) it a hai its.toArray) he ⟨hit, p⟩ hi hne (by simp [hne, hea]) fun v h2 tk hP ho hs2 hT hsz hk => ?_
    have ev : v = u := by
      have z : its[i]? = some v := by simpa using hP
      rw [hu] at z
      exact (Option.some.inj z).symm
    subst ev
    refine ⟨_, rfl, wpAny_mono (enum_out (R := fun h3 => (∃ old, IsEnum h3 e it (((i + 1 : Nat) : Nat) : Int) old) ∧ h3.IsTupleIter it a (i + 1) ∧ e ≠ it) (Y := fun v H' => (ItEt X.K a).yld i H v H') I (Heap.lt_size he) (by obtain ⟨_, z, _⟩ := hit; exact Heap.lt_size z) hne hf ru ho hT hk (fun h3 k3 he3 => ⟨he3, hs2.1.at fun o z => (k3 it (Ne.symm hne)).trans z, hne⟩) ?_) (fun _ s2 z => ?_) fun _ _ z => z⟩
    · exact ⟨_, x, rfl, I.hok.fresh (Nat.le_refl _), rfl, fun ys hy => by rw [I.tuple_inj hy hq]; exact hx⟩
    · exact z
  done := by
    intro X hP hw hK hc i pins s σ H E I hf st hg
    subst hP hw hK
    obtain ⟨⟨old, he⟩, hit, hne⟩ := st
    obtain ⟨xs, hq, hx⟩ := hg
    obtain ⟨its, rv, p, hz⟩ := I.tuple hq
    have hai : a ≠ it := fun z => by
      obtain ⟨o, ho, hc1, _⟩ := hit
      obtain ⟨o2, ho2, hc2, _⟩ := p
      rw [z, ho] at ho2
      cases ho2
      rw [hc1] at hc2
      exact absurd hc2 (by decide)
    have hn : i = its.toArray.size := by rw [List.size_toArray, ← rv.length, hx]
    rw [hn] at hit he
    obtain ⟨f0, f1, f2, f3, f4, f5⟩ := hf it (by simp)
    exact wpAny_pyNext_enum_endD (Draws.tuple (prog := X.prog) (w := X.w) (A := X.A.in1) (I.ok.hd hc) it a hai its.toArray) he ⟨hit, p⟩ fun h' eb => ⟨rfl, I.turned (t' := s.toks) (fun b o hb q => eb b o hb q) f0 f1 f3 f4 f5⟩
  self := fun A i s Q E st h => let ⟨⟨_, he⟩, _⟩ := st; wpAny_pyIter_enum he h
theorem turn_enumS (z : Str) (tk0 : Tok) (e it : Addr) : Turn P w K (.Tuple elts kk tpos) (ItEs z) [e, it] e (fun i h => (∃ old, IsEnum h e it ((i : Nat) : Int) old) ∧ h.IsStrIter it (strIterType z) z tk0 i ∧ e ≠ it) where
  mem := by simp
  obj := fun i h st b hb => by
    obtain ⟨⟨old, he⟩, ⟨o, ho, hc, hd⟩, _⟩ := st
    have e2 : b = e ∨ b = it := by simpa using hb
    rcases e2 with q | q
    · rw [q]; exact ⟨_, he, fun v z => nomatch z⟩
    · rw [q]; exact ⟨o, ho, fun v z => by rw [hd] at z; cases z⟩
  keep := fun i h h' st k => let ⟨⟨old, he⟩, hi, hne⟩ := st; ⟨⟨old, k e (by simp) _ he⟩, (let ⟨o, ho, r⟩ := hi; ⟨o, k it (by simp) o ho, r⟩), hne⟩
  item := by
    intro X hP hw hK hc i pins s σ H E I hf st hg
    subst hP hw hK
    obtain ⟨⟨old, he⟩, hit, hne⟩ := st
    have hi : i < z.cps.size := hg
    have hx : (signs z)[i]? = some (.str ⟨#[z.cps[i]]⟩) := by
      unfold signs
      rw [List.getElem?_map, Array.getElem?_toList, Array.getElem?_eq_getElem hi]
      rfl
    refine wpAny_pyNext_enum_itemD (Draws.text (prog := X.prog) (w := X.w) (A := X.A.in1) (I.ok.hd hc) it z tk0) he hit hi hne (by simp [hne]) fun v h2 tk hP ho hs2 hT hsz hk => ?_
    obtain ⟨c, u0, hcz, rfl⟩ := hP
    have ec : c = z.cps[i] := by
      rw [Array.getElem?_eq_getElem hi] at hcz
      exact (Option.some.inj hcz).symm
    subst ec
    refine ⟨_, rfl, wpAny_mono (enum_out (x := .str ⟨#[z.cps[i]]⟩) (R := fun h3 => (∃ old, IsEnum h3 e it (((i + 1 : Nat) : Nat) : Int) old) ∧ h3.IsStrIter it (strIterType z) z tk0 (i + 1) ∧ e ≠ it) (Y := fun v H' => (ItEs z).yld i H v H') I (Heap.lt_size he) (by obtain ⟨_, q, _⟩ := hit; exact Heap.lt_size q) hne hf ⟨_, rfl⟩ ho hT hk (fun h3 k3 he3 => ⟨he3, (let ⟨o, ho, r⟩ := hs2; ⟨o, (k3 it (Ne.symm hne)).trans ho, r⟩), hne⟩) ?_) (fun _ s2 q => ?_) fun _ _ q => q⟩
    · exact ⟨_, _, rfl, I.hok.fresh (Nat.le_refl _), rfl, hx⟩
    · exact q
  done := by
    intro X hP hw hK hc i pins s σ H E I hf st hg
    subst hP hw hK
    obtain ⟨⟨old, he⟩, hit, hne⟩ := st
    have hn : i = z.cps.size := hg
    rw [hn] at hit he
    obtain ⟨f0, f1, f2, f3, f4, f5⟩ := hf it (by simp)
    exact wpAny_pyNext_enum_endD (Draws.text (prog := X.prog) (w := X.w) (A := X.A.in1) (I.ok.hd hc) it z tk0) he hit fun h' eb => ⟨rfl, I.turned (t' := s.toks) (fun b o hb q => eb b o hb q) f0 f1 f3 f4 f5⟩
  self := fun A i s Q E st h => let ⟨⟨_, he⟩, _⟩ := st; wpAny_pyIter_enum he h
end
def iEnumT (K : PySem.W.Frag) (ta : TA) : TI := fun σ H R => ta σ H fun vs H1 => ∃ a xs, vs = [.ref a] ∧ SqT K H1 a xs ∧ R (ItEt K a) H1
def iEnumS (ta : TA) : TI := fun σ H R => ta σ H fun vs H1 => ∃ z, vs = [.str z] ∧ R (ItEs z) H1
section
variable {X : Cx} {e : Expr} {ta : TA} {p pos tpos : Pos} {elts : List Expr} {kk : Nat}
theorem pi_enumT (K : PySem.W.Frag) (hg : Gl X "enumerate") (hm : X.mg "enumerate" = none) (ha : PA X [e] ta) (hK : X.K = K := by rfl) (hs : starEach [e] X.env = [(false, eval e X.env)] := by rfl) :
    PI X (.Tuple elts kk tpos) (.Call (.Name "enumerate" p) [e] [] pos) (iEnumT K ta) := by
  subst hK
  refine ⟨fun pins s σ H R I h => ?_⟩
  refine Call_ (ld_blt I hg hm boot_enumerate (PyProof.Rows.callWith_type1 (thn (ha.run pos pins s σ H _ I h) fun us s1 ⟨vs, H1, I1, r1, q1⟩ => ?_) hs rfl))
  obtain ⟨a, xs, ex, hq, q⟩ := q1
  subst ex
  cases r1 with
  | cons r rr =>
    cases rr
    cases r
    obtain ⟨its, rv, p', hz⟩ := I1.tuple hq
    refine enum_begin1 (begins_tuple a its.toArray) p' fun h' he hit hsz hk => wpAny_pyIter_enum he ?_
    have I2 : Inv X pins σ H1 { s1 with heap := h' } := I1.kept (t' := s1.toks) hk
    refine ⟨s1.heap.objs.size + 1, [s1.heap.objs.size + 1, s1.heap.objs.size], _, _, H1, rfl, I2, turn_enumT a (s1.heap.objs.size + 1) s1.heap.objs.size, ⟨⟨.none, he⟩, ⟨_, hit, rfl, rfl⟩, Nat.succ_ne_self _⟩, fun b hb => ?_, q⟩
    have hle : s1.heap.objs.size ≤ b := by
      have e2 : b = s1.heap.objs.size + 1 ∨ b = s1.heap.objs.size := by simpa using hb
      rcases e2 with z | z <;> rw [z] <;> first | exact Nat.le_succ _ | exact Nat.le_refl _
    exact I1.fpOk hle (I1.hok.fresh hle)
theorem pi_enumS (hg : Gl X "enumerate") (hm : X.mg "enumerate" = none) (ha : PA X [e] ta) (hs : starEach [e] X.env = [(false, eval e X.env)] := by rfl) :
    PI X (.Tuple elts kk tpos) (.Call (.Name "enumerate" p) [e] [] pos) (iEnumS ta) := by
  refine ⟨fun pins s σ H R I h => ?_⟩
  refine Call_ (ld_blt I hg hm boot_enumerate (PyProof.Rows.callWith_type1 (thn (ha.run pos pins s σ H _ I h) fun us s1 ⟨vs, H1, I1, r1, q1⟩ => ?_) hs rfl))
  obtain ⟨z, ex, q⟩ := q1
  subst ex
  cases r1 with
  | cons r rr =>
    cases rr
    obtain ⟨tk, rfl⟩ := r
    refine enum_begin1 (begins_text z tk) trivial fun h' he hit hsz hk => wpAny_pyIter_enum he ?_
    have I2 : Inv X pins σ H1 { s1 with heap := h' } := I1.kept (t' := s1.toks) hk
    refine ⟨s1.heap.objs.size + 1, [s1.heap.objs.size + 1, s1.heap.objs.size], _, _, H1, rfl, I2, turn_enumS z tk (s1.heap.objs.size + 1) s1.heap.objs.size, ⟨⟨.none, he⟩, ⟨_, hit, rfl, rfl⟩, Nat.succ_ne_self _⟩, fun b hb => ?_, q⟩
    have hle : s1.heap.objs.size ≤ b := by
      have e2 : b = s1.heap.objs.size + 1 ∨ b = s1.heap.objs.size := by simpa using hb
      rcases e2 with z | z <;> rw [z] <;> first | exact Nat.le_succ _ | exact Nat.le_refl _
    exact I1.fpOk hle (I1.hok.fresh hle)
end
end Ls
namespace Ls
open PySem PySem.Spec PyProof.Rows L2
/-! ### zip of a list and a tuple, or of two tuples -/
/-- the list at a and the tuple at b, item by item in new pairs -/
def ItzM (K : PySem.W.Frag) (a b : Addr) : It where
  go i H := ∃ xs ys : List V, SqL K H a xs ∧ SqT K H b ys ∧ i < xs.length ∧ i < ys.length
  yld i H v H' := ∃ T x y, v = .ref T ∧ H T = none ∧ H' = upd H T (.tup [x, y]) ∧ (∀ xs, SqL K H a xs → xs[i]? = some x) ∧ ∀ ys, SqT K H b ys → ys[i]? = some y
  stop i H := ∃ xs ys : List V, SqL K H a xs ∧ SqT K H b ys ∧ i ≤ xs.length ∧ i ≤ ys.length ∧ (i = xs.length ∨ i = ys.length)
theorem walk_zipM {K : PySem.W.Frag} {a b : Addr} {xs ys : List V} {n : Nat} (hn : n = min xs.length ys.length) : Walk (ItzM K a b) n (fun H => SqL K H a xs ∧ SqT K H b ys) (YPair (fun i => xs[i]?) (fun i => ys[i]?)) := by
  refine ⟨fun i H hi q => ⟨xs, ys, q.1, q.2, by omega, by omega⟩, fun H q => ⟨xs, ys, q.1, q.2, by omega, by omega, by omega⟩, fun i v H' H2 _ q y => ?_⟩
  obtain ⟨T, x, z, h1, h2, h3, h4, h5⟩ := y
  exact ⟨T, x, z, h1, h2, h3, h4 xs q.1, h5 ys q.2⟩
theorem sep_of {z TI TO i1 i2 a b : Addr} (D : ZipApart z TI TO i1 i2 a b) : ZipSep2 z TI TO i1 i2 [i1, a] [i2, b] := by
  obtain ⟨⟩ := D
  constructor <;> simp_all [eq_comm]
abbrev fpZ (z TI TO i1 i2 : Addr) : List Addr := [z, TI, TO, i1, i2]
theorem turn_zipM {P : Program} {w : World} {K : PySem.W.Frag} {elts : List Expr} {kk : Nat} {tpos : Pos} {a b z TI TO i1 i2 : Addr} (D : ZipApart z TI TO i1 i2 a b) :
    Turn P w K (.Tuple elts kk tpos) (ItzM K a b) (fpZ z TI TO i1 i2) z (fun i h => IsZip h z TI TO .none ∧ IsTupOf2 h TI (.ref i1) (.ref i2) ∧ (∃ x y, IsTupOf2 h TO x y) ∧ h.IsListIter i1 a i ∧ h.IsTupleIter i2 b i) := by
  have mem : ∀ {c : Addr}, c ∈ fpZ z TI TO i1 i2 → c = z ∨ c = TI ∨ c = TO ∨ c = i1 ∨ c = i2 := fun h => by simpa using h
  have S := sep_of D
  refine ⟨by simp, fun i h st c hc => ?_, fun i h h' st k => ?_, ?_, ?_, fun A i s Q E st q => wpAny_pyIter_zip st.1 q⟩
  · obtain ⟨c1, c2, ⟨x, y, c3⟩, ⟨o1, c4, _, d4⟩, ⟨o2, c5, _, d5⟩⟩ := st
    rcases mem hc with rfl | rfl | rfl | rfl | rfl
    · exact ⟨_, c1, fun v q => nomatch q⟩
    · exact ⟨_, c2, fun v q => nomatch q⟩
    · exact ⟨_, c3, fun v q => nomatch q⟩
    · exact ⟨o1, c4, fun v q => by rw [d4] at q; cases q⟩
    · exact ⟨o2, c5, fun v q => by rw [d5] at q; cases q⟩
  · obtain ⟨c1, c2, ⟨x, y, c3⟩, c4, c5⟩ := st
    exact ⟨k _ (by simp) _ c1, k _ (by simp) _ c2, ⟨x, y, k _ (by simp) _ c3⟩, c4.at fun o q => k _ (by simp) o q, c5.at fun o q => k _ (by simp) o q⟩
  · intro X hP hw hK hc i pins s σ H E I hf st ⟨xs, ys, qx, qy, lx, ly⟩
    subst hP hw hK
    obtain ⟨c1, c2, ⟨x0, y0, c3⟩, c4, c5⟩ := st
    obtain ⟨us, rx, px, _⟩ := I.list qx
    obtain ⟨vs, ry, py, _⟩ := I.tuple qy
    have hh := I.ok.hd hc
    have ex : us.toArray.size = xs.length := by rw [List.size_toArray, ← rx.length]
    have ey : vs.toArray.size = ys.length := by rw [List.size_toArray, ← ry.length]
    have gx := List.getElem?_eq_getElem lx
    have gy := List.getElem?_eq_getElem ly
    have D1 := Draws.list (prog := X.prog) (w := X.w) (A := X.A.in1) (show X.A.in1.handled = none from hh) i1 a D.l1i1 us.toArray
    have D2 := Draws.tuple (prog := X.prog) (w := X.w) (A := X.A.in1) (show X.A.in1.handled = none from hh) i2 b D.l2i2 vs.toArray
    have zl : z < s.heap.objs.size := Heap.lt_size c1
    refine wpAny_pyNext_zipD2_item S D1 D2 c1 c2 c3 ⟨c4, px.isList⟩ ⟨c5, py⟩ (by omega) (by omega) fun u1 u2 h' tk e1 e2 z' t' st1 st2 nt hsz hk => ?_
    refine ⟨_, rfl, wpAny_letOwnedTupleGo_zip (s := { s with heap := h', toks := tk }) z' fun h2 z2 sb => ?_⟩
    obtain ⟨w1, hw1, r1⟩ := rx.get gx
    obtain ⟨w2, hw2, r2⟩ := ry.get gy
    obtain rfl : u1 = w1 := by
      have : us[i]? = some u1 := by simpa using e1
      rw [hw1] at this
      exact (Option.some.inj this).symm
    obtain rfl : u2 = w2 := by
      have : vs[i]? = some u2 := by simpa using e2
      rw [hw2] at this
      exact (Option.some.inj this).symm
    have nt2 : h2.get? s.heap.objs.size = some { cls := .type "tuple", data := .seq #[u1, u2] } := (sb.2 _ (Nat.ne_of_gt zl)).trans nt
    have new : ObjOk X.prog X.w (upd H s.heap.objs.size (.tup [xs[i], ys[i]])) h2 s.heap.objs.size (.tup [xs[i], ys[i]]) := ⟨by show 2 ≤ sizeLine; decide, [u1, u2], .cons r1 (.cons r2 .nil), ⟨_, nt2, rfl, _, rfl⟩⟩
    have kp : ∀ c o, c ∉ fpZ z TI TO i1 i2 → s.heap.get? c = some o → h2.get? c = some o := fun c o hn q => by
      simp only [List.mem_cons, List.not_mem_nil, or_false, not_or] at hn
      exact (sb.2 c hn.1).trans (hk c o hn.1 hn.2.2.1 hn.2.2.2.1 hn.2.2.2.2 q)
    have I1 := I.turnedNew (t' := tk) (ch := fpZ z TI TO i1 i2) kp hf (Nat.le_refl _) new
    have at2 : ∀ {c o}, c ≠ z → h'.get? c = some o → h2.get? c = some o := fun n q => (sb.2 _ n).trans q
    refine ⟨.ref s.heap.objs.size, _, I1, rfl, ⟨_, _, _, rfl, I.hok.fresh (Nat.le_refl _), rfl, fun l hl => by rw [I.list_inj hl qx]; exact gx, fun l hl => by rw [I.tuple_inj hl qy]; exact gy⟩, ⟨z2, at2 D.TIz (hk _ _ D.TIz D.TITO D.TIi1 D.TIi2 c2), ⟨u1, u2, at2 D.TOz t'⟩, st1.1.at fun o q => at2 D.i1z q, st2.1.at fun o q => at2 D.i2z q⟩, fun c hm => ?_⟩
    have lt : c < s.heap.objs.size := by
      rcases mem hm with rfl | rfl | rfl | rfl | rfl
      · exact zl
      · exact Heap.lt_size c2
      · exact Heap.lt_size c3
      · obtain ⟨_, q, _⟩ := c4
        exact Heap.lt_size q
      · obtain ⟨_, q, _⟩ := c5
        exact Heap.lt_size q
    rw [upd_ne (Nat.ne_of_lt lt)]
    exact (hf c hm).1
  · intro X hP hw hK hc i pins s σ H E I hf st ⟨xs, ys, qx, qy, lx, ly, le⟩
    subst hP hw hK
    obtain ⟨c1, c2, ⟨x0, y0, c3⟩, c4, c5⟩ := st
    obtain ⟨us, rx, px, _⟩ := I.list qx
    obtain ⟨vs, ry, py, _⟩ := I.tuple qy
    have hh := I.ok.hd hc
    have ex : us.toArray.size = xs.length := by rw [List.size_toArray, ← rx.length]
    have ey : vs.toArray.size = ys.length := by rw [List.size_toArray, ← ry.length]
    have D1 := Draws.list (prog := X.prog) (w := X.w) (A := X.A.in1) (show X.A.in1.handled = none from hh) i1 a D.l1i1 us.toArray
    have D2 := Draws.tuple (prog := X.prog) (w := X.w) (A := X.A.in1) (show X.A.in1.handled = none from hh) i2 b D.l2i2 vs.toArray
    refine wpAny_pyNext_zipD2_end S D1 D2 c1 c2 c3 ⟨c4, px.isList⟩ ⟨c5, py⟩ (by omega) (by omega) (by omega) fun h' tk hk => ⟨rfl, ?_⟩
    refine I.turnedL (t' := tk) (ch := fpZ z TI TO i1 i2) (fun c o hn q => ?_) hf
    simp only [List.mem_cons, List.not_mem_nil, or_false, not_or] at hn
    exact hk c o hn.1 hn.2.2.1 hn.2.2.2.1 hn.2.2.2.2 q
/-- zip(x, y): x a list or a tuple, y a tuple -/
def iZipM (K : PySem.W.Frag) (ta : TA) : TI := fun σ H R => ta σ H fun vs H1 => ∃ a b xs ys, vs = [.ref a, .ref b] ∧ SqT K H1 b ys ∧ ((SqL K H1 a xs ∧ R (ItzM K a b) H1) ∨ (SqT K H1 a xs ∧ R (RZ.ItzT K a b) H1))
theorem walk_zipT2 {K : PySem.W.Frag} {a b : Addr} {xs ys : List V} {n : Nat} (hn : n = min xs.length ys.length) : Walk (RZ.ItzT K a b) n (fun H => SqT K H a xs ∧ SqT K H b ys) (YPair (fun i => xs[i]?) (fun i => ys[i]?)) := by
  refine ⟨fun i H hi q => ?_, fun H q => ⟨xs, ys, q.1, q.2, by omega⟩, fun i v H' H2 _ q y => ?_⟩
  · have h1 : i < xs.length := by omega
    have h2 : i < ys.length := by omega
    exact ⟨xs, ys, xs[i], ys[i], q.1, q.2, List.getElem?_eq_getElem h1, List.getElem?_eq_getElem h2⟩
  · obtain ⟨T, x, z, h1, h2, h3, h4, h5⟩ := y
    exact ⟨T, x, z, h1, h2, h3, h4 xs q.1, h5 ys q.2⟩
theorem pi_zipM {X : Cx} {e e2 : Expr} {ta : TA} {p pos tpos : Pos} {elts : List Expr} {kk : Nat} (hg : Gl X "zip") (hm : X.mg "zip" = none) (ha : PA X [e, e2] ta)
    (hs : starEach [e, e2] X.env = (false, eval e X.env) :: starEach [e2] X.env := by rfl) (hpl : (backTo pos (starEach [e2] X.env)).any (·.1) = false := by rfl) :
    PI X (.Tuple elts kk tpos) (.Call (.Name "zip" p) [e, e2] [] pos) (iZipM X.K ta) := by
  refine ⟨fun pins s σ H R I h => ?_⟩
  refine Call_ (ld_blt I hg hm PyProof.Rows.boot_zip (PyProof.Rows.callWith_type1 (thn (ha.run pos pins s σ H _ I h) fun us s1 ⟨vs, H1, I1, rv, a, b, xs, ys, ev, qy, q1⟩ => ?_) hs hpl))
  subst ev
  cases rv with
  | cons ra rr =>
    cases rr with
    | cons rb rr =>
      cases rr
      cases ra
      cases rb
      have fr : ∀ c, c ∈ fpZ (s1.heap.objs.size + 4) (s1.heap.objs.size + 2) (s1.heap.objs.size + 3) s1.heap.objs.size (s1.heap.objs.size + 1) → FpOk X pins H1 c := fun c hm => by
        have hle : s1.heap.objs.size ≤ c := by
          simp only [List.mem_cons, List.not_mem_nil, or_false] at hm
          rcases hm with rfl | rfl | rfl | rfl | rfl
          all_goals first
            | exact Nat.le_add_right _ _
            | exact Nat.le_refl _
        exact I1.fpOk hle (I1.hok.fresh hle)
      obtain ⟨vs, ry, py, _⟩ := I1.tuple qy
      obtain ⟨ob, eb, _⟩ := id py
      rcases q1 with ⟨qx, q⟩ | ⟨qx, q⟩
      · obtain ⟨us, rx, px, _⟩ := I1.list qx
        refine zip_begins2 (begins_list a us.toArray) (begins_tuple b vs.toArray) px.isList py fun h' z' t1 t2 g1 g2 hsz hk => wpAny_pyIter_zip z' ?_
        exact ⟨_, _, _, _, H1, rfl, I1.kept (t' := s1.toks) hk, turn_zipM (PySem.W.ktu_apart s1.heap.objs.size a b px.lt (Heap.lt_size eb)), ⟨z', t1, ⟨_, _, t2⟩, ⟨_, g1, rfl, rfl⟩, ⟨_, g2, rfl, rfl⟩⟩, fr, q⟩
      · obtain ⟨us, rx, px, _⟩ := I1.tuple qx
        obtain ⟨oa, ea, _⟩ := id px
        refine RZ.call_zipT (show s1.heap.IsTuple a us.toArray from px) (show s1.heap.IsTuple b vs.toArray from py) fun h' z' t1 t2 g1 g2 hsz hk => wpAny_pyIter_zip z' ?_
        exact ⟨_, _, _, _, H1, rfl, I1.kept (t' := s1.toks) hk, RZ.turn_zipT (PySem.W.ktu_apart s1.heap.objs.size a b (Heap.lt_size ea) (Heap.lt_size eb)), ⟨z', t1, ⟨_, _, t2⟩, g1, g2⟩, fr, q⟩
/-- the same, K named -/
theorem pi_zipMK {X : Cx} (K : PySem.W.Frag) {e e2 : Expr} {ta : TA} {p pos tpos : Pos} {elts : List Expr} {kk : Nat} (hg : Gl X "zip") (hm : X.mg "zip" = none) (ha : PA X [e, e2] ta)
    (hs : starEach [e, e2] X.env = (false, eval e X.env) :: starEach [e2] X.env := by rfl) (hpl : (backTo pos (starEach [e2] X.env)).any (·.1) = false := by rfl) (h : X.K = K := by rfl) :
    PI X (.Tuple elts kk tpos) (.Call (.Name "zip" p) [e, e2] [] pos) (iZipM K ta) := by
  subst h
  exact pi_zipM hg hm ha hs hpl
end Ls
namespace AL
open PySem PySem.Spec PyProof.Rows L2 Ls
section
variable {K : PySem.W.Frag}
theorem ro_add : ROk K (rI0 fun i j => .int (i + j)) (fun a b s Q => ∃ i j, a = .int i ∧ b = .int j ∧ Q (.int (i + j)) s) := ro_I0 (gd := fun i j => .int (i + j)) fun _ _ _ _ => .int _
theorem ro_sub : ROk K (rI0 fun i j => .int (i - j)) (fun a b s Q => ∃ i j, a = .int i ∧ b = .int j ∧ Q (.int (i - j)) s) := ro_I0 (gd := fun i j => .int (i - j)) fun _ _ _ _ => .int _
theorem ro_lt : ROk K (rI0 fun i j => .bl (decide (i < j))) (fun a b s Q => ∃ i j, a = .int i ∧ b = .int j ∧ Q (.bl (decide (i < j))) s) := ro_I0 (gd := fun i j => .bl (decide (i < j))) fun _ _ _ _ => .bl _
theorem ro_le : ROk K (rI0 fun i j => .bl (decide (i ≤ j))) (fun a b s Q => ∃ i j, a = .int i ∧ b = .int j ∧ Q (.bl (decide (i ≤ j))) s) := ro_I0 (gd := fun i j => .bl (decide (i ≤ j))) fun _ _ _ _ => .bl _
theorem ro_gt : ROk K (rI0 fun i j => .bl (decide (j < i))) (fun a b s Q => ∃ i j, a = .int i ∧ b = .int j ∧ Q (.bl (decide (j < i))) s) := ro_I0 (gd := fun i j => .bl (decide (j < i))) fun _ _ _ _ => .bl _
theorem ro_ge : ROk K (rI0 fun i j => .bl (decide (j ≤ i))) (fun a b s Q => ∃ i j, a = .int i ∧ b = .int j ∧ Q (.bl (decide (j ≤ i))) s) := ro_I0 (gd := fun i j => .bl (decide (j ≤ i))) fun _ _ _ _ => .bl _
theorem ro_mul : ROk K (rI CMul fun i j => .int (i * j)) (fun a b s Q => ∃ i j, a = .int i ∧ b = .int j ∧ CMul i j ∧ Q (.int (i * j)) s) := ro_I (gd := fun i j => .int (i * j)) fun _ _ _ _ => .int _
theorem ro_pow : ROk K (rI CPow fun i j => .int (i ^ j.toNat)) (fun a b s Q => ∃ i j, a = .int i ∧ b = .int j ∧ CPow i j ∧ Q (.int (i ^ j.toNat)) s) := ro_I (gd := fun i j => .int (i ^ j.toNat)) fun _ _ _ _ => .int _
theorem ro_mod : ROk K (rI (fun _ j => 0 < j) fun i j => .int (i % j)) (fun a b s Q => ∃ i j, a = .int i ∧ b = .int j ∧ 0 < j ∧ Q (.int (i % j)) s) := ro_I (gd := fun i j => .int (i % j)) fun _ _ _ _ => .int _
theorem ro_div : ROk K (rI CDivW fun i j => .int (i / j)) (fun a b s Q => ∃ i j, a = .int i ∧ b = .int j ∧ CDivW i j ∧ Q (.int (i / j)) s) := ro_I (gd := fun i j => .int (i / j)) fun _ _ _ _ => .int _
theorem uo_neg : UOk K (rU fun i => .int (-i)) (fun a s Q => ∃ i, a = .int i ∧ Q (.int (-i)) s) := by
  rintro F Hf H s x a Q Qc R ax L ⟨i, rfl, q⟩
  cases ax
  exact ⟨i, rfl, L _ _ Hf H s (Same.refl _) R (.int _) q⟩
theorem ro_notInSign : ROk K (fun x y H Q => ∃ (c : Nat) (z : Str), x = .str ⟨#[c]⟩ ∧ y = .str z ∧ Q (.bl (!decide (c ∈ z.cps.toList))) H) (fun a b s Q => ∃ (c : Nat) (z : Str), a = .str ⟨#[c]⟩ ∧ b = .str z ∧ Q (.bl (!decide (c ∈ z.cps.toList))) s) := by
  rintro F Hf H s x y a b Q Qc R ax ay L ⟨i, j, rfl, rfl, q⟩
  cases ax
  cases ay
  exact ⟨i, j, rfl, rfl, L _ _ Hf H s (Same.refl _) R (.bl _) q⟩
end
section
variable {e : Ec} {γ γ' : Ga} {s s' : AS} {ta tb tc te tv tl tk : TE} {t u : TT} {tA : TA} {Q : Dat → AS → Prop} {Qb : Bool → AS → Prop} {Qi : List Dat → (AS → Prop) → AS → Prop} {D : AD} {ts us : TS} {wi : TI} {g : TG}
/-! ### values that are known beforehand -/
/-- it gives d and leaves all as it is -/
def Gv (e : Ec) (te : TE) (γ : Ga) (s : AS) (d : Dat) : Prop := GE e te γ s fun d' s' => d' = d ∧ s' = s
def Tv (e : Ec) (t : TT) (γ : Ga) (s : AS) (b : Bool) : Prop := GT e t γ s fun b' s' => b' = b ∧ s' = s
theorem Gv.use {d : Dat} (h : Gv e te γ s d) (q : Q d s) : GE e te γ s Q := GE.imp h fun d' s' ⟨e1, e2⟩ => by rw [e1, e2]; exact q
theorem Tv.use {b : Bool} (h : Tv e t γ s b) (q : Qb b s) : GT e t γ s Qb := GT.imp h fun d' s' ⟨e1, e2⟩ => by rw [e1, e2]; exact q
theorem Gv.to {d d' : Dat} (h : Gv e te γ s d) (k : d = d') : Gv e te γ s d' := k ▸ h
theorem v_and {a b : Bool} (h1 : Gv e ta γ s (.bl a)) (h2 : a = true → Gv e tb γ s (.bl b)) : Gv e (tAndV ta tb) γ s (.bl (a && b)) := by
  refine g_and (h1.use ⟨a, rfl, fun ea => ?_, fun ea => ?_⟩)
  · rw [ea, Bool.true_and]
    exact h2 ea
  · rw [ea]
    exact ⟨rfl, rfl⟩
theorem v_or {a b : Bool} (h1 : Gv e ta γ s (.bl a)) (h2 : a = false → Gv e tb γ s (.bl b)) : Gv e (tOrV ta tb) γ s (.bl (a || b)) := by
  refine g_or (h1.use ⟨a, rfl, fun ea => ?_, fun ea => ?_⟩)
  · rw [ea]
    exact ⟨rfl, rfl⟩
  · rw [ea, Bool.false_or]
    exact h2 ea
theorem v_not {a : Bool} (h1 : Gv e ta γ s (.bl a)) : Gv e (tNotV ta) γ s (.bl (!a)) := g_not (h1.use ⟨a, rfl, rfl, rfl⟩)
theorem t_and {a b : Bool} (h1 : Tv e t γ s a) (h2 : a = true → Tv e u γ s b) : Tv e (tAnd t u) γ s (a && b) := by
  refine g_tand (h1.use ⟨fun ea => ?_, fun ea => ?_⟩)
  · rw [ea, Bool.true_and]
    exact h2 ea
  · rw [ea]
    exact ⟨rfl, rfl⟩
theorem t_or {a b : Bool} (h1 : Tv e t γ s a) (h2 : a = false → Tv e u γ s b) : Tv e (tOr t u) γ s (a || b) := by
  refine g_tor (h1.use ⟨fun ea => ?_, fun ea => ?_⟩)
  · rw [ea]
    exact ⟨rfl, rfl⟩
  · rw [ea, Bool.false_or]
    exact h2 ea
theorem t_not {a : Bool} (h1 : Tv e t γ s a) : Tv e (tNot t) γ s (!a) := g_tnot (h1.use ⟨rfl, rfl⟩)
theorem t_test {a : Bool} (h1 : Gv e te γ s (.bl a)) : Tv e (tTest te) γ s a := g_test (h1.use ⟨a, rfl, rfl, rfl⟩)
theorem t_B {a : Bool} (h1 : Gv e te γ s (.bl a)) : Tv e (tB te) γ s a := g_tB (h1.use ⟨a, rfl, rfl, rfl⟩)
/-- if by a test whose outcome is known -/
theorem g_ifT (h : Tv e t γ s true) (k : GS e ts γ s D) : GS e (tIfS t ts us) γ s D := g_if (h.use ⟨fun _ => k, fun z => nomatch z⟩)
theorem g_ifF (h : Tv e t γ s false) (k : GS e us γ s D) : GS e (tIfS t ts us) γ s D := g_if (h.use ⟨(fun z => nomatch z), fun _ => k⟩)
theorem g_ifB {b : Bool} (h : Tv e t γ s b) (k1 : b = true → GS e ts γ s D) (k2 : b = false → GS e us γ s D) : GS e (tIfS t ts us) γ s D := g_if (h.use ⟨k1, k2⟩)
theorem g_ifEB {b : Bool} (h : Tv e t γ s b) (k1 : b = true → GE e ta γ s Q) (k2 : b = false → GE e tb γ s Q) : GE e (tIf t ta tb) γ s Q := g_ifE (h.use ⟨k1, k2⟩)
/-! ### more walks -/
theorem g_wstr (h : GE e tl γ s fun d s1 => ∃ z, d = .str z ∧ Qi (strsD z) (fun _ => True) s1) : GI e (iStr tl) γ s Qi := fun F Hf H σ R S X Rc k =>
  h F Hf H σ R S X _ fun v d Hf1 H1 s1 m1 R1 a1 ⟨z, ed, q⟩ => by
    subst ed
    cases a1
    exact ⟨z, rfl, k _ _ _ Hf1 H1 s1 m1 R1 dwalk_str q⟩
def enumD (xs : List Dat) : List Dat := (List.range xs.length).map fun i => .tup [.int (i : Nat), xs.getD i .non]
theorem enumD_len {xs : List Dat} : (enumD xs).length = xs.length := by unfold enumD; rw [List.length_map, List.length_range]
theorem enumD_get {xs : List Dat} {i : Nat} {d : Dat} (h : xs[i]? = some d) : (enumD xs)[i]? = some (.tup [.int (i : Nat), d]) := by
  have hi : i < xs.length := by
    rcases Nat.lt_or_ge i xs.length with h2 | h2
    · exact h2
    · rw [List.getElem?_eq_none_iff.mpr h2] at h
      cases h
  unfold enumD
  rw [List.getElem?_map, List.getElem?_range hi]
  show some (Dat.tup [.int (i : Nat), xs.getD i .non]) = _
  rw [List.getD_eq_getElem?_getD, h]
  rfl
theorem pair_grow {K : PySem.W.Frag} {F : AS} {Hf H : Hp} {s : AS} {T : Addr} {x y : V} {dx dy : Dat} (R : Rep K F Hf H s) (hT : H T = none) (ax : At K Hf x dx) (ay : At K Hf y dy) : ∃ Hf', Same Hf Hf' ∧ Rep K F Hf' (upd H T (.tup [x, y])) s ∧ At K Hf' (.ref T) (.tup [dx, dy]) := by
  obtain ⟨R2, m⟩ := R.grow hT (.tup [x, y])
  exact ⟨_, m, R2, .tup upd_same (.cons (ax.same m) (.cons (ay.same m) .nil))⟩
theorem g_wenum (h : GA e tA γ s fun ds s1 => ∃ d xs, ds = [d] ∧ ((d = .lst xs ∧ Qi (enumD xs) (fun _ => True) s1) ∨ ∃ p, d = .ref p ∧ s1 p = some (.raw (.lst xs)) ∧ Qi (enumD xs) (fun s => s p = some (.raw (.lst xs))) s1)) : GI e (iEnum e.K tA) γ s Qi := fun F Hf H σ R S X Rc k =>
  h F Hf H σ R S X _ fun vs ds Hf1 H1 s1 m1 R1 a1 ⟨d, xs, ed, q⟩ => by
    subst ed
    obtain ⟨v, rfl, av⟩ := ats1 a1
    rcases q with ⟨rfl, q⟩ | ⟨p, rfl, hp, q⟩
    · cases av with
      | @lst a ys _ h1 h2 =>
        refine ⟨a, ys, rfl, SqL.of (R1.sub _ _ h1), k _ _ _ Hf1 H1 s1 m1 R1 ⟨_, _, by rw [enumD_len, ← h2.len]; exact walk_enum, fun F Hf H s m R _ => SqL.of (R.sub _ _ (m _ _ h1)), ?_⟩ q⟩
        rintro i F Hf H s x H' m R _ hi ⟨T, u, w, rfl, hT, rfl, e1, e2⟩
        cases e1
        obtain ⟨d, e3, e4⟩ := h2.getV e2
        obtain ⟨Hf', m', R', a'⟩ := pair_grow R hT (.int (i : Nat)) (e4.same m)
        exact ⟨Hf', _, m', R', enumD_get e3, a', fun b hb => upd_ne (fun z => hb (z ▸ hT))⟩
    · cases av
      obtain ⟨ho, h1, ys, rfl, h2⟩ := R1.read hp
      refine ⟨p, ys, rfl, SqL.of h1, k _ _ _ Hf1 H1 s1 m1 R1 ⟨fun H => ∃ zs, H p = some (.lst zs) ∧ zs.length = xs.length, fun i H v H' => ∃ T x zs, v = .ref T ∧ H T = none ∧ H' = upd H T (.tup [.int (i : Nat), x]) ∧ H p = some (.lst zs) ∧ zs[i]? = some x, ?_, ?_, ?_⟩ q⟩
      · refine ⟨fun i H hi ⟨zs, hz, hl⟩ => ?_, fun H ⟨zs, hz, hl⟩ => ⟨zs, SqL.of hz, by rw [hl, enumD_len]; exact Nat.le_refl _⟩, fun i H x H' hi ⟨zs, hz, hl⟩ y => ?_⟩
        · rw [enumD_len] at hi
          have hi2 : i < zs.length := by omega
          exact ⟨zs, zs[i], SqL.of hz, by simp [hi2]⟩
        · obtain ⟨T, u, e1, e2, e3, e4⟩ := y
          exact ⟨T, u, zs, e1, e2, e3, hz, e4 zs (SqL.of hz)⟩
      · rintro F Hf H s m R g
        obtain ⟨ho, g1, zs, rfl, g2⟩ := R.read g
        exact ⟨zs, g1, g2.len⟩
      · rintro i F Hf H s x H' m R g hi ⟨T, u, zs, rfl, hT, rfl, hz, hx⟩
        obtain ⟨ho, g1, ws, rfl, g2⟩ := R.read g
        rw [g1] at hz
        cases hz
        obtain ⟨d, e3, e4⟩ := g2.getV hx
        obtain ⟨Hf', m', R', a'⟩ := pair_grow R hT (.int (i : Nat)) e4
        exact ⟨Hf', _, m', R', enumD_get e3, a', fun b hb => upd_ne (fun z => hb (z ▸ hT))⟩
/-! ### loops, comprehensions -/
def ForW (e : Ec) (g : TG) (ts : TS) (D : AD) (γ : Ga) (s1 : AS) (xs : List Dat) (Gs : AS → Prop) : Prop := ∃ I : Nat → Ga → AS → Prop, I 0 γ s1 ∧ (∀ i γ' s', i ≤ xs.length → I i γ' s' → Gs s') ∧
  (∀ i d γ' s', xs[i]? = some d → I i γ' s' → GG e none g d γ' s' fun γ2 s2 => GS e ts γ2 s2 { D with nx := I (i + 1), ct := I (i + 1), bk := D.nx }) ∧ ∀ γ' s', I xs.length γ' s' → D.nx γ' s'
theorem g_forW (h : GI e wi γ s fun xs Gs s1 => ForW e g ts D γ s1 xs Gs) : GS e (tFor wi g ts) γ s D := g_for h
/-- over things of one kind; the slots that are kept are told by γI -/
theorem ForW.mk {α : Type} {xs : List Dat} {Gs : AS → Prop} (l : List α) (enc : α → Dat) (ex : xs = l.map enc) (I : Nat → Ga → AS → Prop) (h0 : I 0 γ s) (hg : ∀ i γ' s', i ≤ l.length → I i γ' s' → Gs s')
    (hs : ∀ i x γ' s', l[i]? = some x → I i γ' s' → GG e none g (enc x) γ' s' fun γ2 s2 => GS e ts γ2 s2 { D with nx := I (i + 1), ct := I (i + 1), bk := D.nx }) (hd : ∀ γ' s', I l.length γ' s' → D.nx γ' s') : ForW e g ts D γ s xs Gs := by
  subst ex
  refine ⟨I, h0, fun i γ' s' hi => hg i γ' s' (by rw [List.length_map] at hi; exact hi), fun i d γ' s' hd' => ?_, fun γ' s' h => hd γ' s' (by rw [List.length_map] at h; exact h)⟩
  rw [List.getElem?_map] at hd'
  obtain ⟨x, hx, rfl⟩ := Option.map_eq_some_iff.mp hd'
  exact hs i x γ' s' hx
def LcW (e : Ec) (vs : List Nat) (g : TG) (t : TT) (te : TE) (γ : Ga) (Q : Dat → AS → Prop) (s1 : AS) (xs : List Dat) (Gs : AS → Prop) : Prop := ∃ I : Nat → List Dat → AS → Prop, xs.length < sizeLine ∧ I 0 [] s1 ∧ (∀ i acc s', i ≤ xs.length → I i acc s' → Gs s') ∧ (∀ i d acc s', xs[i]? = some d → I i acc s' → GG e (some vs) g d (wipeG γ vs) s' fun γ2 s2 => GT e t γ2 s2 fun b s3 =>
    (b = true → GE e te γ2 s3 fun y s4 => I (i + 1) (acc ++ [y]) s4) ∧ (b = false → I (i + 1) acc s3)) ∧ ∀ acc s', I xs.length acc s' → Q (.lst acc) s'
theorem g_lcW {vs : List Nat} (h : GI e wi γ s fun xs Gs s1 => LcW e vs g t te γ Q s1 xs Gs) : GE e (tLc wi g t te vs) γ s Q := g_lc h
theorem LcW.mk {α : Type} {vs : List Nat} {xs : List Dat} {Gs : AS → Prop} (l : List α) (enc : α → Dat) (ex : xs = l.map enc) (I : Nat → List Dat → AS → Prop) (hz : l.length < sizeLine) (h0 : I 0 [] s) (hg : ∀ i acc s', i ≤ l.length → I i acc s' → Gs s')
    (hs : ∀ i x acc s', l[i]? = some x → I i acc s' → GG e (some vs) g (enc x) (wipeG γ vs) s' fun γ2 s2 => GT e t γ2 s2 fun b s3 => (b = true → GE e te γ2 s3 fun y s4 => I (i + 1) (acc ++ [y]) s4) ∧ (b = false → I (i + 1) acc s3)) (hd : ∀ acc s', I l.length acc s' → Q (.lst acc) s') : LcW e vs g t te γ Q s xs Gs := by
  subst ex
  refine ⟨I, by rw [List.length_map]; exact hz, h0, fun i acc s' hi => hg i acc s' (by rw [List.length_map] at hi; exact hi), fun i d acc s' hd' => ?_, fun acc s' h => hd acc s' (by rw [List.length_map] at h; exact h)⟩
  rw [List.getElem?_map] at hd'
  obtain ⟨x, hx, rfl⟩ := Option.map_eq_some_iff.mp hd'
  exact hs i x acc s' hx
/-- a comprehension whose turns leave all as it is -/
theorem LcW.pure {α : Type} {vs : List Nat} {xs : List Dat} {Gs : AS → Prop} (l : List α) (enc : α → Dat) (c : α → Bool) (f : α → Dat) (ex : xs = l.map enc) (hz : l.length < sizeLine) (hg : Gs s)
    (hs : ∀ x ∈ l, GG e (some vs) g (enc x) (wipeG γ vs) s fun γ2 s2 => GT e t γ2 s2 fun b s3 => b = c x ∧ s3 = s ∧ (c x = true → GE e te γ2 s fun y s4 => y = f x ∧ s4 = s)) (q : Q (.lst ((l.filter c).map f)) s) : LcW e vs g t te γ Q s xs Gs := by
  refine LcW.mk l enc ex (fun i acc s' => acc = ((l.take i).filter c).map f ∧ s' = s) hz ⟨rfl, rfl⟩ (fun i acc s' _ h => by rw [h.2]; exact hg) (fun i x acc s' hx ⟨ea, es⟩ => ?_) fun acc s' ⟨ea, es⟩ => ?_
  · subst ea es
    have hm : x ∈ l := List.mem_of_getElem? hx
    have st : ((l.take (i + 1)).filter c).map f = ((l.take i).filter c).map f ++ (if c x = true then [f x] else []) := by
      rw [List.take_add_one, hx, List.filter_append, List.map_append]
      congr 1
      by_cases z : c x = true
      · simp [z]
      · simp [z]
    rw [st]
    intro F Hf H σ v R S X av Qc k
    refine hs x hm F Hf H σ v R S X av Qc fun σ' γ2 Hf' H' s2 m R' S' wk q2 => k σ' γ2 Hf' H' s2 m R' S' wk ?_
    refine GT.imp q2 fun b s3 ⟨eb, e3, h3⟩ => ⟨fun z => ?_, fun z => ?_⟩
    · subst e3
      rw [eb] at z
      refine GE.imp (h3 z) fun y s4 ⟨ey, e4⟩ => ⟨?_, e4⟩
      rw [if_pos z, ey]
    · rw [eb] at z
      refine ⟨?_, e3⟩
      rw [if_neg (by rw [z]; simp), List.append_nil]
  · subst ea es
    rw [List.take_length]
    exact q
theorem LcW.map {α : Type} {vs : List Nat} {xs : List Dat} {Gs : AS → Prop} (l : List α) (enc : α → Dat) (f : α → Dat) (ex : xs = l.map enc) (hz : l.length < sizeLine) (hg : Gs s)
    (hs : ∀ x ∈ l, GG e (some vs) g (enc x) (wipeG γ vs) s fun γ2 s2 => GE e te γ2 s2 fun y s4 => y = f x ∧ s4 = s) (q : Q (.lst (l.map f)) s) : LcW e vs g tYes te γ Q s xs Gs := by
  refine LcW.mk l enc ex (fun i acc s' => acc = (l.take i).map f ∧ s' = s) hz ⟨rfl, rfl⟩ (fun i acc s' _ h => by rw [h.2]; exact hg) (fun i x acc s' hx ⟨ea, es⟩ => ?_) fun acc s' ⟨ea, es⟩ => ?_
  · subst ea es
    have hm : x ∈ l := List.mem_of_getElem? hx
    have st : (l.take (i + 1)).map f = (l.take i).map f ++ [f x] := by
      rw [List.take_add_one, hx, List.map_append]
      rfl
    rw [st]
    intro F Hf H σ v R S X av Qc k
    refine hs x hm F Hf H σ v R S X av Qc fun σ' γ2 Hf' H' s2 m R' S' wk q2 => k σ' γ2 Hf' H' s2 m R' S' wk ?_
    refine g_yes ⟨fun _ => ?_, fun z => nomatch z⟩
    exact GE.imp q2 fun y s4 ⟨ey, e4⟩ => ⟨by rw [ey], e4⟩
  · subst ea es
    rw [List.take_length]
    exact q
end
end AL
namespace Ls
open PySem PySem.Spec PyProof.Rows L2
/-! ### a dict display of one pair, its key a tuple -/
def tDisp1T (tk tv : TE) : TE := fun σ H Q => ∀ p, H p = none → tPairs [(tk, tv)] σ (upd H p (.dT [])) fun ps H2 => H2 p = some (.dT []) ∧ ∃ (b : Addr) (ks : List Key) (y : V), ps = [(.ref b, y)] ∧ H2 b = some (.tup (ks.map kV)) ∧ Q (.ref p) (upd H2 p (.dT [(ks, y)]))
theorem pe_disp1T {X : Cx} {k v : Expr} {tk tv : TE} {pos : Pos} (hu : X.A.units + 1 < cLine) (hk : PE X k tk) (hv : PE X v tv) : PE X (.Dict [some k] [v] pos) (tDisp1T tk tv) := by
  refine ⟨fun pins s σ H Q I q => ?_⟩
  have fr := I.hok.fresh (Nat.le_refl s.heap.objs.size)
  have J := Inv.laid (a := s.heap.objs.size) (o := .dT []) (h' := s.heap.push { cls := .type "dict", data := .dict #[] }) (t' := s.toks) I (fun _ _ e => Heap.get?_push_of_some _ e) (Nat.le_refl _) (dt_empty s.heap I.big)
  have P := (pps_cons (pos := pos) hk hv pps_nil).run pins _ σ _ _ J (q _ fr)
  have len : (pairTrees [some k] [v] X.env pos).length = 1 := pairTrees_length [some k] [v] X.env pos rfl rfl
  rw [arm_eval_Dict, zip_pairTrees [some k] [v] X.env pos rfl rfl, dictDisplay_pairs _ (fun e => by rw [e] at len; cases len) (by rw [len]; decide)]
  refine wpAny_bind (wpAny_standAt (wpAny_bind ?_))
  show wpAny _ _ (do
    let d ← alloc { cls := .type "dict", data := .dict #[] }
    _) _ _ s
  refine wpAny_bind (wpAny_alloc (wpAny_bind (wpAny_holding ?_)))
  rw [if_pos (show (pairTrees [some k] [v] X.env pos).length ≤ 15 by rw [len]; decide)]
  refine wpAny_bind (thn P fun vs s1 ⟨ps, H2, I2, rel, e, b, ks, y, ep, eb, q2⟩ => ?_)
  subst ep
  cases rel with
  | @cons _ z _ _ r0 rt =>
    cases rt
    obtain ⟨u, w2⟩ := z
    obtain ⟨ru, ry⟩ := r0
    obtain rfl : u = Value.ref b := ru
    refine wpAny_holding (wpAny_bind ?_)
    rw [List.forIn_cons]
    obtain ⟨_, hd, xs, rx, dd⟩ := dt_of I2.hok e
    have hx : xs.length ≤ sizeLine := by rw [← Paired.length rx]; exact Nat.zero_le _
    refine wpAny_bind (wpAny_bind (wpAny_dictSet_heap (hsz := hx) (show X.A.units < cLine by omega) (key_of I2.hok eb) dd fun h' dd' hs => wpAny_pure ?_))
    show wpAny _ _ (forIn [] _ _) _ _ _
    rw [List.forIn_nil]
    refine wpAny_pure (wpAny_pure (wpAny_pure ?_))
    obtain ⟨o, es, ep, ho, g2, g3, g4, _, g5⟩ := dd'
    refine wpAny_pure ⟨.ref s.heap.objs.size, _, d_write (ob := .dT [(ks, y)]) I2 (by rw [e]; exact True.intro) hs ⟨o, ho⟩ ⟨(by show 1 ≤ sizeLine; decide), hd, _, (rx.put ks eb ry).keeps fun c ys ec => ?_, o, es, ep, ho, g2, g3, g4, g5⟩, rfl, q2⟩
    rw [upd_ne (ne_of ec e (fun z => nomatch z))]
    exact ec
/-- rules that name K, for places where the context is bound -/
theorem pi_tupK {X : Cx} (K : PySem.W.Frag) {tg l : Expr} {tl : TE} (hl : PE X l tl) (h : X.K = K := by rfl) : PI X tg l (iTup K tl) := by
  subst h
  exact pi_tup hl
end Ls
namespace AL
open PySem PySem.Spec PyProof.Rows L2 Ls
section
variable {e : Ec} {γ γ' : Ga} {s s' : AS} {ta tb tc te tv tl tk td ty : TE} {t u : TT} {tA : TA} {Q : Dat → AS → Prop} {Qb : Bool → AS → Prop} {Qi : List Dat → (AS → Prop) → AS → Prop} {D : AD} {ts us : TS} {wi : TI} {g : TG}
/-! ### dicts that are walked -/
def Lk : Raw → Prop | .dK _ => True | .dT _ => True | _ => False
theorem Lk.mut {K : PySem.W.Frag} {Hf : Hp} {r : Raw} {u : HO} (h : Lk r) (k : RawHO K Hf r u) : Mut (some u) := by
  cases r with
  | dK es =>
    obtain ⟨kvs, rfl, _⟩ := k
    trivial
  | dT es =>
    obtain ⟨kvs, rfl, _⟩ := k
    trivial
  | _ => exact h.elim
theorem g_lock {p : Addr} {r : Raw} (hp : s p = some (.raw r)) (hl : Lk r) (h : ∀ od u, GS e ts γ (supd s p (.raw (.frz od u r))) { nx := fun γ' s' => s' p = some (.raw (.frz od u r)) ∧ D.nx γ' (supd s' p (.raw r)), rt := fun d s' => s' p = some (.raw (.frz od u r)) ∧ D.rt d (supd s' p (.raw r)), bk := fun γ' s' => s' p = some (.raw (.frz od u r)) ∧ D.bk γ' (supd s' p (.raw r)), ct := fun γ' s' => s' p = some (.raw (.frz od u r)) ∧ D.ct γ' (supd s' p (.raw r)) }) : GS e (tLock ts) γ s D := fun F Hf H σ R S X Dc L => by
  obtain ⟨ho, h1, h2⟩ := R.read hp
  refine ⟨p, ho, h1, hl.mut h2, fun od => ?_⟩
  have R2 := R.write hp (w' := .frz od ho r) (o := .frz od ho) ⟨rfl, h2⟩
  have back : ∀ {Q : Ga → AS → Prop} {Qc : L2.St → Hp → Prop}, LG e.K F Hf Q Qc → LG e.K F Hf (fun γ' s' => s' p = some (.raw (.frz od ho r)) ∧ Q γ' (supd s' p (.raw r))) (fun σ' H' => H' p = some (.frz od ho) ∧ Qc σ' (upd H' p ho)) := fun k σ' γ' Hf' H' s' m R' S' ⟨e1, q⟩ => by
    obtain ⟨ho', k1, rfl, k2⟩ := R'.read e1
    exact ⟨k1, k σ' γ' Hf' _ _ m (R'.write e1 k2) S' q⟩
  refine h od ho F Hf _ σ R2 S X _ ⟨back L.nx, fun v d Hf' H' s' m R' a ⟨e1, q⟩ => ?_, back L.bk, back L.ct⟩
  obtain ⟨ho', k1, rfl, k2⟩ := R'.read e1
  exact ⟨k1, L.rt v d Hf' _ _ m (R'.write e1 k2) a q⟩
theorem g_lockE {p : Addr} {r : Raw} (hp : s p = some (.raw r)) (hl : Lk r) (h : ∀ od u, GE e te γ (supd s p (.raw (.frz od u r))) fun d s' => s' p = some (.raw (.frz od u r)) ∧ Q d (supd s' p (.raw r))) : GE e (tLockE te) γ s Q := fun F Hf H σ R S X Qc L => by
  obtain ⟨ho, h1, h2⟩ := R.read hp
  refine ⟨p, ho, h1, hl.mut h2, fun od => ?_⟩
  have R2 := R.write hp (w' := .frz od ho r) (o := .frz od ho) ⟨rfl, h2⟩
  refine h od ho F Hf _ σ R2 S X _ fun v d Hf' H' s' m R' a ⟨e1, q⟩ => ?_
  obtain ⟨ho', k1, rfl, k2⟩ := R'.read e1
  exact ⟨k1, L v d Hf' _ _ m (R'.write e1 k2) a q⟩
def keysK (es : List (Key × Dat)) : List Dat := es.map fun x => keyD x.1
def keysT (es : List (List Key × Dat)) : List Dat := es.map fun x => .tup (x.1.map keyD)
def itemsK (es : List (Key × Dat)) : List Dat := es.map fun x => .tup [keyD x.1, x.2]
theorem keyD_of {K : PySem.W.Frag} {Hf : Hp} (k : Key) : At K Hf (kV k) (keyD k) := by cases k <;> first | exact .int _ | exact .str _
theorem keyD_all {K : PySem.W.Frag} {Hf : Hp} : ∀ ks : List Key, Ats K Hf (ks.map kV) (ks.map keyD)
  | [] => .nil
  | k :: r => .cons (keyD_of k) (keyD_all r)
theorem fst_get {α β γ : Type} {xs : List (α × β)} {ys : List (α × γ)} (h : xs.map (·.1) = ys.map (·.1)) {i : Nat} {x : α × β} (hx : xs[i]? = some x) : ∃ y, ys[i]? = some y ∧ y.1 = x.1 := by
  have := congrArg (fun l => l[i]?) h
  rw [List.getElem?_map, List.getElem?_map, hx] at this
  cases e : ys[i]? with
  | none => rw [e] at this; cases this
  | some y =>
    rw [e] at this
    exact ⟨y, rfl, (Option.some.inj this).symm⟩
theorem snd_get {K : PySem.W.Frag} {Hf : Hp} {α : Type} {xs : List (α × V)} {ys : List (α × Dat)} (h : Ats K Hf (xs.map (·.2)) (ys.map (·.2))) {i : Nat} {x : α × V} {y : α × Dat} (hx : xs[i]? = some x) (hy : ys[i]? = some y) : At K Hf x.2 y.2 := by
  obtain ⟨d, h1, h2⟩ := h.getV (i := i) (v := x.2) (by rw [List.getElem?_map, hx]; rfl)
  rw [List.getElem?_map, hy] at h1
  cases h1
  exact h2
theorem g_wkeys (h : GE e td γ s fun d s1 => ∃ p od u, d = .ref p ∧ ((∃ es, s1 p = some (.raw (.frz od u (.dK es))) ∧ Qi (keysK es) (fun s => s p = some (.raw (.frz od u (.dK es)))) s1) ∨ ∃ es, s1 p = some (.raw (.frz od u (.dT es))) ∧ Qi (keysT es) (fun s => s p = some (.raw (.frz od u (.dT es)))) s1)) : GI e (iKeys td) γ s Qi := fun F Hf H σ R S X Rc k =>
  h F Hf H σ R S X _ fun v d Hf1 H1 s1 m1 R1 a1 ⟨p, od, uu, ed, q⟩ => by
    subst ed
    cases a1
    refine ⟨p, od, rfl, ?_⟩
    rcases q with ⟨es, hp, q⟩ | ⟨es, hp, q⟩
    · obtain ⟨ho, h1, rfl, kvs, rfl, h2, h3⟩ := R1.read hp
      refine .inl ⟨kvs, h1, k _ _ _ Hf1 H1 s1 m1 R1 ⟨_, _, by unfold keysK; rw [List.length_map, ← len_map h2]; exact walk_keys, fun F Hf H s m R g => ?_, ?_⟩ q⟩
      · obtain ⟨ho, g1, rfl, _⟩ := R.read g
        exact g1
      · rintro i F Hf H s x H' m R g hi ⟨rfl, kk, vv, e1, rfl⟩
        obtain ⟨y, e2, e3⟩ := fst_get h2 e1
        refine ⟨Hf, keyD kk, Same.refl _, R, ?_, keyD_of kk, fun _ _ => rfl⟩
        unfold keysK
        rw [List.getElem?_map, e2]
        show some (keyD y.1) = _
        rw [e3]
    · obtain ⟨ho, h1, rfl, kvs, rfl, h2, h3⟩ := R1.read hp
      refine .inr ⟨kvs, h1, k _ _ _ Hf1 H1 s1 m1 R1 ⟨_, _, by unfold keysT; rw [List.length_map, ← len_map h2]; exact walk_keysT, fun F Hf H s m R g => ?_, ?_⟩ q⟩
      · obtain ⟨ho, g1, rfl, _⟩ := R.read g
        exact g1
      · rintro i F Hf H s x H' m R g hi ⟨rfl, kk, vv, qq, e1, rfl, eT⟩
        obtain ⟨y, e2, e3⟩ := fst_get h2 e1
        obtain ⟨Hf', m', R', eT'⟩ := R.adopt eT
        refine ⟨Hf', .tup (kk.map keyD), m', R', ?_, .tup eT' (keyD_all kk), fun _ _ => rfl⟩
        unfold keysT
        rw [List.getElem?_map, e2]
        show some (Dat.tup (y.1.map keyD)) = _
        rw [e3]
theorem g_witems (h : GE e td γ s fun d s1 => ∃ p od u es, d = .ref p ∧ s1 p = some (.raw (.frz od u (.dK es))) ∧ Qi (itemsK es) (fun s => s p = some (.raw (.frz od u (.dK es)))) s1) : GI e (iItems td) γ s Qi := fun F Hf H σ R S X Rc k =>
  h F Hf H σ R S X _ fun v d Hf1 H1 s1 m1 R1 a1 ⟨p, od, uu, es, ed, hp, q⟩ => by
    subst ed
    cases a1
    obtain ⟨ho, h1, rfl, kvs, rfl, h2, h3⟩ := R1.read hp
    refine ⟨p, od, kvs, rfl, h1, k _ _ _ Hf1 H1 s1 m1 R1 ⟨_, _, by unfold itemsK; rw [List.length_map, ← len_map h2]; exact walk_items, fun F Hf H s m R g => ?_, ?_⟩ q⟩
    · obtain ⟨ho, g1, rfl, _⟩ := R.read g
      exact g1
    · rintro i F Hf H s x H' m R g hi ⟨T, y, z, rfl, hT, rfl, e1, e2⟩
      dsimp only at e1 e2
      cases e3 : kvs[i]? with
      | none => rw [e3] at e1; cases e1
      | some kv =>
        rw [e3] at e1 e2
        cases e1
        cases e2
        obtain ⟨y, e4, e5⟩ := fst_get h2 e3
        obtain ⟨Hf', m', R', a'⟩ := pair_grow R hT (keyD_of kv.1) ((snd_get h3 e3 e4).same m)
        refine ⟨Hf', _, m', R', ?_, a', fun b hb => upd_ne (fun z => hb (z ▸ hT))⟩
        unfold itemsK
        rw [List.getElem?_map, e4]
        show some (Dat.tup [keyD y.1, y.2]) = _
        rw [e5]
/-! ### dicts that are written out -/
def GP (e : Ec) (trs : List (TE × TE)) (γ : Ga) (s : AS) (Q : List (Dat × Dat) → AS → Prop) : Prop := ∀ F Hf H σ, Rep e.K F Hf H s → Slots e.K Hf σ γ → LiftX e F Hf → ∀ Qc : List (V × V) → Hp → Prop, (∀ ps ds Hf' H' s', Same Hf Hf' → Rep e.K F Hf' H' s' → Ats e.K Hf' (ps.map (·.1)) (ds.map (·.1)) → Ats e.K Hf' (ps.map (·.2)) (ds.map (·.2)) → Q ds s' → Qc ps H') → tPairs trs σ H Qc
theorem g_pnil {Qp : List (Dat × Dat) → AS → Prop} (q : Qp [] s) : GP e [] γ s Qp := fun F Hf H σ R S X Qc k => k [] [] Hf H s (Same.refl _) R .nil .nil q
theorem g_pcons {trs : List (TE × TE)} {Qp : List (Dat × Dat) → AS → Prop} (h : GE e tk γ s fun a s1 => GE e tv γ s1 fun b s2 => GP e trs γ s2 fun ds s3 => Qp ((a, b) :: ds) s3) : GP e ((tk, tv) :: trs) γ s Qp := fun F Hf H σ R S X Qc k =>
  h F Hf H σ R S X _ fun x a Hf1 H1 s1 m1 R1 a1 h1 => h1 F Hf1 H1 σ R1 (S.same m1) (X.same m1) _ fun y b Hf2 H2 s2 m2 R2 a2 h2 => h2 F Hf2 H2 σ R2 (S.same (m1.trans m2)) (X.same (m1.trans m2)) _ fun ps ds Hf3 H3 s3 m3 R3 a3 a4 q => k ((x, y) :: ps) ((a, b) :: ds) Hf3 H3 s3 ((m1.trans m2).trans m3) R3 (.cons (a1.same (m2.trans m3)) a3) (.cons (a2.same m3) a4) q
def mergeG (es more : List (Key × Dat)) : List (Key × Dat) := more.foldl (fun acc kv => putG acc kv.1 kv.2) es
theorem merge_at {K : PySem.W.Frag} {Hf : Hp} : ∀ {kvs : List (Key × V)} {es : List (Key × Dat)} {a : List (Key × V)} {b : List (Key × Dat)}, kvs.map (·.1) = es.map (·.1) → Ats K Hf (kvs.map (·.2)) (es.map (·.2)) → a.map (·.1) = b.map (·.1) → Ats K Hf (a.map (·.2)) (b.map (·.2)) → (mergeK a kvs).map (·.1) = (mergeG b es).map (·.1) ∧ Ats K Hf ((mergeK a kvs).map (·.2)) ((mergeG b es).map (·.2))
  | [], [], _, _, _, _, h1, h2 => ⟨h1, h2⟩
  | [], _ :: _, _, _, h, _, _, _ => by cases h
  | _ :: _, [], _, _, h, _, _, _ => by cases h
  | (k, v) :: r, (k2, d) :: q, a, b, h, .cons x y, h1, h2 => by
    rw [List.map_cons, List.map_cons, List.cons.injEq] at h
    obtain ⟨e1, e2⟩ := h
    dsimp only at e1
    subst e1
    obtain ⟨p1, p2⟩ := put_at (k := k) x h1 h2
    exact merge_at (kvs := r) (es := q) e2 y p1 p2
def keyOf : Dat → Option Key | .int i => some (.inl i) | .str z => some (.inr z) | _ => none
theorem keys_of {K : PySem.W.Frag} {Hf : Hp} : ∀ {ps : List (V × V)} {ds : List (Dat × Dat)} {es : List (Key × Dat)}, Ats K Hf (ps.map (·.1)) (ds.map (·.1)) → Ats K Hf (ps.map (·.2)) (ds.map (·.2)) → ds = es.map (fun x => (keyD x.1, x.2)) → ∃ kvs : List (Key × V), ps = kvs.map (fun kv => (kV kv.1, kv.2)) ∧ kvs.map (·.1) = es.map (·.1) ∧ Ats K Hf (kvs.map (·.2)) (es.map (·.2))
  | [], [], [], _, _, _ => ⟨[], rfl, rfl, .nil⟩
  | [], [], _ :: _, _, _, h => by cases h
  | [], _ :: _, _, h, _, _ => by cases h
  | _ :: _, [], _, h, _, _ => by cases h
  | _ :: _, _ :: _, [], _, _, h => by cases h
  | (x, y) :: r, (a, b) :: q, (k, d) :: w, .cons h1 h2, .cons h3 h4, h => by
    rw [List.map_cons, List.cons.injEq] at h
    obtain ⟨e1, e2⟩ := h
    cases e1
    obtain ⟨kvs, e3, e4, e5⟩ := keys_of h2 h4 e2
    have e6 : x = kV k := keyD_at h1
    refine ⟨(k, y) :: kvs, ?_, ?_, .cons h3 e5⟩
    · rw [List.map_cons, ← e3, e6]
    · rw [List.map_cons, List.map_cons, e4]
/-- a dict that stands for good -/
theorem g_disp {trs : List (TE × TE)} (h : GP e trs γ s fun ds s1 => ∃ es : List (Key × Dat), ds = es.map (fun x => (keyD x.1, x.2)) ∧ es.length ≤ 15 ∧ Q (.dK (mergeG [] es)) s1) : GE e (tDisp trs) γ s Q := fun F Hf H σ R S X Qc L => fun p hp => by
  have hF := (R.free hp).2.1
  refine h _ Hf _ σ (R.hide hp (w := .dK []) ⟨[], rfl, rfl, .nil⟩) S (X.hide hF) _ fun ps ds Hf1 H1 s1 m1 R1 a1 a2 ⟨es, ed, hl, q⟩ => ?_
  obtain ⟨kvs, e1, e2, e3⟩ := keys_of a1 a2 ed
  obtain ⟨_, ho, h1, kv0, rfl, h2, h3⟩ := R1.readF
  have : kv0 = [] := by cases kv0 with | nil => rfl | cons _ _ => cases h2
  subst this
  refine ⟨h1, kvs, e1, by rw [len_map e2]; exact hl, ?_⟩
  obtain ⟨p1, p2⟩ := merge_at (a := []) (b := []) e2 e3 rfl .nil
  have R2 := R1.writeF (w' := .dK (mergeG [] es)) (o := .dK (mergeK [] kvs)) ⟨_, rfl, p1, p2⟩
  obtain ⟨ho, h4, ⟨kv1, rfl, h5, h6⟩, m3, R3⟩ := R2.showF hF
  exact L _ _ _ _ s1 (m1.trans m3) R3 (.dK upd_same h5 (h6.same m3)) q
/-- a dict of one's own -/
theorem g_dispM {trs : List (TE × TE)} (h : GP e trs γ s fun ds s1 => ∃ es : List (Key × Dat), ds = es.map (fun x => (keyD x.1, x.2)) ∧ es.length ≤ 15 ∧ ∀ p, s1 p = none → Q (.ref p) (supd s1 p (.raw (.dK (mergeG [] es))))) : GE e (tDisp trs) γ s Q := fun F Hf H σ R S X Qc L => fun p hp => by
  have hF := (R.free hp).2.1
  refine h _ Hf _ σ (R.hide hp (w := .dK []) ⟨[], rfl, rfl, .nil⟩) S (X.hide hF) _ fun ps ds Hf1 H1 s1 m1 R1 a1 a2 ⟨es, ed, hl, q⟩ => ?_
  obtain ⟨kvs, e1, e2, e3⟩ := keys_of a1 a2 ed
  obtain ⟨hs, ho, h1, kv0, rfl, h2, h3⟩ := R1.readF
  have : kv0 = [] := by cases kv0 with | nil => rfl | cons _ _ => cases h2
  subst this
  refine ⟨h1, kvs, e1, by rw [len_map e2]; exact hl, ?_⟩
  obtain ⟨p1, p2⟩ := merge_at (a := []) (b := []) e2 e3 rfl .nil
  have R2 := R1.writeF (w' := .dK (mergeG [] es)) (o := .dK (mergeK [] kvs)) ⟨_, rfl, p1, p2⟩
  exact L _ _ _ _ _ m1 (R2.outF hF) (.ref p) (q p hs)
end
end AL
namespace Ls
open PySem PySem.Spec PyProof.Rows L2
/-! ### x = {..: .. for ..} on one line, x a local that is no name of the comprehension -/
section
variable {X : Cx}
theorem swD {kx vx : Expr} {gs : List Comprehension} {sc : Scope} {po px : Pos} {x : Str} {l : Nat} {env : Env} (h1 : env.scope.kind = .function) (h2 : env.scope.names.lookup x = some .local) (h3 : (px.line == po.line) = true)
    (h4 : (sc.names.any fun z => z.1 == x && (z.2 == .local || z.2 == .cell)) = false) : swapsWith (.DictComp kx vx gs sc po) (some (.Name x px)) l env = pure true := by
  have k1 : env.kindOf x = some .local := h2
  have k2 : env.blockKind = .function := by simp [Env.blockKind, h1]
  simp only [swapsWith, k1, k2, h4, Expr.pos, h3]
  rfl
theorem ps_setDc {i : Nat} {x : Str} {px : Pos} {kx vx tg it : Expr} {fs : List Expr} {sc : Scope} {own : List (Str × Nat)} {po sp : Pos} {wi : TI} {g : TG} {tt : TT} {tk tv : TE} (c1 : X.calm = true) (c2 : X.N.Nodup) (c3 : X.N[i]? = some x) (c4 : X.env.scope.names.lookup x = some .local)
    (c5 : swapsWith (.DictComp kx vx [⟨tg, it, fs, 0⟩] sc po) (some (.Name x px)) sp.line X.env = pure true) (a1 : PI X tg it wi) (a2 : BlkOk X.N X.env.scope sc own) (a3 : ∀ s H C cl fp, PG (X.blk s H sc (compEnvC sc cl C X.env) fp) tg g) (a4 : ∀ s H C cl fp, PTs (X.blk s H sc (compEnvC sc cl C X.env) fp) fs tt)
    (a5 : ∀ s H C cl fp, PE (X.blk s H sc (compEnvC sc cl C X.env) fp) kx tk) (a6 : ∀ s H C cl fp, PE (X.blk s H sc (compEnvC sc cl C X.env) fp) vx tv) (a7 : ∀ v, foldedSetIterable it X.env v = pure v := by intro _; rfl) : PS X (.Assign [.Name x px] (.DictComp kx vx [⟨tg, it, fs, 0⟩] sc po) sp) (tAsg (tDc wi g tt tk tv (own.map (·.2))) (gName i)) where
  run pins s σ H D I h := by
    have e := exec_Assign_Name_used x px _ sp c5
    rw [e]
    apply wpAny_bind
    apply wpAny_standAt
    apply wpAny_bind
    change wpAny _ X.A (do let _ ← comprehension (.DictComp kx vx [⟨tg, it, fs, 0⟩] sc po) sc X.env (firstIterPos [⟨tg, it, fs, 0⟩] po) newDict false (eval it X.env) (some (assign (.Name x px) X.env))) _ _ s
    apply wpAny_bind
    refine thn (dc_core (Q := fun v H1 => gName i v σ H1 D.nx) (Qf := fun _ s2 => SP X pins D .next s2) c1 c2 I a1 a2 a3 a4 a5 a6 a7 h ?_) (fun _ s2 z => wpAny_pure (wpAny_pure z))
    intro L C s2 m H2 I2 q n f
    change wpAny _ _ (assign (.Name x px) X.env (.ref L)) _ _ _
    apply wpAny_assign_Name
    refine store_ok2 (v := V.ref L) I2 c2 c3 (.inl c4) rfl (fun s3 I3 z => ?_) (.inr c4)
    obtain ⟨a, b, hz⟩ := z
    have ne : C ≠ a := hz.elim (fun z => z ▸ f.2.1) fun z e => f.2.2.2.2.1 x a z e.symm
    exact ⟨m, n.sameBut b ne, fun h4 b4 => ⟨_, H2, I3.turned (t' := s3.toks) (fun c o hc e => (b4.2 c hc).trans e) f.1 f.2.1 f.2.2.2.1 f.2.2.2.2.1 f.2.2.2.2.2, q⟩⟩
end
end Ls
namespace AL
open PySem PySem.Spec PyProof.Rows L2 Ls
section
variable {e : Ec} {γ γ' : Ga} {s s' : AS} {ta tb tc te tv tl tk td ty : TE} {t u : TT} {tA : TA} {Q : Dat → AS → Prop} {Qb : Bool → AS → Prop} {Qi : List Dat → (AS → Prop) → AS → Prop} {D : AD} {ts us : TS} {wi : TI} {g : TG}
/-! ### dict comprehensions -/
def DcW (e : Ec) (vs : List Nat) (g : TG) (t : TT) (tk tv : TE) (γ : Ga) (Q : List (Key × Dat) → AS → Prop) (s1 : AS) (xs : List Dat) (Gs : AS → Prop) : Prop := ∃ I : Nat → List (Key × Dat) → AS → Prop, xs.length < sizeLine ∧ I 0 [] s1 ∧ (∀ i acc s', i ≤ xs.length → I i acc s' → Gs s') ∧ (∀ i d acc s', xs[i]? = some d → I i acc s' → GG e (some vs) g d (wipeG γ vs) s' fun γ2 s2 => GT e t γ2 s2 fun b s3 =>
    (b = true → GE e tk γ2 s3 fun y s4 => GE e tv γ2 s4 fun z s5 => ∃ k, y = keyD k ∧ I (i + 1) (putG acc k z) s5) ∧ (b = false → I (i + 1) acc s3)) ∧ ∀ acc s', I xs.length acc s' → Q acc s'
theorem len_putG {κ : Type} [DecidableEq κ] {es : List (κ × Dat)} {k : κ} {v : Dat} : (putG es k v).length ≤ es.length + 1 := by
  unfold putG
  split
  · rw [List.length_map]
    exact Nat.le_succ _
  · rw [List.length_append]
    exact Nat.le_refl _
theorem dc_it {vs : List Nat} (Qd : ∀ (F : AS) (Hf H : Hp) (Dp : Addr) (es : List (Key × Dat)) (s : AS), VK → Prop) (h : GI e wi γ s fun xs Gs s1 => DcW e vs g t tk tv γ (fun es s' => Q (.dK es) s') s1 xs Gs) : GE e (tDc wi g t tk tv vs) γ s Q := fun F Hf H σ R S X Qc L =>
  h F Hf H σ R S X _ fun J xs Gs Hf1 H1 s1 m1 R1 dw ⟨I, hz, i0, ig, st, fin⟩ => fun Dp hD => by
    obtain ⟨Gc, Y, w, wg, wy⟩ := dw.ex
    have hF := (R1.free hD).2.1
    refine dc_walk w (fun i H' => ∃ Hf2 s2 acc, Same Hf1 Hf2 ∧ Rep e.K (supd F Dp (.raw (.dK acc))) Hf2 H' s2 ∧ acc.length ≤ i ∧ I i acc s2) ⟨Hf1, s1, [], Same.refl _, R1.hide hD (w := .dK []) ⟨[], rfl, rfl, .nil⟩, Nat.zero_le _, i0⟩ (fun i H' hi ⟨Hf2, s2, acc, m2, R2, _, h2⟩ => wg _ Hf2 H' s2 m2 R2 (ig i acc s2 hi h2)) ?_ ?_
    · rintro i x H2 H3 hi ⟨Hf2, s2, acc, m2, R2, la, h2⟩ y
      obtain ⟨Hf3, d, m3, R3, hd, a3, _⟩ := wy i _ Hf2 H2 s2 x H3 m2 R2 (ig i acc s2 (Nat.le_of_lt hi) h2) hi y
      have m13 := m2.trans m3
      have X3 : LiftX e (supd F Dp (.raw (.dK acc))) Hf3 := (X.same (m1.trans m13)).hide hF
      have S3 : Slots e.K Hf3 (L2.wipe σ vs) (wipeG γ vs) := (S.wipe vs).same (m1.trans m13)
      refine st i d acc s2 hd h2 _ Hf3 H3 (L2.wipe σ vs) x R3 S3 X3 a3 _ fun σ4 γ4 Hf4 H4 s4 m4 R4 S4 w4 q4 => ?_
      refine ⟨Eq.trans w4 (wipe_wipe fun i hi => hi), q4 _ Hf4 H4 σ4 R4 S4 (X3.same m4) _ fun b Hf5 H5 s5 m5 R5 ⟨q1, q2⟩ => ?_⟩
      have m15 := (m13.trans m4).trans m5
      cases b with
      | false => exact ⟨Hf5, s5, acc, m15, R5, Nat.le_succ_of_le la, q2 rfl⟩
      | true =>
        refine q1 rfl _ Hf5 H5 σ4 R5 (S4.same m5) (X3.same (m4.trans m5)) _ fun y dy Hf6 H6 s6 m6 R6 a6 q6 => q6 _ Hf6 H6 σ4 R6 (S4.same (m5.trans m6)) (X3.same ((m4.trans m5).trans m6)) _ fun z dz Hf7 H7 s7 m7 R7 a7 ⟨k, ey, q7⟩ => ?_
        subst ey
        obtain ⟨_, ho, h61, av, rfl, h62, h63⟩ := R7.readF
        obtain ⟨p1, p2⟩ := put_at (k := k) a7 h62 h63
        refine ⟨av, k, keyD_at a6, h61, ?_, Hf7, s7, putG acc k dz, (m15.trans m6).trans m7, R7.writeF (w' := .dK (putG acc k dz)) ⟨_, rfl, p1, p2⟩, ?_, q7⟩
        · rw [len_map h62]
          exact Nat.lt_of_le_of_lt la (Nat.lt_trans hi hz)
        · exact Nat.le_trans len_putG (Nat.succ_le_succ la)
    · rintro H2 ⟨Hf2, s2, acc, m2, R2, la, h2⟩
      obtain ⟨ho, h3, ⟨av, rfl, h4, h5⟩, m3, R3⟩ := R2.showF hF
      exact L _ _ _ H2 s2 ((m1.trans m2).trans m3) R3 (.dK upd_same h4 (h5.same m3)) (fin acc s2 h2)
/-- one that stands for good -/
theorem g_dc {vs : List Nat} (h : GI e wi γ s fun xs Gs s1 => DcW e vs g t tk tv γ (fun es s' => Q (.dK es) s') s1 xs Gs) : GE e (tDc wi g t tk tv vs) γ s Q := dc_it (fun _ _ _ _ _ _ _ => True) h
/-- one of one's own -/
theorem g_dcM {vs : List Nat} (h : GI e wi γ s fun xs Gs s1 => DcW e vs g t tk tv γ (fun es s' => ∀ p, s' p = none → Q (.ref p) (supd s' p (.raw (.dK es)))) s1 xs Gs) : GE e (tDc wi g t tk tv vs) γ s Q := fun F Hf H σ R S X Qc L =>
  h F Hf H σ R S X _ fun J xs Gs Hf1 H1 s1 m1 R1 dw ⟨I, hz, i0, ig, st, fin⟩ => fun Dp hD => by
    obtain ⟨Gc, Y, w, wg, wy⟩ := dw.ex
    have hF := (R1.free hD).2.1
    refine dc_walk w (fun i H' => ∃ Hf2 s2 acc, Same Hf1 Hf2 ∧ Rep e.K (supd F Dp (.raw (.dK acc))) Hf2 H' s2 ∧ acc.length ≤ i ∧ I i acc s2) ⟨Hf1, s1, [], Same.refl _, R1.hide hD (w := .dK []) ⟨[], rfl, rfl, .nil⟩, Nat.zero_le _, i0⟩ (fun i H' hi ⟨Hf2, s2, acc, m2, R2, _, h2⟩ => wg _ Hf2 H' s2 m2 R2 (ig i acc s2 hi h2)) ?_ ?_
    · rintro i x H2 H3 hi ⟨Hf2, s2, acc, m2, R2, la, h2⟩ y
      obtain ⟨Hf3, d, m3, R3, hd, a3, _⟩ := wy i _ Hf2 H2 s2 x H3 m2 R2 (ig i acc s2 (Nat.le_of_lt hi) h2) hi y
      have m13 := m2.trans m3
      have X3 : LiftX e (supd F Dp (.raw (.dK acc))) Hf3 := (X.same (m1.trans m13)).hide hF
      have S3 : Slots e.K Hf3 (L2.wipe σ vs) (wipeG γ vs) := (S.wipe vs).same (m1.trans m13)
      refine st i d acc s2 hd h2 _ Hf3 H3 (L2.wipe σ vs) x R3 S3 X3 a3 _ fun σ4 γ4 Hf4 H4 s4 m4 R4 S4 w4 q4 => ?_
      refine ⟨Eq.trans w4 (wipe_wipe fun i hi => hi), q4 _ Hf4 H4 σ4 R4 S4 (X3.same m4) _ fun b Hf5 H5 s5 m5 R5 ⟨q1, q2⟩ => ?_⟩
      have m15 := (m13.trans m4).trans m5
      cases b with
      | false => exact ⟨Hf5, s5, acc, m15, R5, Nat.le_succ_of_le la, q2 rfl⟩
      | true =>
        refine q1 rfl _ Hf5 H5 σ4 R5 (S4.same m5) (X3.same (m4.trans m5)) _ fun y dy Hf6 H6 s6 m6 R6 a6 q6 => q6 _ Hf6 H6 σ4 R6 (S4.same (m5.trans m6)) (X3.same ((m4.trans m5).trans m6)) _ fun z dz Hf7 H7 s7 m7 R7 a7 ⟨k, ey, q7⟩ => ?_
        subst ey
        obtain ⟨_, ho, h61, av, rfl, h62, h63⟩ := R7.readF
        obtain ⟨p1, p2⟩ := put_at (k := k) a7 h62 h63
        refine ⟨av, k, keyD_at a6, h61, ?_, Hf7, s7, putG acc k dz, (m15.trans m6).trans m7, R7.writeF (w' := .dK (putG acc k dz)) ⟨_, rfl, p1, p2⟩, ?_, q7⟩
        · rw [len_map h62]
          exact Nat.lt_of_le_of_lt la (Nat.lt_trans hi hz)
        · exact Nat.le_trans len_putG (Nat.succ_le_succ la)
    · rintro H2 ⟨Hf2, s2, acc, m2, R2, la, h2⟩
      exact L _ _ _ H2 _ (m1.trans m2) (R2.outF hF) (.ref Dp) (fin acc s2 h2 Dp R2.readF.1)
theorem DcW.mk {α : Type} {vs : List Nat} {xs : List Dat} {Gs : AS → Prop} {Qd : List (Key × Dat) → AS → Prop} (l : List α) (enc : α → Dat) (ex : xs = l.map enc) (I : Nat → List (Key × Dat) → AS → Prop) (hz : l.length < sizeLine) (h0 : I 0 [] s) (hg : ∀ i acc s', i ≤ l.length → I i acc s' → Gs s')
    (hs : ∀ i x acc s', l[i]? = some x → I i acc s' → GG e (some vs) g (enc x) (wipeG γ vs) s' fun γ2 s2 => GT e t γ2 s2 fun b s3 => (b = true → GE e tk γ2 s3 fun y s4 => GE e tv γ2 s4 fun z s5 => ∃ k, y = keyD k ∧ I (i + 1) (putG acc k z) s5) ∧ (b = false → I (i + 1) acc s3)) (hd : ∀ acc s', I l.length acc s' → Qd acc s') : DcW e vs g t tk tv γ Qd s xs Gs := by
  subst ex
  refine ⟨I, by rw [List.length_map]; exact hz, h0, fun i acc s' hi => hg i acc s' (by rw [List.length_map] at hi; exact hi), fun i d acc s' hd' => ?_, fun acc s' h => hd acc s' (by rw [List.length_map] at h; exact h)⟩
  rw [List.getElem?_map] at hd'
  obtain ⟨x, hx, rfl⟩ := Option.map_eq_some_iff.mp hd'
  exact hs i x acc s' hx
/-- its keys differ: the pairs in their order -/
theorem putG_new {κ : Type} [DecidableEq κ] {es : List (κ × Dat)} {k : κ} {v : Dat} (h : k ∉ es.map (·.1)) : putG es k v = es ++ [(k, v)] := by
  unfold putG
  rw [if_neg]
  intro hh
  obtain ⟨x, hx, hk⟩ := List.any_eq_true.mp hh
  exact h (List.mem_map.mpr ⟨x, hx, of_decide_eq_true hk⟩)
theorem DcW.map {α : Type} {vs : List Nat} {xs : List Dat} {Gs : AS → Prop} {Qd : List (Key × Dat) → AS → Prop} (l : List α) (enc : α → Dat) (kf : α → Key) (f : α → Dat) (ex : xs = l.map enc) (hz : l.length < sizeLine) (hn : (l.map kf).Nodup) (hg : Gs s)
    (hs : ∀ x ∈ l, GG e (some vs) g (enc x) (wipeG γ vs) s fun γ2 s2 => GE e tk γ2 s2 fun y s3 => GE e tv γ2 s3 fun z s4 => y = keyD (kf x) ∧ z = f x ∧ s4 = s) (q : Qd (l.map fun x => (kf x, f x)) s) : DcW e vs g tYes tk tv γ Qd s xs Gs := by
  refine DcW.mk l enc ex (fun i acc s' => acc = (l.take i).map (fun x => (kf x, f x)) ∧ s' = s) hz ⟨rfl, rfl⟩ (fun i acc s' _ h => by rw [h.2]; exact hg) (fun i x acc s' hx ⟨ea, es⟩ => ?_) fun acc s' ⟨ea, es⟩ => ?_
  · subst ea es
    have hm : x ∈ l := List.mem_of_getElem? hx
    have hi : i < l.length := by
      rcases Nat.lt_or_ge i l.length with h | h
      · exact h
      · rw [List.getElem?_eq_none_iff.mpr h] at hx
        cases hx
    have new : kf x ∉ ((l.take i).map (fun x => (kf x, f x))).map (·.1) := by
      rw [List.map_map]
      intro hmem
      have e1 : (l.map kf)[i]? = some (kf x) := by rw [List.getElem?_map, hx]; rfl
      obtain ⟨y, hy, ey⟩ := List.mem_map.mp hmem
      obtain ⟨j, hj⟩ := List.mem_iff_getElem?.mp hy
      have hji : j < i := by
        rcases Nat.lt_or_ge j i with h | h
        · exact h
        · rw [List.getElem?_eq_none_iff.mpr (by rw [List.length_take]; omega)] at hj
          cases hj
      rw [List.getElem?_take_of_lt hji] at hj
      have e2 : (l.map kf)[j]? = some (kf x) := by rw [List.getElem?_map, hj]; exact congrArg some ey
      have e3 := (List.getElem?_inj (by rw [List.length_map]; omega) hn).mp (e2.trans e1.symm)
      omega
    have st : (l.take (i + 1)).map (fun x => (kf x, f x)) = putG ((l.take i).map (fun x => (kf x, f x))) (kf x) (f x) := by
      rw [putG_new new, List.take_add_one, hx, List.map_append]
      rfl
    rw [st]
    intro F Hf H σ v R S X av Qc k
    refine hs x hm F Hf H σ v R S X av Qc fun σ' γ2 Hf' H' s2 m R' S' wk q2 => k σ' γ2 Hf' H' s2 m R' S' wk ?_
    refine g_yes ⟨fun _ => ?_, fun z => nomatch z⟩
    exact GE.imp q2 fun y s4 h4 => GE.imp h4 fun z s5 ⟨e1, e2, e3⟩ => ⟨kf x, e1, by rw [e2], e3⟩
  · subst ea es
    rw [List.take_length]
    exact q
/-! ### own methods behind operators; instances that are made for good -/
theorem ro_inO {K : PySem.W.Frag} {C : Addr} {A : ASp} : ROk K (rInO C (conc K A)) (fun a b s Q => ∃ fs, InsF s b C fs ∧ A [b, a] s (fun d s' => ∃ c, d = .bl c ∧ Q (.bl c) s') noX) := by
  rintro F Hf H s x y a b Q Qc R ax ay L ⟨fs, hi, q⟩
  obtain ⟨o, dx, gs, rfl, h1, _⟩ := hi.get R ay
  refine ⟨o, dx, gs, rfl, h1, [b, a], F, Hf, s, _, noX, R, .cons ay (.cons ax .nil), q, fun v d Hf' H' s' m R' av ⟨c, ed, q'⟩ => ?_, fun _ _ _ _ _ _ _ _ _ z => z.elim⟩
  subst ed
  cases av
  exact ⟨c, rfl, L _ _ Hf' H' s' m R' (.bl c) q'⟩
theorem ro_notInO {K : PySem.W.Frag} {C : Addr} {A : ASp} : ROk K (rNotInO C (conc K A)) (fun a b s Q => ∃ fs, InsF s b C fs ∧ A [b, a] s (fun d s' => ∃ c, d = .bl c ∧ Q (.bl (!c)) s') noX) := by
  rintro F Hf H s x y a b Q Qc R ax ay L ⟨fs, hi, q⟩
  obtain ⟨o, dx, gs, rfl, h1, _⟩ := hi.get R ay
  refine ⟨o, dx, gs, rfl, h1, [b, a], F, Hf, s, _, noX, R, .cons ay (.cons ax .nil), q, fun v d Hf' H' s' m R' av ⟨c, ed, q'⟩ => ?_, fun _ _ _ _ _ _ _ _ _ z => z.elim⟩
  subst ed
  cases av
  exact ⟨c, rfl, L _ _ Hf' H' s' m R' (.bl _) q'⟩
theorem co_lenO {K : PySem.W.Frag} {C : Addr} {A : ASp} : COk K (rLenO C (conc K A)) (fun ds s Q => ∃ a fs, ds = [a] ∧ InsF s a C fs ∧ A [a] s (fun d s' => ∃ n : Int, d = .int n ∧ 0 ≤ n ∧ n < 2 ^ 63 ∧ Q (.int n) s') noX) := by
  rintro F Hf H s xs ds Q Qc R ad L ⟨a, fs, rfl, hi, q⟩
  obtain ⟨v, rfl, av⟩ := ats1 ad
  obtain ⟨o, dx, gs, rfl, h1, _⟩ := hi.get R av
  refine ⟨o, dx, gs, rfl, h1, [a], F, Hf, s, _, noX, R, .cons av .nil, q, fun v d Hf' H' s' m R' av ⟨c, ed, c0, c1, q'⟩ => ?_, fun _ _ _ _ _ _ _ _ _ z => z.elim⟩
  subst ed
  cases av
  exact ⟨c, rfl, c0, c1, L _ _ Hf' H' s' m R' (.int _) q'⟩
theorem Rep.freezeI {K : PySem.W.Frag} {F : AS} {Hf H : Hp} {x C dx : Addr} {fs : List (Str × Dat)} (R : Rep K F Hf H s) (h : s x = some (.raw (.ins C dx fs))) : ∃ Hf', Same Hf Hf' ∧ Rep K F Hf' H (sdel s x) ∧ At K Hf' (.ref x) (.ins C fs) := by
  obtain ⟨ho, h1, ⟨gs, rfl, h2, h3⟩, m, R2⟩ := R.freeze h
  exact ⟨_, m, R2, .ins upd_same h2 (h3.same m)⟩
/-- an instance that is made and stands for good -/
theorem g_makeI {A : ASp} {C : Addr} (h : GA e tA γ s fun ds s1 => ∀ x dx, s1 x = none → s1 dx = none → dx ≠ x → A (.ref x :: ds) (supd (supd s1 dx (.raw (.own x))) x (.raw (.ins C dx []))) (fun d s2 => d = .non ∧ ∃ fs, s2 x = some (.raw (.ins C dx fs)) ∧ Q (.ins C fs) (sdel (sdel s2 x) dx)) noX) : GE e (tMake C (conc e.K A) [] E0 tA) γ s Q := fun F Hf H σ R S X Qc L =>
  h F Hf H σ R S X _ fun xs ds Hf1 H1 s1 m1 R1 a1 q => fun x dx hx hd n => by
    obtain ⟨R2, sx, sd⟩ := new2 (C := C) R1 hx hd n
    refine ⟨.ref x :: ds, F, Hf1, _, _, noX, R2, by rw [List.append_nil]; exact .cons (.ref x) a1, q x dx sx sd n, fun v d Hf3 H3 s3 m3 R3 a3 ⟨ed, fs, e3, q3⟩ => ?_, fun _ _ _ _ _ _ _ _ _ z => z.elim⟩
    subst ed
    cases a3
    obtain ⟨Hf4, m4, R4, a4⟩ := R3.freezeI e3
    refine ⟨rfl, L _ _ Hf4 H3 _ ((m1.trans m3).trans m4) (R4.drop fun a c hc => ?_) a4 q3⟩
    unfold sdel at hc
    split at hc
    · cases hc
    · exact hc
/-- the same where it may raise -/
theorem g_makeIS {A : ASp} {C : Addr} (h : GA e tA γ s fun ds s1 => ∀ x dx, s1 x = none → s1 dx = none → dx ≠ x → A (.ref x :: ds) (supd (supd s1 dx (.raw (.own x))) x (.raw (.ins C dx []))) (fun d s2 => d = .non ∧ ∃ fs, s2 x = some (.raw (.ins C dx fs)) ∧ Q (.ins C fs) (sdel (sdel s2 x) dx)) fun cls fs s3 => e.Ax cls fs γ s3) : GE e (tMakeS C (conc e.K A) e.W tA) γ s Q := fun F Hf H σ R S X Qc L =>
  h F Hf H σ R S X _ fun xs ds Hf1 H1 s1 m1 R1 a1 q => fun x dx hx hd n => by
    obtain ⟨R2, sx, sd⟩ := new2 (C := C) R1 hx hd n
    refine ⟨.ref x :: ds, F, Hf1, _, _, _, R2, .cons (.ref x) a1, q x dx sx sd n, fun v d Hf3 H3 s3 m3 R3 a3 ⟨ed, fs, e3, q3⟩ => ?_, fun cls d fs Hf3 H3 s3 m3 R3 er z => X cls d fs γ s3 σ Hf3 H3 (m1.trans m3) R3 (S.same (m1.trans m3)) er z⟩
    subst ed
    cases a3
    obtain ⟨Hf4, m4, R4, a4⟩ := R3.freezeI e3
    refine ⟨rfl, L _ _ Hf4 H3 _ ((m1.trans m3).trans m4) (R4.drop fun a c hc => ?_) a4 q3⟩
    unfold sdel at hc
    split at hc
    · cases hc
    · exact hc
theorem sdel2 {x dx : Addr} {c d : Cell} (hx : s x = none) (hd : s dx = none) (n : dx ≠ x) : sdel (sdel (supd (supd s dx d) x c) x) dx = s := by
  funext a
  unfold sdel supd
  by_cases h1 : a = dx
  · rw [if_pos h1, h1, hd]
  · rw [if_neg h1]
    by_cases h2 : a = x
    · rw [if_pos h2, h2, hx]
    · rw [if_neg h2, if_neg h2, if_neg h1]
/-! ### boxes -/
theorem GS.open {p : Addr} {P : (Addr → Option Raw) → Prop} (hp : s p = some (.box P)) (h : ∀ sm, P sm → (∀ a, sm a ≠ none → a = p ∨ s a = none) → GS e ts γ (ovr s p sm) D) : GS e ts γ s D := fun F Hf H σ R S X Dc L => by
  obtain ⟨sm, h1, h2, R2⟩ := R.open hp
  exact h sm h1 h2 F Hf H σ R2 S X Dc L
theorem GE.open {p : Addr} {P : (Addr → Option Raw) → Prop} (hp : s p = some (.box P)) (h : ∀ sm, P sm → (∀ a, sm a ≠ none → a = p ∨ s a = none) → GE e te γ (ovr s p sm) Q) : GE e te γ s Q := fun F Hf H σ R S X Qc L => by
  obtain ⟨sm, h1, h2, R2⟩ := R.open hp
  exact h sm h1 h2 F Hf H σ R2 S X Qc L
/-- what comes behind may be told of the boxes closed -/
def Closes (s1 s0 : AS) (p : Addr) (P : (Addr → Option Raw) → Prop) : Prop := ∃ sm : Addr → Option Raw, P sm ∧ sm p ≠ none ∧ (∀ a w, sm a = some w → s1 a = some (.raw w)) ∧ ∀ a c, a ≠ p → s0 a = some c → s1 a = some c ∧ sm a = none
theorem GE.closing {p : Addr} {P : (Addr → Option Raw) → Prop} {Q' : Dat → AS → Prop} (h : GE e te γ s Q') (k : ∀ d s1, Q' d s1 → ∃ s0, Closes s1 s0 p P ∧ Q d (supd s0 p (.box P))) : GE e te γ s Q := fun F Hf H σ R S X Qc L =>
  h F Hf H σ R S X Qc fun v d Hf' H' s1 m R' a q => by
    obtain ⟨s0, ⟨sm, h1, h2, h3, h4⟩, q⟩ := k d s1 q
    exact L v d Hf' H' _ m (R'.close h1 h2 h3 h4) a q
theorem GS.closeIn {s0 : AS} {p : Addr} {P : (Addr → Option Raw) → Prop} (hc : Closes s s0 p P) (h : GS e ts γ (supd s0 p (.box P)) D) : GS e ts γ s D := fun F Hf H σ R S X Dc L => by
  obtain ⟨sm, h1, h2, h3, h4⟩ := hc
  exact h F Hf H σ (R.close h1 h2 h3 h4) S X Dc L
theorem GE.closeIn {s0 : AS} {p : Addr} {P : (Addr → Option Raw) → Prop} (hc : Closes s s0 p P) (h : GE e te γ (supd s0 p (.box P)) Q) : GE e te γ s Q := fun F Hf H σ R S X Dc L => by
  obtain ⟨sm, h1, h2, h3, h4⟩ := hc
  exact h F Hf H σ (R.close h1 h2 h3 h4) S X Dc L
end
end AL
namespace Ls
open PySem PySem.Spec PyProof.Rows L2
/-! ### {.. for ..}, a set of texts and numbers; its length -/
section
variable {X : Cx}
/-- D the new set -/
def tScK (P : Program) (w : World) (wi : TI) (g : TG) (tt : TT) (te : TE) (vs : List Nat) : TE := fun σ H Q => wi σ H fun J H1 => ∀ D, H1 D = none → ∃ W : Nat → Nat → Hp → Prop, (∃ m, W 0 m (upd H1 D (SetK P w D (fun _ => false) 0))) ∧ ∀ i m H, W i m H →
  (J.stop i H ∧ Q (.ref D) H) ∨ (J.go i H ∧ ∃ Nx : Hp → Prop, (∀ H', Nx H' → ∃ m', m' < m ∧ W (i + 1) m' H') ∧ ∀ x H', J.yld i H x H' → g x (wipe σ vs) H' fun σ2 H2 => wipe σ2 vs = wipe σ vs ∧ tt σ2 H2 fun b H3 =>
    if b = true then te σ2 H3 fun y H4 => ∃ (k : Key) (S : Key → Bool) (n : Nat), y = kV k ∧ H4 D = some (SetK P w D S n) ∧ n + 1 < scanBound ∧ Nx (upd H4 D (SetK P w D (fun j => S j || decide (j = k)) (if S k = true then n else n + 1))) else Nx H3)
abbrev setO (w : World) : Obj := { cls := .type "set", data := .set #[] 0 (SetTable.fresh 0 0 !w.params.followText "set-order") }
theorem set_none {P : Program} {w : World} (h : Heap) : Heap.SetOf (mixKind P w) (h.push (setO w)) h.objs.size (fun _ => false) 0 :=
  @Obj.SetObjOf.setOf P w Key _ instBEqOfDecidableEq _ (mixKind P w) _ _ _ _ _ (@PyProof.Rows.setObjOf_fresh P w Key _ instBEqOfDecidableEq _ (mixKind P w) _) (Heap.get?_push_size _ rfl) (by unfold scanBound; omega)
theorem pe_scK {kx tg it : Expr} {fs : List Expr} {sc : Scope} {own : List (Str × Nat)} {po : Pos} {wi : TI} {g : TG} {tt : TT} {tk : TE} (c1 : X.calm = true) (c2 : X.N.Nodup) (a1 : PI X tg it wi) (a2 : BlkOk X.N X.env.scope sc own) (a3 : ∀ s H C cl fp, PG (X.blk s H sc (compEnvC sc cl C X.env) fp) tg g) (a4 : ∀ s H C cl fp, PTs (X.blk s H sc (compEnvC sc cl C X.env) fp) fs tt)
    (a5 : ∀ s H C cl fp, PE (X.blk s H sc (compEnvC sc cl C X.env) fp) kx tk) (a7 : ∀ v, foldedSetIterable it X.env v = pure v := by intro _; rfl) : PE X (.SetComp kx [⟨tg, it, fs, 0⟩] sc po) (tScK X.prog X.w wi g tt tk (own.map (·.2))) where
  run pins s σ H Q I h := by
    rw [PpSet.eval_SetComp]
    have cells : ∀ y ∈ sc.names, y.2 = .free → ∃ c, X.env.cells.lookup y.1 = some c := fun y hy e => (a2.free y hy e).elim (fun k => I.ok.has _ (.inl k)) fun k => I.ok.has _ (.inr k)
    refine wpAny_comprehension_free rfl a7 (closure_ok cells) a2.kind (fun y hy e => by rw [a2.uniq y hy, e]) (thn (a1.run pins s σ H _ I h) fun xv s1 hx => thn hx fun itv s2 ⟨ia, fp, tn, J, H2, ei, I2, T, st2, f2, q⟩ => ?_)
    subst ei
    refine PpSet.newSet_ok (newEnv_comp ?_)
    generalize hD : s2.heap.objs.size = D
    have nD : H2 D = none := I2.hok.fresh (Nat.le_of_eq hD)
    obtain ⟨W, ⟨m0, w0⟩, turn⟩ := q D nD
    generalize e3 : ({ s2 with heap := s2.heap.push (setO X.w) } : Shared) = s3
    have p3 : s3.heap = s2.heap.push (setO X.w) := by rw [← e3]
    have I3 : L2.Inv X pins σ (upd H2 D (SetK X.prog X.w D (fun _ => false) 0)) s3 := by
      rw [← e3]
      refine I2.laid (t' := s2.toks) (fun b o e => Heap.get?_push_of_some _ e) (Nat.le_of_eq hD) ?_
      rw [← hD]
      exact setK_new (set_none s2.heap)
    have f3 : ∀ b ∈ fp, FpOk X pins (upd H2 D (SetK X.prog X.w D (fun _ => false) 0)) b ∧ b < s3.heap.objs.size := fun b hb => by
      obtain ⟨o, eo, _⟩ := T.obj _ _ st2 b hb
      have lt := Heap.lt_size eo
      refine ⟨⟨?_, (f2 b hb).2⟩, by rw [p3, Heap.size_push]; exact Nat.lt_succ_of_lt lt⟩
      rw [upd_ne (by rw [← hD]; exact Nat.ne_of_lt lt)]
      exact (f2 b hb).1
    have st3 : tn 0 s3.heap := T.keep _ _ _ st2 fun b _ o e => by rw [p3]; exact Heap.get?_push_of_some _ e
    have I4 := block_start I3 a2 c2 f3
    generalize hcl : cellsFrom (s3.heap.objs.size + 1) sc.names (cloFrom X.env.cells sc.names []) = cl at I4 ⊢
    have pg := a3 s3 (upd H2 D (SetK X.prog X.w D (fun _ => false) 0)) s3.heap.objs.size cl fp
    have pt := a4 s3 (upd H2 D (SetK X.prog X.w D (fun _ => false) 0)) s3.heap.objs.size cl fp
    have pk := a5 s3 (upd H2 D (SetK X.prog X.w D (fun _ => false) 0)) s3.heap.objs.size cl fp
    show codeAny _ _ (.compStart (.SetComp kx [⟨tg, it, fs, 0⟩] sc po) 0 (.ref ia) (.ref D) (compEnvC sc cl s3.heap.objs.size X.env)) (compPost (model X.prog X.w) X.A X.xe none (EP X pins σ Q) (.ref D) s3.heap.objs.size) { s3 with heap := pushCells (s3.heap.push { cls := .type "dict", data := .dict #[] }) sc.names }
    have nfp : ∀ b ∈ fp, (upd H2 D (SetK X.prog X.w D (fun _ => false) 0)) b = none := fun b hb => (f3 b hb).1.1
    generalize hce : compEnvC sc cl s3.heap.objs.size X.env = ce at I4 pg pt pk ⊢
    have cL : ce.locals = s3.heap.objs.size := by subst hce; rfl
    generalize hH3 : upd H2 D (SetK X.prog X.w D (fun _ => false) 0) = H3 at I3 I4 pg pt pk w0 nfp f3
    generalize e4 : ({ s3 with heap := pushCells (s3.heap.push { cls := .type "dict", data := .dict #[] }) sc.names } : Shared) = s4 at I4 ⊢
    have st4 : tn 0 s4.heap := T.keep _ _ _ st3 fun b _ o e => by rw [← e4]; exact pushCells_keeps _ _ _ _ (Heap.get?_push_of_some _ e)
    have stat : ∀ {σ' : L2.St} {H' : Hp} {s' : Shared}, L2.Inv (X.blk s3 H3 sc ce fp) [] σ' H' s' → (∀ b ∈ fp, H' b = none) → ∀ b ∈ fp, FpOk (X.blk s3 H3 sc ce fp) [] H' b := fun {σ' H' s'} I' hn b hb =>
      ⟨hn b hb, (I'.ok.exf b hb).1, I'.ok.exfs b hb, .inl hb, fun x c e => (I'.ok.exf b hb).2 x c e, fun p hp => absurd (show p ∈ ([] : List (Addr × Obj)) ++ [] from hp) (by simp)⟩
    let St : Nat → Shared → Prop := fun n s' => ∃ i H', L2.Inv (X.blk s3 H3 sc ce fp) [] (wipe σ (own.map (·.2))) H' s' ∧ tn i s'.heap ∧ (∀ b ∈ fp, H' b = none) ∧ W i n H'
    have loop : codeAny (model X.prog X.w) X.A (.compLoop (.SetComp kx [⟨tg, it, fs, 0⟩] sc po) 0 (.ref ia) (.ref D) ce) (compPost (model X.prog X.w) X.A X.xe none (EP X pins σ Q) (.ref D) s3.heap.objs.size) s4 := by
      refine PpSet.compLoopS_any St ?_ m0 ⟨0, H3, I4, st4, nfp, w0⟩
      rintro n s5 ⟨i, H5, I5, st5, n5, w5⟩
      rcases turn i n H5 w5 with ⟨stop, qq⟩ | ⟨go, Nx, hNx, step⟩
      · refine thnF (T.done (X.blk s3 H3 sc ce fp) rfl rfl rfl c1 i [] s5 _ H5 (fun _ _ => False) I5 (stat I5 n5) st5 stop) fun r s6 ⟨hr, I6⟩ => ?_
        subst hr
        have I7 : L2.Inv X pins σ H5 s6 := I3.call' (ch := fp) I6.os I6.base I6.hok I6.bare fun b hb => ⟨(f3 b hb).1.2.2.2.1, (f3 b hb).1.2.1, (f3 b hb).1.2.2.2.2.1, (f3 b hb).1.2.2.2.2.2⟩
        have nC : H5 s3.heap.objs.size = none := by
          have z : H5 ce.locals = none := I6.free
          rwa [cL] at z
        obtain ⟨m, hn, _⟩ := I6.loc
        have hn : s6.heap.Ns ce.locals m := hn
        rw [cL] at hn
        have f := I3.fpOk (Nat.le_refl _) nC
        exact ⟨m, hn, fun h4 b4 => ⟨V.ref D, H5, I7.turned (t' := s6.toks) (fun c o hc e => (b4.2 c hc).trans e) f.1 f.2.1 f.2.2.2.1 f.2.2.2.2.1 f.2.2.2.2.2, rfl, qq⟩⟩
      · refine thnF (T.item (X.blk s3 H3 sc ce fp) rfl rfl rfl c1 i [] s5 _ H5 (fun _ _ => False) I5 (stat I5 n5) st5 go) fun r s6 ⟨u, hr, h6⟩ => ?_
        subst hr
        refine thnF h6 fun _ s7 ⟨y, H7, I7, r7, y7, st7, n7⟩ => ?_
        have I7' := I7.pinned (stat I7 n7) (T.obj _ _ st7)
        refine thnF (pg.run _ s7 _ H7 y u _ I7' r7 (step y H7 y7)) fun _ s8 ⟨σ8, H8, I8, hw8, q8⟩ => thnF (pt.run _ s8 σ8 H8 _ I8 q8) fun b s9 ⟨H9, I9, q9⟩ => ?_
        have fin : ∀ {s' : Shared} {H' : Hp}, L2.Inv (X.blk s3 H3 sc ce fp) ([] ++ pinsAt fp s7.heap) σ8 H' s' → Nx H' → ∃ m, m < n ∧ St m s' := fun {s' H'} I' nx => by
          obtain ⟨m', lt, w'⟩ := hNx H' nx
          have pin : ∀ b ∈ fp, ∀ o, s7.heap.get? b = some o → s'.heap.get? b = some o ∧ H' b = none := fun b hb o e =>
            let z := I'.pin (b, o) (List.mem_append_right _ (List.mem_append_right _ (mem_pinsAt hb e)))
            ⟨z.1, z.2.1⟩
          have hl : (wipe σ (own.map (·.2))).length = σ8.length := by rw [← hw8, wipe_length]
          refine ⟨m', lt, i + 1, H', (I'.unpinned (pins := [])).weak hl (fun j v e => ?_), T.keep _ _ _ st7 fun b hb o e => (pin b hb o e).1, fun b hb => ?_, w'⟩
          · rw [← hw8] at e
            exact (wipe_some e).1
          · obtain ⟨o, e, _⟩ := T.obj _ _ st7 b hb
            exact (pin b hb o e).2
        cases b with
        | false =>
          simp only [Bool.false_eq_true, if_false] at q9 ⊢
          exact fin I9 q9
        | true =>
          simp only [if_true] at q9 ⊢
          refine thnF (pk.run _ s9 σ8 H9 _ I9 q9) fun z s10 ⟨yk, H10, I10, r10, kk, S0, n0, ek, hD10, hz10, nx⟩ => ?_
          refine thnF (mt_saddK (X := X.blk s3 H3 sc ce fp) _ s10 σ8 H10 (.ref D) [yk] (.ref D) [z] (fun _ H' => Nx H') I10 rfl (.cons r10 .nil) ⟨D, kk, S0, n0, rfl, by rw [ek], hD10, hz10, nx⟩) fun _ s11 ⟨_, H11, I11, _, nx2⟩ => fin I11 nx2
    exact PpSet.codeAny_compStart_set loop (T.self X.A 0 _ _ _ st4 loop)
end
/-- len of a set of texts and numbers -/
theorem call_lenSetK {X : Cx} : CallR X (.builtin "len") (fun xs H Q => ∃ (a : Addr) (S : Key → Bool) (n : Nat), xs = [.ref a] ∧ H a = some (SetK X.prog X.w a S n) ∧ n < 2 ^ 40 ∧ Q (.int n) H) := by
  intro pins s σ H xs us Q I r h
  obtain ⟨a, S, n, rfl, hD, hz, q⟩ := h
  obtain ⟨u, rfl, ru⟩ := r.one
  cases ru
  obtain ⟨o, es, ep, t, ho, hex, hd, _, _, _, hf, hn⟩ := setK_get I hD
  refine call_len_set ho hex hd hf (by rw [hn]; omega) ⟨.int n, H, I.tok _, ⟨_, by rw [hn]⟩, q⟩
end Ls
namespace Ls
open PySem PySem.Spec PyProof.Rows L2

/-! ### a list or a tuple: iterated over, unpacked -/
/-- the items of a list or of a tuple -/
def SqU (K : PySem.W.Frag) (H : Hp) (a : Addr) (xs : List V) : Prop := SqL K H a xs ∨ SqT K H a xs
/-- what is known of H1 is known of H2 -/
def Stays (H1 H2 : Hp) : Prop := ∀ b u, H1 b = some u → H2 b = some u
section
variable {K : PySem.W.Frag} {H1 H2 : Hp} {a : Addr} {xs : List V} {o : HO}
theorem Stays.rd (s : Stays H1 H2) (h : Rd H1 a o) : Rd H2 a o := by
  rcases h with h | ⟨ob, h⟩
  · exact .inl (s _ _ h)
  · exact .inr ⟨ob, s _ _ h⟩
theorem Stays.sqL (s : Stays H1 H2) (h : SqL K H1 a xs) : SqL K H2 a xs := h.elim (fun z => .inl (s.rd z)) .inr
theorem Stays.sqT (s : Stays H1 H2) (h : SqT K H1 a xs) : SqT K H2 a xs := h.elim (fun z => .inl (s.rd z)) .inr
theorem Stays.sqU (s : Stays H1 H2) (h : SqU K H1 a xs) : SqU K H2 a xs := h.elim (fun z => .inl (s.sqL z)) fun z => .inr (s.sqT z)
end
/-- for .. in e, e a list or a tuple (so it stood in H0): the walk J over its items is known while G stands, and what keeps H0 keeps G -/
def iSeq (K : PySem.W.Frag) (te : TE) : TI := fun σ H R => te σ H fun x H1 => ∃ a xs H0, x = .ref a ∧ SqU K H0 a xs ∧ Stays H0 H1 ∧ ∀ (J : It) (G : Hp → Prop), Walk J xs.length G (YAt xs) → G H1 → (∀ H2, Stays H0 H2 → G H2) → R J H1
/-- (a, b, ..) = a list or a tuple of that length -/
def gSeq (K : PySem.W.Frag) (n : Nat) (t : TGs) : TG := fun v σ H Q => ∃ a xs, v = .ref a ∧ SqU K H a xs ∧ xs.length = n ∧ t xs σ H Q
section
variable {X : Cx} {tg e : Expr} {te : TE} {pos : Pos}
theorem pi_seq (he : PE X e te) : PI X tg e (iSeq X.K te) := by
  refine ⟨fun pins s σ H R I h => ?_⟩
  refine thn (he.run pins s σ H _ I h) fun v s1 hh => ?_
  obtain ⟨x, H1, I1, r1, a, xs, H0, rfl, h0, st, q⟩ := hh
  cases r1
  have fine : ∀ {H2 : Hp} {J : Inv X pins σ H2 s1}, ∀ b ∈ [s1.heap.objs.size], FpOk X pins H2 b := fun {H2 J} b hb => by
    have eb : b = s1.heap.objs.size := by simpa using hb
    subst eb
    exact J.fpOk (Nat.le_refl _) (J.hok.fresh (Nat.le_refl _))
  rcases h0 with h0 | h0
  · have hq := st.sqL h0
    obtain ⟨its, rv, p, hz⟩ := I1.list hq
    refine wpAny_pyIter_list p.isList ?_
    refine ⟨s1.heap.objs.size, [s1.heap.objs.size], _, _, H1, rfl, I1.kept (t' := s1.toks) fun b o z => Heap.get?_push_of_some _ z, turn_list a _, ⟨_, Heap.get?_push_size _ rfl, rfl, rfl⟩, fine (J := I1), ?_⟩
    exact q _ _ walk_list hq fun H2 st2 => st2.sqL h0
  · have hq := st.sqT h0
    obtain ⟨its, rv, p, hz⟩ := I1.tuple hq
    refine wpAny_pyIter_tuple (show s1.heap.IsTuple a its.toArray from p) ?_
    refine ⟨s1.heap.objs.size, [s1.heap.objs.size], _, _, H1, rfl, I1.kept (t' := s1.toks) fun b o z => Heap.get?_push_of_some _ z, turn_tuple a _, ⟨_, Heap.get?_push_size _ rfl, rfl, rfl⟩, fine (J := I1), ?_⟩
    exact q _ _ walk_tup hq fun H2 st2 => st2.sqT h0
theorem pg_seq {es : List Expr} {k : Nat} {t : TGs} {n : Nat} (hc : X.calm = true) (h : PGs X es t)
    (hn : (assignEach es X.env).length = n := by rfl) (hst : (assignEach es X.env).findIdx? (·.1) = none := by rfl) : PG X (.Tuple es k pos) (gSeq X.K n t) := by
  refine ⟨fun pins s σ H v u Q I r hw => ?_⟩
  obtain ⟨a, xs, e1, hq, hl, hw⟩ := hw
  rcases hq with hq | hq
  · exact (pg_unl hc h hn hst).run pins s σ H v u Q I r ⟨a, xs, e1, hq, hl, hw⟩
  · exact (pg_tup hc h hn hst).run pins s σ H v u Q I r ⟨a, xs, e1, hq, hl, hw⟩
end
/-- s[i], s a list or a tuple -/
def rIxU (K : PySem.W.Frag) : R2 := fun x y H Q => ∃ p xs i v, x = .ref p ∧ y = .int i ∧ SqU K H p xs ∧ atI xs i = some v ∧ Q v H
theorem ixU {X : Cx} (K : PySem.W.Frag) (h : X.K = K := by rfl) : IxR X (rIxU K) := by
  subst h
  intro value slice pins s σ H x y v u Q I rx ry hh hs
  obtain ⟨p, xs, i, z, ex, ey, hq, he, q⟩ := hh
  rcases hq with hq | hq
  · exact ix_list value slice pins s σ H x y v u Q I rx ry ⟨p, xs, i, z, ex, ey, hq, he, q⟩ hs
  · exact ix_tup value slice pins s σ H x y v u Q I rx ry ⟨p, xs, i, z, ex, ey, hq, he, q⟩ hs
/-- isinstance, the written part named -/
theorem isi_of {X : Cx} (K : PySem.W.Frag) (h : X.K = K := by rfl) : CallR X (.builtin "isinstance") (rIsi K) := by subst h; exact call_isi
end Ls
namespace Ls
open PySem PySem.Spec PyProof.Rows L2
/-! ### a walk inside a comprehension, at any depth -/
theorem walk_in {J : It} {n : Nat} {G : Hp → Prop} {Y : Nat → Hp → V → Hp → Prop} {H0 : Hp} {R : Hp → Prop} {Body : (Hp → Prop) → V → Hp → Prop} (w : Walk J n G Y) (φ : Nat → Hp → Prop) (h0 : φ 0 H0) (hg : ∀ i H, i ≤ n → φ i H → G H)
    (step : ∀ i x H H', i < n → φ i H → Y i H x H' → Body (φ (i + 1)) x H') (fin : ∀ H, φ n H → R H) :
    ∃ W : Nat → Nat → Hp → Prop, (∃ m, W 0 m H0) ∧ ∀ i m H, W i m H → (J.stop i H ∧ R H) ∨ (J.go i H ∧ ∃ Nx : Hp → Prop, (∀ H', Nx H' → ∃ m', m' < m ∧ W (i + 1) m' H') ∧ ∀ x H', J.yld i H x H' → Body Nx x H') := by
  refine ⟨fun i m H => i + m = n ∧ φ i H, ⟨n, Nat.zero_add n, h0⟩, ?_⟩
  rintro i m H ⟨e, h⟩
  have hi : i ≤ n := by omega
  have g := hg i H hi h
  by_cases hn : i < n
  · exact .inr ⟨w.goes i H hn g, φ (i + 1), fun H' h' => ⟨m - 1, by omega, by omega, h'⟩, fun x H' y => step i x H H' hn h (w.yields i H x H' hn g y)⟩
  · have e2 : i = n := by omega
    subst e2
    exact .inl ⟨w.stops H g, fin H h⟩
end Ls
namespace Ls
open PySem PySem.Spec PyProof.Rows L2
/-- str(x), x a number or a text -/
def rStrU : List V → Hp → VK → Prop := fun xs H Q => (∃ i : Int, xs = [.int i] ∧ i.natAbs.log2 < 1920 ∧ Q (.str (toString i)) H) ∨ ∃ a : Str, xs = [.str a] ∧ Q (.str a) H
theorem call_strU {X : Cx} : CallR X (.type "str") rStrU := by
  intro pins s σ H xs us Q I r h
  rcases h with h | h
  · exact call_str_int pins s σ H xs us Q I r h
  · exact SkE.call_str_str pins s σ H xs us Q I r h
end Ls
namespace AL
open PySem PySem.Spec PyProof.Rows L2 Ls
/-! ### boxes that are told less of -/
section
variable {K : PySem.W.Frag} {F : AS} {H Hf : Hp} {s : AS} {p : Addr} {P P' : (Addr → Option Raw) → Prop}
theorem Rep.boxUp (R : Rep K F Hf H s) (h : s p = some (.box P)) (k : ∀ sm, P sm → P' sm) : Rep K F Hf H (supd s p (.box P')) := by
  obtain ⟨φ, h1, h2⟩ := R.r0.ex
  have nn : ∀ r, supd s p (.box P') r ≠ none ↔ s r ≠ none := fun r => by
    by_cases e : r = p
    · rw [e, supd_same, h]; simp
    · rw [supd_ne e]
  have jj : ∀ r, r ≠ p → jn (supd s p (.box P')) F r = jn s F r := fun r e => by unfold jn; rw [supd_ne e]
  refine ⟨⟨R.sub, φ, fun a r e => ?_, fun r c e => ?_⟩, fun a c e => ?_⟩
  · obtain ⟨a1, a2, a3⟩ := h1 a r e
    refine ⟨a1, a2, ?_⟩
    by_cases er : r = p
    · rw [er, jn_s supd_same]; simp
    · rw [jj r er]; exact a3
  · by_cases er : r = p
    · subst er
      rw [jn_s supd_same] at e
      cases e
      obtain ⟨k1, sm, k2, k3⟩ := h2 _ _ (jn_s h)
      exact ⟨k1, sm, k sm k2, k3⟩
    · rw [jj r er] at e
      exact h2 r c e
  · by_cases ea : a = p
    · exact R.dis a _ (by rw [ea]; exact h)
    · rw [supd_ne ea] at e
      exact R.dis a c e
end
theorem strm_up {S L : Addr} {n m : Nat} {sm : Addr → Option Raw} (hm : n ≤ m) (h : StrmC S L n sm) : StrmC S L m sm := by
  obtain ⟨ne, ⟨ns, d, c, k, h1, h2, h3, h4, h5, h6⟩, h7⟩ := h
  exact ⟨ne, ⟨ns, d, c, k, h1, h2, h3, h4, by omega, h6⟩, h7⟩
section
variable {e : Ec} {γ γ' : Ga} {s s' : AS} {ta tb tc te tv tl tk td ty : TE} {t u : TT} {tA : TA} {Q : Dat → AS → Prop} {Qb : Bool → AS → Prop} {Qs : List Dat → AS → Prop} {Qi : List Dat → (AS → Prop) → AS → Prop} {D : AD} {ts us : TS} {wi : TI} {g : TG} {S L : Addr} {n m : Nat}
theorem GS.up (hs : s S = some (StrmB S L n)) (hm : n ≤ m) (h : GS e ts γ (supd s S (StrmB S L m)) D) : GS e ts γ s D := fun F Hf H σ R SS X Dc LL => h F Hf H σ (R.boxUp hs fun _ => strm_up hm) SS X Dc LL
theorem GE.up (hs : s S = some (StrmB S L n)) (hm : n ≤ m) (h : GE e te γ (supd s S (StrmB S L m)) Q) : GE e te γ s Q := fun F Hf H σ R SS X Qc LL => h F Hf H σ (R.boxUp hs fun _ => strm_up hm) SS X Qc LL
theorem GT.up (hs : s S = some (StrmB S L n)) (hm : n ≤ m) (h : GT e t γ (supd s S (StrmB S L m)) Qb) : GT e t γ s Qb := fun F Hf H σ R SS X Qc LL => h F Hf H σ (R.boxUp hs fun _ => strm_up hm) SS X Qc LL
/-! ### a written dict -/
def getID (ents : List (Str × Int)) (z : Str) : Dat := match ents.lookup z with | none => .non | some i => .int i
theorem getI_at {K : PySem.W.Frag} {Hf : Hp} {ents : List (Str × Int)} {z : Str} : At K Hf (getI ents z) (getID ents z) := by
  unfold getI getID
  cases ents.lookup z with
  | none => exact .non
  | some i => exact .int i
theorem g_kget {w : World} {ents : List (Str × Int)} {d : Addr} (h : GE e ty γ s fun a s1 => ∃ z, a = .str z ∧ Q (getID ents z) s1) : GE e (tKGet e.K w ents d ty) γ s Q := fun F Hf H σ R SS X Qc LL =>
  h F Hf H σ R SS X _ fun v a Hf1 H1 s1 m1 R1 a1 ⟨z, ea, q⟩ => by
    subst ea
    cases a1
    exact ⟨z, rfl, LL _ _ Hf1 H1 s1 m1 R1 getI_at q⟩
/-! ### methods of texts without arguments -/
theorem g_m0 {to : TE} {r : V → List V → Hp → VK → Prop} {A : Dat → AS → (Dat → AS → Prop) → Prop} (hr : UOk e.K (fun x H Q => r x [] H Q) A) (h : GE e to γ s fun a s1 => (∃ z, a = .str z) ∧ A a s1 Q) : GE e (tM0 r to) γ s Q := fun F Hf H σ R SS X Qc LL =>
  h F Hf H σ R SS X _ fun x a Hf1 H1 s1 m1 R1 a1 ⟨⟨z, ez⟩, q⟩ => by
    subst ez
    cases a1
    exact ⟨⟨z, rfl⟩, hr F Hf1 H1 s1 _ _ Q Qc R1 (.str z) (LL.same m1) q⟩
variable {K : PySem.W.Frag}
theorem mo_isdigit : UOk K (fun x H Q => (fun (x : V) (xs : List V) (H : Hp) (Q : VK) => ∃ a, x = .str a ∧ xs = [] ∧ True ∧ Q (.bl (Txt.isdigit a)) H) x [] H Q) (fun a s Q => ∃ z, a = .str z ∧ Q (.bl (Txt.isdigit z)) s) := by
  rintro F Hf H s x a Q Qc R ax LL ⟨z, rfl, q⟩
  cases ax
  exact ⟨z, rfl, rfl, trivial, LL _ _ Hf H s (Same.refl _) R (.bl _) q⟩
theorem mo_isascii : UOk K (fun x H Q => (fun (x : V) (xs : List V) (H : Hp) (Q : VK) => ∃ a, x = .str a ∧ xs = [] ∧ True ∧ Q (.bl (Txt.isascii a)) H) x [] H Q) (fun a s Q => ∃ z, a = .str z ∧ Q (.bl (Txt.isascii z)) s) := by
  rintro F Hf H s x a Q Qc R ax LL ⟨z, rfl, q⟩
  cases ax
  exact ⟨z, rfl, rfl, trivial, LL _ _ Hf H s (Same.refl _) R (.bl _) q⟩
/-! ### a list or a tuple, walked, unpacked, spread -/
theorem g_wseq (h : GE e tl γ s fun d s1 => ∃ xs, (d = .lst xs ∨ TupD d xs) ∧ Qi xs (fun _ => True) s1) : GI e (iSeq e.K tl) γ s Qi := fun F Hf H σ R SS X Rc k =>
  h F Hf H σ R SS X _ fun v d Hf1 H1 s1 m1 R1 a1 ⟨xs, ht, q⟩ => by
    have key : ∃ a ys, v = .ref a ∧ SqU e.K Hf1 a ys ∧ Ats e.K Hf1 ys xs := by
      rcases ht with rfl | rfl | rfl
      · cases a1 with
        | lst h1 h2 => exact ⟨_, _, rfl, .inl (SqL.of h1), h2⟩
      · cases a1 with
        | tup h1 h2 => exact ⟨_, _, rfl, .inr (SqT.of h1), h2⟩
      · cases a1 with
        | con h1 h2 => exact ⟨_, _, rfl, .inr h1, h2⟩
    obtain ⟨a, ys, rfl, h1, h2⟩ := key
    exact ⟨a, ys, Hf1, rfl, h1, R1.sub, fun J G w g0 gs => k _ xs _ Hf1 H1 s1 m1 R1 (walk_of w h2 fun F Hf H s m R _ => gs H fun b u e => R.sub _ _ (m _ _ e)) q⟩
theorem g_gseq {vs : Option (List Nat)} {n : Nat} {gs : TGs} {d : Dat} {ds : List Dat} {Qg : Ga → AS → Prop} (hd : SeqD s d ds) (hn : ds.length = n) (h : GGs e vs gs ds γ s Qg) : GG e vs (gSeq e.K n gs) d γ s Qg := fun F Hf H σ x R SS X a Qc k => by
  obtain ⟨p, ys, rfl, h1, h2⟩ := hd.sq R a
  exact ⟨p, ys, rfl, h1, h2.len.trans hn, h F Hf H σ ys R SS X h2 Qc k⟩
theorem g_star (h : GE e te γ s fun d s1 => ∃ xs, SeqD s1 d xs ∧ GA e tA γ s1 fun ds s2 => Qs (xs ++ ds) s2) : GA e (StX.tStar e.K te tA) γ s Qs := fun F Hf H σ R SS X Qc LL =>
  h F Hf H σ R SS X _ fun v d Hf1 H1 s1 m1 R1 a1 ⟨xs, hd, q⟩ => by
    obtain ⟨p, ys, rfl, h1, h2⟩ := hd.sq R1 a1
    exact ⟨p, ys, rfl, h1.symm, q F Hf1 H1 σ R1 (SS.same m1) (X.same m1) _ fun us ds Hf2 H2 s2 m2 R2 a2 q2 => LL _ _ Hf2 H2 s2 (m1.trans m2) R2 ((h2.same m2).append a2) q2⟩
/-! ### sets of texts and numbers, by comprehension -/
def addK (a : (Key → Bool) × Nat) (k : Key) : (Key → Bool) × Nat := (fun j => a.1 j || decide (j = k), if a.1 k = true then a.2 else a.2 + 1)
def setOf (ks : List Key) : (Key → Bool) × Nat := ks.foldl addK (fun _ => false, 0)
theorem setOf_snoc {ks : List Key} {k : Key} : setOf (ks ++ [k]) = addK (setOf ks) k := by unfold setOf; rw [List.foldl_append]; rfl
theorem addK_fold (a : (Key → Bool) × Nat) (ks : List Key) (j : Key) : (ks.foldl addK a).1 j = true ↔ (a.1 j = true ∨ j ∈ ks) := by
  induction ks generalizing a with
  | nil => simp
  | cons k r ih =>
    rw [List.foldl_cons, ih]
    unfold addK
    dsimp only
    rw [Bool.or_eq_true, decide_eq_true_eq, List.mem_cons, or_assoc]
theorem setOf_in {ks : List Key} {j : Key} : (setOf ks).1 j = true ↔ j ∈ ks := by
  unfold setOf
  rw [addK_fold]
  simp
theorem setOf_le : ∀ ks : List Key, (setOf ks).2 ≤ ks.length := by
  intro ks
  suffices h : ∀ (a : (Key → Bool) × Nat), (ks.foldl addK a).2 ≤ a.2 + ks.length by simpa [setOf] using h (fun _ => false, 0)
  induction ks with
  | nil => intro a; exact Nat.le_refl _
  | cons k r ih =>
    intro a
    rw [List.foldl_cons, List.length_cons]
    have := ih (addK a k)
    have h2 : (addK a k).2 ≤ a.2 + 1 := by unfold addK; dsimp only; split <;> omega
    omega
theorem snoc_nodup {α : Type} {l : List α} {a : α} : (l ++ [a]).Nodup ↔ l.Nodup ∧ a ∉ l := by
  rw [List.nodup_append]
  constructor
  · rintro ⟨h1, _, h3⟩
    exact ⟨h1, fun h => h3 a h a (List.mem_singleton.mpr rfl) rfl⟩
  · rintro ⟨h1, h2⟩
    exact ⟨h1, by simp, fun x hx y hy e => h2 (by rw [← List.mem_singleton.mp hy, ← e]; exact hx)⟩
theorem setOf_nd (ks : List Key) : (setOf ks).2 = ks.length ↔ ks.Nodup := by
  have key : ∀ n (ks : List Key), ks.length = n → ((setOf ks).2 = ks.length ↔ ks.Nodup) := by
    intro n
    induction n with
    | zero =>
      intro ks h
      have : ks = [] := List.length_eq_zero_iff.mp h
      subst this
      exact ⟨fun _ => List.nodup_nil, fun _ => rfl⟩
    | succ n ih =>
      intro ks h
      obtain ⟨l, a, rfl⟩ : ∃ l a, ks = l ++ [a] := ⟨ks.dropLast, ks.getLast (fun z => by rw [z] at h; cases h), (List.dropLast_concat_getLast _).symm⟩
      have hl : l.length = n := by rw [List.length_append, List.length_singleton] at h; omega
      have le := setOf_le l
      rw [setOf_snoc, snoc_nodup, List.length_append, List.length_singleton, ← ih l hl]
      unfold addK
      dsimp only
      by_cases m : a ∈ l
      · rw [if_pos (setOf_in.mpr m)]
        exact ⟨fun z => by omega, fun z => absurd m z.2⟩
      · rw [if_neg (fun z => m (setOf_in.mp z))]
        exact ⟨fun z => ⟨by omega, m⟩, fun z => by omega⟩
  exact key _ ks rfl
def setD (P : Program) (w : World) (ks : List Key) : Dat := .ob fun H a => H a = some (SetK P w a (setOf ks).1 (setOf ks).2)
def ScW (e : Ec) (vs : List Nat) (g : TG) (t : TT) (tk : TE) (γ : Ga) (Q : List Key → AS → Prop) (s1 : AS) (xs : List Dat) (Gs : AS → Prop) : Prop := ∃ I : Nat → List Key → AS → Prop, xs.length < 4000 ∧ I 0 [] s1 ∧ (∀ i acc s', i ≤ xs.length → I i acc s' → Gs s') ∧ (∀ i d acc s', xs[i]? = some d → I i acc s' → GG e (some vs) g d (wipeG γ vs) s' fun γ2 s2 => GT e t γ2 s2 fun b s3 =>
    (b = true → GE e tk γ2 s3 fun y s4 => ∃ k, y = keyD k ∧ I (i + 1) (acc ++ [k]) s4) ∧ (b = false → I (i + 1) acc s3)) ∧ ∀ acc s', I xs.length acc s' → acc.length ≤ xs.length → Q acc s'
theorem g_scW {P : Program} {w : World} {vs : List Nat} (h : GI e wi γ s fun xs Gs s1 => ScW e vs g t tk γ (fun ks s' => Q (setD P w ks) s') s1 xs Gs) : GE e (tScK P w wi g t tk vs) γ s Q := fun F Hf H σ R SS X Qc LL =>
  h F Hf H σ R SS X _ fun J xs Gs Hf1 H1 s1 m1 R1 dw ⟨I, hz, i0, ig, st, fin⟩ => fun Dp hD => by
    obtain ⟨Gc, Y, wk, wg, wy⟩ := dw.ex
    have hF := (R1.free hD).2.1
    have nt : ∀ (S : Key → Bool) (n : Nat) (xs : List V), SetK P w Dp S n ≠ .tup xs := fun S n xs z => by unfold SetK at z; cases z
    refine walk_in (H0 := upd H1 Dp (SetK P w Dp (fun _ => false) 0)) (R := fun H => Qc (.ref Dp) H) (Body := fun Nx x H' => g x (L2.wipe σ vs) H' fun σ2 H2 => L2.wipe σ2 vs = L2.wipe σ vs ∧ t σ2 H2 fun b H3 =>
        if b = true then tk σ2 H3 fun y H4 => ∃ (k : Key) (S : Key → Bool) (n : Nat), y = kV k ∧ H4 Dp = some (SetK P w Dp S n) ∧ n + 1 < scanBound ∧ Nx (upd H4 Dp (SetK P w Dp (fun j => S j || decide (j = k)) (if S k = true then n else n + 1))) else Nx H3) wk
      (fun i H' => ∃ Hf2 s2 acc, Same Hf1 Hf2 ∧ Rep e.K (supd F Dp (.raw (.hid (SetK P w Dp (setOf acc).1 (setOf acc).2)))) Hf2 H' s2 ∧ acc.length ≤ i ∧ I i acc s2)
      ⟨Hf1, s1, [], Same.refl _, R1.hide hD (w := .hid (SetK P w Dp (setOf []).1 (setOf []).2)) ⟨rfl, nt _ _⟩, Nat.zero_le _, i0⟩ (fun i H' hi ⟨Hf2, s2, acc, m2, R2, _, h2⟩ => wg _ Hf2 H' s2 m2 R2 (ig i acc s2 hi h2)) ?_ ?_
    · rintro i x H2 H3 hi ⟨Hf2, s2, acc, m2, R2, la, h2⟩ y
      obtain ⟨Hf3, d, m3, R3, hd, a3, _⟩ := wy i _ Hf2 H2 s2 x H3 m2 R2 (ig i acc s2 (Nat.le_of_lt hi) h2) hi y
      have m13 := m2.trans m3
      have X3 : LiftX e (supd F Dp (.raw (.hid (SetK P w Dp (setOf acc).1 (setOf acc).2)))) Hf3 := (X.same (m1.trans m13)).hide hF
      have S3 : Slots e.K Hf3 (L2.wipe σ vs) (wipeG γ vs) := (SS.wipe vs).same (m1.trans m13)
      refine st i d acc s2 hd h2 _ Hf3 H3 (L2.wipe σ vs) x R3 S3 X3 a3 _ fun σ4 γ4 Hf4 H4 s4 m4 R4 S4 w4 q4 => ?_
      refine ⟨Eq.trans w4 (wipe_wipe fun i hi => hi), q4 _ Hf4 H4 σ4 R4 S4 (X3.same m4) _ fun b Hf5 H5 s5 m5 R5 ⟨q1, q2⟩ => ?_⟩
      have m15 := (m13.trans m4).trans m5
      cases b with
      | false => exact ⟨Hf5, s5, acc, m15, R5, Nat.le_succ_of_le la, q2 rfl⟩
      | true =>
        refine q1 rfl _ Hf5 H5 σ4 R5 (S4.same m5) (X3.same (m4.trans m5)) _ fun y dy Hf6 H6 s6 m6 R6 a6 ⟨k, ek, q6⟩ => ?_
        subst ek
        obtain ⟨_, ho, h61, rfl, _⟩ := R6.readF
        have le := setOf_le acc
        have R7 := R6.writeF (w' := .hid (SetK P w Dp (setOf (acc ++ [k])).1 (setOf (acc ++ [k])).2)) ⟨rfl, nt _ _⟩
        rw [setOf_snoc] at R7
        refine ⟨k, _, _, keyD_at a6, h61, by unfold scanBound; omega, Hf6, s6, acc ++ [k], m15.trans m6, ?_, ?_, q6⟩
        · rw [setOf_snoc]
          exact R7
        · rw [List.length_append]
          exact Nat.succ_le_succ la
    · rintro H2 ⟨Hf2, s2, acc, m2, R2, la, h2⟩
      obtain ⟨ho, h3, ⟨rfl, _⟩, m3, R3⟩ := R2.showF hF
      refine LL _ _ _ H2 s2 ((m1.trans m2).trans m3) R3 (.ob fun H' s' => ?_) (fin acc s2 h2 la)
      exact s' _ _ upd_same
theorem ScW.map {α : Type} {vs : List Nat} {xs : List Dat} {Gs : AS → Prop} {Qk : List Key → AS → Prop} (l : List α) (enc : α → Dat) (f : α → Key) (ex : xs = l.map enc) (hz : l.length < 4000) (hg : Gs s)
    (hs : ∀ x ∈ l, GG e (some vs) g (enc x) (wipeG γ vs) s fun γ2 s2 => GE e te γ2 s2 fun y s4 => y = keyD (f x) ∧ s4 = s) (q : Qk (l.map f) s) : ScW e vs g tYes te γ Qk s xs Gs := by
  subst ex
  refine ⟨fun i acc s' => acc = (l.take i).map f ∧ s' = s, by rw [List.length_map]; exact hz, ⟨rfl, rfl⟩, fun i acc s' _ h => by rw [h.2]; exact hg, fun i d acc s' hd ⟨ea, es⟩ => ?_, fun acc s' ⟨ea, es⟩ _ => ?_⟩
  · subst ea es
    rw [List.getElem?_map] at hd
    obtain ⟨x, hx, rfl⟩ := Option.map_eq_some_iff.mp hd
    have hm : x ∈ l := List.mem_of_getElem? hx
    have st : (l.take (i + 1)).map f = (l.take i).map f ++ [f x] := by
      rw [List.take_add_one, hx, List.map_append]
      rfl
    intro F Hf H σ v R S X av Qc k
    refine hs x hm F Hf H σ v R S X av Qc fun σ' γ2 Hf' H' s2 m R' S' wk q2 => k σ' γ2 Hf' H' s2 m R' S' wk ?_
    refine g_yes ⟨fun _ => ?_, fun z => nomatch z⟩
    exact GE.imp q2 fun y s4 ⟨ey, e4⟩ => ⟨f x, ey, st.symm, e4⟩
  · subst ea es
    rw [List.length_map, List.take_length]
    exact q
theorem co_lenSetK {P : Program} {w : World} : COk K (fun xs H Q => ∃ (a : Addr) (S : Key → Bool) (n : Nat), xs = [.ref a] ∧ H a = some (SetK P w a S n) ∧ n < 2 ^ 40 ∧ Q (.int n) H) (fun ds s Q => ∃ ks, ds = [setD P w ks] ∧ ks.length < 2 ^ 40 ∧ Q (.int (setOf ks).2) s) := by
  rintro F Hf H s xs ds Q Qc R a LL ⟨ks, rfl, hz, q⟩
  obtain ⟨v, rfl, av⟩ := ats1 a
  cases av with
  | ob h =>
    have le := setOf_le ks
    exact ⟨_, _, _, rfl, h _ (fun b u e => R.sub _ _ e), by omega, LL _ _ Hf H s (Same.refl _) R (.int _) q⟩
theorem co_strU : COk K rStrU (fun ds s Q => (∃ i : Int, ds = [.int i] ∧ i.natAbs.log2 < 1920 ∧ Q (.str (toString i)) s) ∨ ∃ a : Str, ds = [.str a] ∧ Q (.str a) s) := by
  rintro F Hf H s xs ds Q Qc R a LL (⟨i, rfl, h, q⟩ | ⟨z, rfl, q⟩)
  · obtain ⟨v, rfl, av⟩ := ats1 a
    cases av
    exact .inl ⟨i, rfl, h, LL _ _ Hf H s (Same.refl _) R (.str _) q⟩
  · obtain ⟨v, rfl, av⟩ := ats1 a
    cases av
    exact .inr ⟨z, rfl, LL _ _ Hf H s (Same.refl _) R (.str _) q⟩
theorem ro_ixU : ROk K (rIxU K) (fun a b s Q => ∃ xs i d, SeqD s a xs ∧ b = .int i ∧ atI xs i = some d ∧ Q d s) := by
  rintro F Hf H s x y a b Q Qc R ax ay LL ⟨xs, i, d, h, rfl, g, q⟩
  obtain ⟨p, ys, rfl, h1, h2⟩ := h.sq R ax
  cases ay
  obtain ⟨v, g1, g2⟩ := atI_ats h2 g
  exact ⟨p, ys, i, v, rfl, rfl, h1, g1, LL _ _ Hf H s (Same.refl _) R g2 q⟩
/-! ### try -/
def asD (D : AD) (i : Nat) : AD := { nx := fun γ' s' => D.nx (γ'.set i none) s', rt := D.rt, bk := fun γ' s' => D.bk (γ'.set i none) s', ct := fun γ' s' => D.ct (γ'.set i none) s' }
theorem LG.gone {K : PySem.W.Frag} {F : AS} {Hf : Hp} {Qg : Ga → AS → Prop} {Qc : L2.St → Hp → Prop} {i : Nat} (k : LG K F Hf Qg Qc) : LG K F Hf (fun γ' s' => Qg (γ'.set i none) s') (fun σ' H' => Qc (σ'.set i none) H') := fun σ' γ' Hf' H' s' m R SS q => k (σ'.set i none) (γ'.set i none) Hf' H' s' m R (SS.forget i) q
theorem LD.asD {F : AS} {Hf : Hp} {Dc : Ends} (LL : LD K F Hf D Dc) (i : Nat) : LD K F Hf (asD D i) (asEnds Dc i) := ⟨LL.nx.gone, LL.rt, LL.bk.gone, LL.ct.gone⟩
theorem err_at {Hf : Hp} {a : Addr} {d : Option Addr} {cls : Value} {fs : List (Str × Dat)} (h : ErrAt K Hf d fs) : At K Hf (.ref a) (.err a cls d fs) := by
  rcases h with ⟨rfl, rfl⟩ | ⟨dd, l, rfl, h1, h2, h3⟩
  · exact .err0
  · exact .err h1 h2 h3
/-- what the clauses wish -/
def GH (e : Ec) (Wl : Value → List (Str × Dat) → Ga → AS → Prop) : List AsCl → Value → List (Str × Dat) → Ga → AS → AD → Prop
  | [], cls, fs, γ, s, D => Wl cls fs γ s
  | q :: r, cls, fs, γ, s, D => ∃ b, PySem.W.exmOne e.K cls q.c = some b ∧ (b = true → ∀ a d, GS e (q.ts a cls d) (γ.set q.i (some (.err a cls d fs))) s (asD D q.i)) ∧ (b = false → GH e Wl r cls fs γ s D)
theorem gh_ok {Wout : WX} {Wl : Value → List (Str × Dat) → Ga → AS → Prop} {F : AS} {Hf : Hp} (hw : ∀ cls d fs γ s σ Hf' H', Same Hf Hf' → Rep e.K F Hf' H' s → Slots e.K Hf' σ γ → ErrAt e.K Hf' d fs → Wl cls fs γ s → Wout cls d σ H') (X : LiftX e F Hf) {Dc : Ends} (LL : LD e.K F Hf D Dc) : ∀ {l : List AsCl} {cls : Value} {d : Option Addr} {fs : List (Str × Dat)} {γ : Ga} {s : AS} {σ : L2.St} {Hf' H' : Hp}, Same Hf Hf' → Rep e.K F Hf' H' s → Slots e.K Hf' σ γ → ErrAt e.K Hf' d fs → GH e Wl l cls fs γ s D → wAsM e.K Wout Dc l cls d σ H'
  | [], _, _, _, _, _, _, _, _, m, R, SS, er, h => hw _ _ _ _ _ _ _ _ m R SS er h
  | q :: r, cls, d, fs, γ, s, σ, Hf', H', m, R, SS, er, ⟨b, h1, h2, h3⟩ => ⟨b, h1, fun eb a _ => h2 eb a d F Hf' H' _ R (SS.set (err_at er) q.i) (X.same m) _ ((LL.same m).asD q.i), fun eb => gh_ok hw X LL m R SS er (h3 eb)⟩
/-- try with clauses «except X as e» -/
def tTryA (K : PySem.W.Frag) (Wout : WX) (tb : WX → TS) (l : List AsCl) : TS := fun Dc σ H => tb (wAsM K Wout Dc l) Dc σ H
theorem ps_try_asA {X : Cx} {body : List Stmt} {h₀ : ExceptHandler} {hds : List ExceptHandler} {l : List AsCl} {pos : Pos} {tb : WX → TS} {Wout : WX} (hs : X.stack = X.env :: X.outer) (hf : X.env.frame = some X.env.locals) (hN : X.N.Nodup) (tk : Takes X Wout)
    (hb : ∀ (W : WX) (pn : List (Addr × Obj)) (xe : Value → Shared → Prop), Takes (X.tr pn xe) W → PassesOwn (model X.prog X.w) X.A X.env xe → PSs (X.tr pn xe) body (tb W))
    (hh : AsOk X (h₀ :: hds) l) : PS X (.Try body (h₀ :: hds) [] [] pos) (tTryA X.K Wout tb l) := ps_try_asM hs hf hN tk hb hh
theorem asOk_cons {X : Cx} {x n : Str} {c : Value} {i : Nat} {ts : Addr → Value → Option Addr → TS} {st : Stmt} {sts : List Stmt} {p1 p2 : Pos} {hds : List ExceptHandler} {l : List AsCl} (hi : X.N[i]? = some n) (hl : X.env.kindOf n = some .local) (hc : Names X x c)
    (hsu : ∀ (a : Addr) (oe : Obj) (cls : Value) (d : Option Addr) (pn : List (Addr × Obj)), Zc cls d oe → (∃ vs, oe.data = .fields vs) → PSs (X.suite a ((a, oe) :: pn)) (st :: sts) (ts a cls d)) (r : AsOk X hds l) : AsOk X (.ExceptHandler (some (.Name x p1)) (some n) (st :: sts) p2 :: hds) (⟨c, i, ts⟩ :: l) := .cons (q := ⟨c, i, ts⟩) hi hl hc hsu r
theorem g_try {tb : WX → TS} {l : List AsCl} (AxH : Value → List (Str × Dat) → Ga → AS → Prop) (hb : ∀ W, GS ⟨e.K, W, AxH⟩ (tb W) γ s D) (hh : ∀ cls fs γ' s', AxH cls fs γ' s' → GH e e.Ax l cls fs γ' s' D) : GS e (tTryA e.K e.W tb l) γ s D := fun F Hf H σ R SS X Dc LL =>
  hb (wAsM e.K e.W Dc l) F Hf H σ R SS (fun cls d fs γ' s' σ' Hf' H' m R' S' er q => gh_ok X X LL m R' S' er (hh cls fs γ' s' q)) Dc LL
theorem g_try0 {tb : WX → TS} {l : List AsCl} {Wout : WX} (AxH : Value → List (Str × Dat) → Ga → AS → Prop) (hb : ∀ W, GS ⟨e.K, W, AxH⟩ (tb W) γ s D) (hh : ∀ cls fs γ' s', AxH cls fs γ' s' → GH e (fun _ _ _ _ => False) l cls fs γ' s' D) : GS e (tTryA e.K Wout tb l) γ s D := fun F Hf H σ R SS X Dc LL =>
  hb (wAsM e.K Wout Dc l) F Hf H σ R SS (fun cls d fs γ' s' σ' Hf' H' m R' S' er q => gh_ok (fun _ _ _ _ _ _ _ _ _ _ _ _ z => z.elim) X LL m R' S' er (hh cls fs γ' s' q)) Dc LL
/-- e.f of the error that is handled -/
theorem g_xf {a C : Addr} {cls : Value} {d : Option Addr} {f : Str} (h : GE e te γ s fun x s1 => ∃ fs v, x = .err a cls d fs ∧ cls = .ref C ∧ fs.lookup f = some v ∧ Q v s1) : GE e (tXf a cls d C f te) γ s Q := fun F Hf H σ R SS X Qc LL =>
  h F Hf H σ R SS X _ fun x b Hf1 H1 s1 m1 R1 a1 ⟨fs, v, ex, ec, hl, q⟩ => by
    subst ex
    cases a1 with
    | err0 => cases hl
    | err h1 h2 h3 =>
      obtain ⟨u, h4, h5⟩ := lookup_at h2 h3 hl
      exact ⟨rfl, ec, _, _, u, rfl, R1.sub _ _ h1, h4, LL _ _ Hf1 H1 s1 m1 R1 h5 q⟩
end
end AL
namespace Ls
open PySem PySem.Spec PyProof.Rows L2
/-! ### repr of data, or of a pair of a text and an empty dict -/
def DpX (K : PySem.W.Frag) (H : Hp) (v : V) (d : PyData) : Prop := (Dp K H v d ∧ d.hasDict = false) ∨ ∃ (a e : Addr) (z : Str), v = .ref a ∧ H a = some (.tup [.str z, .ref e]) ∧ H e = some (.dK []) ∧ d = .tuple [.str z, .dict []]
section
variable {X : Cx} {pins : List (Addr × Obj)} {σ : L2.St} {H : Hp} {s : Shared}
theorem DpX.reads (I : Inv X pins σ H s) {v : V} {u : Value} {d : PyData} (h : DpX X.K H v d) (r : RelV v u) : ∃ as, Reads s.heap u d as ∧ (d.hasDict = true → sysModules ∉ as) := by
  rcases h with ⟨h, hn⟩ | ⟨a, e, z, rfl, ha, he, rfl⟩
  · obtain ⟨as, rd⟩ := Dp.reads I d v u h r
    exact ⟨as, rd, fun y => by rw [hn] at y; cases y⟩
  · cases r
    obtain ⟨its, rv, ⟨o, ho, hc, n, hd⟩, _⟩ := I.tuple (.inl (.inl ha))
    obtain ⟨_, hsm, vs, kv, oD, es, ep, hoD, hex, hdD, _, pr, _⟩ := dk_of I.hok he
    cases kv
    have e0 : es.toList = [] := by
      cases h : es.toList with
      | nil => rfl
      | cons x y => rw [h] at pr; cases pr
    have hcls : oD.cls = .type "dict" := hex.1
    cases rv with
    | cons r1 rr =>
      cases rr with
      | cons r2 rr =>
        cases rr
        obtain ⟨t, rfl⟩ := r1
        cases r2
        refine ⟨[] ++ ((e :: [] ++ []) ++ []), Reads.tuple ho hc hd (.cons (.str z t) (.cons (Reads.dict hoD hcls hdD ?_ ?_) .nil)), fun _ hm => ?_⟩
        · rw [e0]
          exact .nil
        · rw [e0]
          exact .nil
        · simp at hm
          rw [← hm] at hsm
          simp at hsm
/-- repr(x): the text of x's data -/
def rReprX (K : PySem.W.Frag) : List V → Hp → VK → Prop := fun xs H Q => ∃ (a : Addr) (d : PyData), xs = [.ref a] ∧ DpX K H (.ref a) d ∧ d.showable = true ∧ d.depth ≤ 60 ∧ d.shown.length ≤ sizeLine ∧ Q (.str d.shown) H
theorem call_repr_dataX {k : Nat} (hgd : X.A.guards = some []) (hr : Room k X.A) : CallR X (.builtin "repr") (rReprX X.K) := by
  intro pins s σ H xs us Q I r h
  obtain ⟨a, d, rfl, hd, hs, hdp, hz, q⟩ := h
  obtain ⟨u, rfl, ru⟩ := r.one
  obtain ⟨as, rd, hsm⟩ := DpX.reads I hd ru
  cases ru
  refine repr_of_reads' rd hs hsm hgd (by have := hr.un; omega) (fun b o e => e) (fun h' v tk keep => ?_) hz
  exact ⟨.str d.shown, H, I.kept (t' := tk) keep, ⟨_, rfl⟩, q⟩
end
end Ls
namespace Ls
open PySem PySem.Spec PyProof.Rows L2
/-! ### data whose text is not too long -/
structure DOk (k m : Nat) (d : PyData) : Prop where
  sh : d.showable = true
  nd : d.hasDict = false
  dp : d.depth ≤ k
  ls : d.leavesShort 100 = true
  bk : d.bulk ≤ m
theorem DOk.mono {k m k' m' : Nat} {d : PyData} (h : DOk k m d) (h1 : k ≤ k') (h2 : m ≤ m') : DOk k' m' d := ⟨h.sh, h.nd, Nat.le_trans h.dp h1, h.ls, Nat.le_trans h.bk h2⟩
theorem DOk.none {m : Nat} : DOk 0 m .none := ⟨rfl, rfl, by simp [PyData.depth], rfl, by simp [PyData.bulk]⟩
theorem DOk.bool {m : Nat} (b : Bool) : DOk 0 m (.bool b) := ⟨rfl, rfl, by simp [PyData.depth], rfl, by simp [PyData.bulk]⟩
theorem log_small {i : Int} (h : i.natAbs < 2 ^ 1920) : i.natAbs.log2 < 1920 := by
  by_cases z : i.natAbs = 0
  · rw [z]
    decide
  · exact (Nat.log2_lt z).mpr h
theorem DOk.int {m : Nat} {i : Int} (h : i.natAbs < 10 ^ 60) : DOk 0 m (.int i) :=
  ⟨by
    have e := log_small (Nat.lt_trans h (show 10 ^ 60 < 2 ^ 1920 by decide +kernel))
    simp [PyData.showable, e], by simp [PyData.hasDict], by simp [PyData.depth], by
    have e := int_text_length_le10 (k := 60) (by decide) h
    simp only [PyData.leavesShort, PyData.shown, decide_eq_true_eq]
    refine decide_eq_true ?_
    rw [PySem.ofString_length]
    omega, by simp [PyData.bulk]⟩
/-- a text of at most m signs -/
def okB (m : Nat) (z : Str) : Bool := decide (z.length ≤ m) && z.cps.toList.all fun c => decide (c < 1114112)
theorem okB_len {m : Nat} {z : Str} (h : okB m z = true) : z.length ≤ m := of_decide_eq_true (Bool.and_eq_true_iff.mp h).1
theorem okB_cp {m : Nat} {z : Str} (h : okB m z = true) : ∀ c ∈ z.cps.toList, c < 1114112 := fun c hc => of_decide_eq_true (List.all_eq_true.mp (Bool.and_eq_true_iff.mp h).2 c hc)
theorem okB_ch {m : Nat} {z : Str} (h : okB m z = true) : ∀ c ∈ z.cps.toList, c < 16 ^ 8 := fun c hc => Nat.lt_trans (okB_cp h c hc) (by decide)
theorem okB_strOk {m : Nat} {z : Str} (h : okB m z = true) : PyData.strOk z = true := by
  unfold PyData.strOk
  rw [← Array.all_toList]
  exact List.all_eq_true.mpr fun c hc => decide_eq_true (okB_cp h c hc)
theorem okB_mono {m m' : Nat} {z : Str} (h : okB m z = true) (h1 : m ≤ m') : okB m' z = true := by
  unfold okB at h ⊢
  obtain ⟨a, b⟩ := Bool.and_eq_true_iff.mp h
  rw [b, decide_eq_true (Nat.le_trans (of_decide_eq_true a) h1)]
  rfl
theorem okB_of {m : Nat} {z : Str} (h : z.length ≤ m) (h2 : ∀ c ∈ z.cps.toList, c < 1114112) : okB m z = true := by
  unfold okB
  rw [decide_eq_true h, Bool.true_and, List.all_eq_true]
  exact fun c hc => decide_eq_true (h2 c hc)
theorem okB_append {m n : Nat} {y z : Str} (h : okB m y = true) (h2 : okB n z = true) : okB (m + n) (y ++ z) = true := by
  unfold okB at h h2
  obtain ⟨a, b⟩ := Bool.and_eq_true_iff.mp h
  obtain ⟨c, d⟩ := Bool.and_eq_true_iff.mp h2
  have a := of_decide_eq_true a
  have c := of_decide_eq_true c
  refine okB_of ?_ fun x hx => ?_
  · rw [strLen_append]
    omega
  · have e : (y ++ z).cps.toList = y.cps.toList ++ z.cps.toList := by rw [PySem.Str.cps_append, Array.toList_append]
    rw [e] at hx
    rcases List.mem_append.mp hx with h | h
    · exact of_decide_eq_true (List.all_eq_true.mp b x h)
    · exact of_decide_eq_true (List.all_eq_true.mp d x h)
theorem DOk.str {m : Nat} {z : Str} (h : okB m z = true) : DOk 0 m (.str z) :=
  ⟨rfl, rfl, by simp [PyData.depth], by
    simp only [PyData.leavesShort]
    exact List.all_eq_true.mpr fun c hc => decide_eq_true (okB_ch h c hc), by
    simp only [PyData.bulk]
    exact okB_len h⟩
theorem dok_all {k m : Nat} : ∀ {ds : List PyData}, (∀ d ∈ ds, DOk k m d) → PyData.showableAll ds = true ∧ PyData.hasDictAll ds = false ∧ PyData.depthAll ds ≤ k ∧ PyData.leavesShortAll 100 ds = true ∧ PyData.bulkAll ds ≤ (m + 1) * ds.length
  | [], _ => ⟨by simp [PyData.showableAll], by simp [PyData.hasDictAll], by simp [PyData.depthAll], by simp [PyData.leavesShortAll], by simp [PyData.bulkAll]⟩
  | d :: r, h => by
    obtain ⟨a, b, c, e, f⟩ := dok_all fun x hx => h x (.tail _ hx)
    obtain ⟨a1, b1, c1, e1, f1⟩ := h d (.head _)
    refine ⟨by simp [PyData.showableAll, a, a1], by simp [PyData.hasDictAll, b, b1], ?_, by simp [PyData.leavesShortAll, e, e1], ?_⟩
    · simp only [PyData.depthAll]
      omega
    · simp only [PyData.bulkAll, List.length_cons]
      rw [Nat.mul_add, Nat.mul_one]
      omega
theorem DOk.list {k m : Nat} {ds : List PyData} (h : ∀ d ∈ ds, DOk k m d) : DOk (k + 1) ((m + 1) * ds.length) (.list ds) := by
  obtain ⟨a, b, c, e, f⟩ := dok_all h
  exact ⟨by rw [PyData.showable]; exact a, by rw [PyData.hasDict]; exact b, by rw [PyData.depth]; omega, by rw [PyData.leavesShort]; exact e, by rw [PyData.bulk]; exact f⟩
theorem DOk.tuple {k m : Nat} {ds : List PyData} (h : ∀ d ∈ ds, DOk k m d) : DOk (k + 1) ((m + 1) * ds.length) (.tuple ds) := by
  obtain ⟨a, b, c, e, f⟩ := dok_all h
  exact ⟨by rw [PyData.showable]; exact a, by rw [PyData.hasDict]; exact b, by rw [PyData.depth]; omega, by rw [PyData.leavesShort]; exact e, by rw [PyData.bulk]; exact f⟩
theorem DOk.list' {k m n : Nat} {ds : List PyData} (h : ∀ d ∈ ds, DOk k m d) (hn : ds.length ≤ n) : DOk (k + 1) ((m + 1) * n) (.list ds) := (DOk.list h).mono (Nat.le_refl _) (Nat.mul_le_mul_left _ hn)
theorem DOk.tuple' {k m n : Nat} {ds : List PyData} (h : ∀ d ∈ ds, DOk k m d) (hn : ds.length ≤ n) : DOk (k + 1) ((m + 1) * n) (.tuple ds) := (DOk.tuple h).mono (Nat.le_refl _) (Nat.mul_le_mul_left _ hn)
theorem DOk.fits {k m : Nat} {d : PyData} (h : DOk k m d) (hk : k ≤ 60) (hm : m ≤ 160000) : d.showable = true ∧ d.depth ≤ 60 ∧ d.shown.length ≤ sizeLine := by
  refine ⟨h.sh, Nat.le_trans h.dp hk, ?_⟩
  have e := PyData.shown_le_bulk 100 (by decide) d h.ls
  have e2 := h.bk
  have e3 : (100 + 2) * d.bulk ≤ 102 * 160000 := Nat.mul_le_mul_left _ (by omega)
  exact Nat.le_trans (show _ ≤ 102 * 160000 + 100 by omega) (by decide)
end Ls
namespace Ls
open PySem PySem.Spec PyProof.Rows L2
section
variable {X : Cx}
/-- repr(x): x data at an address, or None -/
def rReprN (K : PySem.W.Frag) : List V → Hp → VK → Prop := fun xs H Q => rReprX K xs H Q ∨ (xs = [.non] ∧ Q (.str "None") H)
theorem call_repr_dataN {k : Nat} (hgd : X.A.guards = some []) (hr : Room k X.A) : CallR X (.builtin "repr") (rReprN X.K) := by
  intro pins s σ H xs us Q I r h
  rcases h with h | ⟨rfl, q⟩
  · exact call_repr_dataX hgd hr pins s σ H xs us Q I r h
  · obtain ⟨u, rfl, ru⟩ := r.one
    cases ru
    refine PySem.P.repr_of_none ?_
    exact ⟨.str "None", H, I.kept (t' := s.toks + 1) (fun b o e => e), ⟨_, rfl⟩, q⟩
end
end Ls
namespace Ls
open PySem PySem.Spec PyProof.Rows L2
/-! ### data with dicts in it, all of it tracked -/
def keyD : Key → PyData
  | .inl i => .int i
  | .inr z => .str z
mutual
inductive DR (H : Hp) : V → PyData → Prop
  | non : DR H .non .none
  | bl (b : Bool) : DR H (.bl b) (.bool b)
  | int (i : Int) : DR H (.int i) (.int i)
  | str (x : Str) : DR H (.str x) (.str x)
  | lst {a : Addr} {xs : List V} {ds : List PyData} : H a = some (.lst xs) → DRs H xs ds → DR H (.ref a) (.list ds)
  | tup {a : Addr} {xs : List V} {ds : List PyData} : H a = some (.tup xs) → DRs H xs ds → DR H (.ref a) (.tuple ds)
  | dct {a : Addr} {kvs : List (Key × V)} {ps : List (PyData × PyData)} : H a = some (.dK kvs) → ps.map (·.1) = kvs.map (fun p => keyD p.1) → DRs H (kvs.map (·.2)) (ps.map (·.2)) → DR H (.ref a) (.dict ps)
inductive DRs (H : Hp) : List V → List PyData → Prop
  | nil : DRs H [] []
  | cons {v : V} {vs : List V} {d : PyData} {ds : List PyData} : DR H v d → DRs H vs ds → DRs H (v :: vs) (d :: ds)
end
mutual
theorem DR.same {H H' : Hp} (s : Same H H') : ∀ {v : V} {d : PyData}, DR H v d → DR H' v d
  | _, _, .non => .non
  | _, _, .bl b => .bl b
  | _, _, .int i => .int i
  | _, _, .str x => .str x
  | _, _, .lst h r => .lst (s _ _ h) (DRs.same s r)
  | _, _, .tup h r => .tup (s _ _ h) (DRs.same s r)
  | _, _, .dct h e r => .dct (s _ _ h) e (DRs.same s r)
theorem DRs.same {H H' : Hp} (s : Same H H') : ∀ {vs : List V} {ds : List PyData}, DRs H vs ds → DRs H' vs ds
  | _, _, .nil => .nil
  | _, _, .cons a r => .cons (DR.same s a) (DRs.same s r)
end
theorem DRs.append {H : Hp} : ∀ {vs us : List V} {ds es : List PyData}, DRs H vs ds → DRs H us es → DRs H (vs ++ us) (ds ++ es)
  | _, _, _, _, .nil, h => h
  | _, _, _, _, .cons a r, h => .cons a (DRs.append r h)
theorem DRs.len {H : Hp} : ∀ {vs : List V} {ds : List PyData}, DRs H vs ds → vs.length = ds.length
  | _, _, .nil => rfl
  | _, _, .cons _ r => by rw [List.length_cons, List.length_cons, DRs.len r]
theorem drs_strs {H : Hp} : ∀ ts : List Str, DRs H (ts.map V.str) (ts.map PyData.str)
  | [] => .nil
  | t :: r => .cons (.str t) (drs_strs r)
section
variable {X : Cx} {pins : List (Addr × Obj)} {σ : L2.St} {H : Hp} {s : Shared}
theorem pairs_vals {P : Program} {w : World} : ∀ {kvs : List (Key × V)} {vs : List (Key × Value)} {l : List DictEntry}, KV kvs vs → Pairs (mixKind P w) l vs → Vals (kvs.map (·.2)) (l.map (·.val))
  | _, _, _, .nil, p => by cases p; exact .nil
  | _, _, _, .cons hh k, p => by
    cases p with
    | cons hp hv p2 => exact .cons (by dsimp only; rw [hv]; exact hh.2) (pairs_vals k p2)
theorem pairs_keys {P : Program} {w : World} {h : Heap} : ∀ {kvs : List (Key × V)} {vs : List (Key × Value)} {l : List DictEntry}, KV kvs vs → Pairs (mixKind P w) l vs → ReadsAll h (l.map (·.key)) (kvs.map fun p => keyD p.1) []
  | _, _, _, .nil, p => by cases p; exact .nil
  | _, _, _, .cons (a := a) hh k, p => by
    cases p with
    | cons hp hv p2 =>
      have r := pairs_keys (h := h) k p2
      obtain ⟨ka, va⟩ := a
      have e := hh.1
      simp only at e
      rcases keyIs_shape hp with ⟨i, t, e1, e2⟩ | ⟨x, t, e1, e2⟩
      · rw [List.map_cons, List.map_cons]
        rw [e2, e, e1]
        exact .cons (as := []) (.int i t) r
      · rw [List.map_cons, List.map_cons]
        rw [e2, e, e1]
        exact .cons (as := []) (.str x t) r
mutual
theorem DR.reads (I : Inv X pins σ H s) : ∀ {v : V} {d : PyData} {u : Value}, DR H v d → RelV v u → ∃ as, Reads s.heap u d as
  | _, _, _, .non, r => by cases r; exact ⟨_, .none⟩
  | _, _, _, .bl b, r => by cases r; exact ⟨_, .bool b⟩
  | _, _, _, .int i, r => by obtain ⟨t, rfl⟩ := r; exact ⟨_, .int i t⟩
  | _, _, _, .str x, r => by obtain ⟨t, rfl⟩ := r; exact ⟨_, .str x t⟩
  | _, _, _, .lst h q, r => by
    cases r
    obtain ⟨its, rv, ⟨o, n, ho, hc, _, hd⟩, _⟩ := I.list (.inl (.inl h))
    obtain ⟨as, ra⟩ := DRs.reads I q rv
    exact ⟨_, Reads.list ho hc hd ra⟩
  | _, _, _, .tup h q, r => by
    cases r
    obtain ⟨its, rv, ⟨o, ho, hc, n, hd⟩, _⟩ := I.tuple (.inl (.inl h))
    obtain ⟨as, ra⟩ := DRs.reads I q rv
    exact ⟨_, Reads.tuple ho hc hd ra⟩
  | _, _, _, .dct h e q, r => by
    cases r
    obtain ⟨_, hsm, vs, kv, oD, es, ep, hoD, hex, hdD, _, pr, _⟩ := dk_of I.hok h
    obtain ⟨bs, rb⟩ := DRs.reads I q (pairs_vals kv pr)
    have ra := pairs_keys (h := s.heap) kv pr
    rw [← e] at ra
    exact ⟨_, Reads.dict hoD hex.1 hdD ra rb⟩
theorem DRs.reads (I : Inv X pins σ H s) : ∀ {vs : List V} {ds : List PyData} {us : List Value}, DRs H vs ds → Vals vs us → ∃ as, ReadsAll s.heap us ds as
  | _, _, _, .nil, r => by cases r; exact ⟨_, .nil⟩
  | _, _, _, .cons h q, r => by
    cases r with
    | cons r1 r2 =>
      obtain ⟨as, ra⟩ := DR.reads I h r1
      obtain ⟨bs, rb⟩ := DRs.reads I q r2
      exact ⟨_, .cons ra rb⟩
end
/-- a text of each key -/
theorem pairs_keysK {P : Program} {w : World} {h : Heap} : ∀ {kvs : List (Key × V)} {vs : List (Key × Value)} {l : List DictEntry}, KV kvs vs → Pairs (mixKind P w) l vs → PyData.showableAll (kvs.map fun p => keyD p.1) = true → (∀ t ∈ PyData.shownAll (kvs.map fun p => keyD p.1), t.length ≤ sizeLine) →
    ReprAllK P w [] h 0 (l.map (·.key)) (PyData.shownAll (kvs.map fun p => keyD p.1))
  | _, _, _, .nil, p, _, _ => by cases p; exact .nil
  | _, _, _, .cons (a := a) hh k, p, hs, hz => by
    cases p with
    | cons hp hv p2 =>
      rw [List.map_cons, PyData.showableAll] at hs
      obtain ⟨hs1, hs2⟩ := Bool.and_eq_true_iff.mp hs
      have r := pairs_keysK (h := h) k p2 hs2 fun t ht => hz t (by rw [List.map_cons, PyData.shownAll]; exact .tail _ ht)
      have hz1 := hz (keyD a.1).shown (by rw [List.map_cons, PyData.shownAll]; exact .head _)
      obtain ⟨ka, va⟩ := a
      have e := hh.1
      simp only at e hs1 hz1
      rw [List.map_cons, List.map_cons, PyData.shownAll]
      rcases keyIs_shape hp with ⟨i, t, e1, e2⟩ | ⟨x, t, e1, e2⟩
      · rw [e2, e, e1]
        rw [e, e1] at hs1
        refine .cons ?_ r
        simp only [keyD, PyData.shown]
        exact ReprK.of_is (ReprIs.int t (by simpa [keyD, PyData.showable] using hs1)) _ _ _
      · rw [e2, e, e1]
        rw [e, e1] at hz1
        refine .cons ?_ r
        simp only [keyD, PyData.shown]
        exact ReprK.of_is (ReprIs.str x t (by simpa only [keyD, PyData.shown] using hz1)) _ _ _
theorem kv_sh {ps : List (PyData × PyData)} (h : PyData.showableKv ps = true) : PyData.showableAll (ps.map (·.1)) = true ∧ PyData.showableAll (ps.map (·.2)) = true := PyData.showableKv_split ps h
mutual
/-- what is shown of such data -/
theorem DR.rk (I : Inv X pins σ H s) : ∀ {v : V} {d : PyData} {u : Value}, DR H v d → RelV v u → d.showable = true → d.shown.length ≤ sizeLine → ∃ bs, ReadAtMost s.heap d.depth bs ∧ ReprK X.prog X.w bs s.heap d.depth u d.shown
  | _, _, _, .non, r, _, _ => by cases r; exact ⟨[], (fun _ z => nomatch z), by simp only [PyData.shown]; exact ReprK.of_is ReprIs.none _ _ _⟩
  | _, _, _, .bl b, r, _, _ => by cases r; exact ⟨[], (fun _ z => nomatch z), by simp only [PyData.shown]; exact ReprK.of_is (ReprIs.bool b) _ _ _⟩
  | _, _, _, .int i, r, hs, _ => by
    obtain ⟨t, rfl⟩ := r
    exact ⟨[], (fun _ z => nomatch z), by simp only [PyData.shown]; exact ReprK.of_is (ReprIs.int t (by simpa [PyData.showable] using hs)) _ _ _⟩
  | _, _, _, .str x, r, _, hz => by
    obtain ⟨t, rfl⟩ := r
    exact ⟨[], (fun _ z => nomatch z), by simp only [PyData.shown]; exact ReprK.of_is (ReprIs.str x t (by simpa only [PyData.shown] using hz)) _ _ _⟩
  | _, _, _, .lst (ds := ds) h q, r, hs, hz => by
    obtain ⟨as, rd⟩ := DR.reads I (.lst h q) r
    cases r
    obtain ⟨its, rv, ⟨o, n, ho, hc, _, hd⟩, _⟩ := I.list (.inl (.inl h))
    have hz2 : (listText (PyData.shownAll ds)).length ≤ sizeLine := by simpa only [PyData.shown] using hz
    obtain ⟨bs, hb, hk⟩ := DRs.rk I q rv (by simpa [PyData.showable] using hs) fun t ht => Nat.le_trans (listText_mem_le ht) hz2
    have hn := not_mem_of_deeper rd (by simp only [PyData.depth]; exact Nat.lt_succ_self _) hb
    refine ⟨_, ReadAtMost.cons rd (by simp only [PyData.depth]; exact Nat.le_succ _) hb, ?_⟩
    simp only [PyData.shown, PyData.depth]
    cases its with
    | nil =>
      cases rv
      cases q
      simp only [PyData.shownAll, listText_nil]
      exact ReprK.listEmpty ho hc hd
    | cons x l => exact ReprK.list ho hc hd hn (by simpa using hk.length_eq) fun i y e => hk.item i y (by simpa using e)
  | _, _, _, .tup (ds := ds) h q, r, hs, hz => by
    obtain ⟨as, rd⟩ := DR.reads I (.tup h q) r
    cases r
    obtain ⟨its, rv, ⟨o, ho, hc, n, hd⟩, _⟩ := I.tuple (.inl (.inl h))
    have hz2 : (tupleText (PyData.shownAll ds)).length ≤ sizeLine := by simpa only [PyData.shown] using hz
    obtain ⟨bs, hb, hk⟩ := DRs.rk I q rv (by simpa [PyData.showable] using hs) fun t ht => Nat.le_trans (tupleText_mem_le ht) hz2
    have hn := not_mem_of_deeper rd (by simp only [PyData.depth]; exact Nat.lt_succ_self _) hb
    refine ⟨_, ReadAtMost.cons rd (by simp only [PyData.depth]; exact Nat.le_succ _) hb, ?_⟩
    simp only [PyData.shown, PyData.depth]
    exact ReprK.tuple ho hc hd hn hk
  | _, _, _, .dct (ps := ps) h e q, r, hs, hz => by
    obtain ⟨as, rd⟩ := DR.reads I (.dct h e q) r
    cases r
    obtain ⟨_, hsm, vs, kv, oD, es, ep, hoD, hex, hdD, _, pr, _⟩ := dk_of I.hok h
    have hz2 : (dictText (PyData.shownKv ps)).length ≤ sizeLine := by simpa only [PyData.shown] using hz
    obtain ⟨s1, s2⟩ := kv_sh (ps := ps) (by simpa [PyData.showable] using hs)
    obtain ⟨b2, hb2, k2⟩ := DRs.rk I q (pairs_vals kv pr) s2 fun t ht => by
      obtain ⟨p, hp, hl⟩ := PyData.shownKv_val_le ps t ht
      exact Nat.le_trans hl (Nat.le_trans (dictText_mem_le hp) hz2)
    have k1 := pairs_keysK (h := s.heap) kv pr (by rw [← e]; exact s1) fun t ht => by
      rw [← e] at ht
      obtain ⟨p, hp, hl⟩ := PyData.shownKv_key_le ps t ht
      exact Nat.le_trans hl (Nat.le_trans (dictText_mem_le hp) hz2)
    rw [← e] at k1
    have hb3 := hb2.mono (PyData.depthAll_vals_le ps)
    have hn := not_mem_of_deeper rd (by simp only [PyData.depth]; exact Nat.lt_succ_self _) hb3
    refine ⟨_, ReadAtMost.cons rd (by simp only [PyData.depth]; exact Nat.le_succ _) hb3, ?_⟩
    simp only [PyData.shown, PyData.depth, PyData.shownKv_eq]
    exact ReprK.dict hoD hex.1 hdD hsm hn (ReprEntriesK.of_two es.toList _ _ (k1.more_le (fun b z => by cases z) (Nat.zero_le _)) (k2.more_le (fun _ z => z) (PyData.depthAll_vals_le ps)))
theorem DRs.rk (I : Inv X pins σ H s) : ∀ {vs : List V} {ds : List PyData} {us : List Value}, DRs H vs ds → Vals vs us → PyData.showableAll ds = true → (∀ t ∈ PyData.shownAll ds, t.length ≤ sizeLine) → ∃ bs, ReadAtMost s.heap (PyData.depthAll ds) bs ∧ ReprAllK X.prog X.w bs s.heap (PyData.depthAll ds) us (PyData.shownAll ds)
  | _, _, _, .nil, r, _, _ => by cases r; exact ⟨[], (fun _ z => nomatch z), by simp only [PyData.shownAll]; exact .nil⟩
  | _, _, _, .cons (d := d) (ds := ds) h q, r, hs, hz => by
    cases r with
    | cons r1 r2 =>
      rw [PyData.showableAll] at hs
      obtain ⟨hs1, hs2⟩ := Bool.and_eq_true_iff.mp hs
      obtain ⟨c1, hc1, g1⟩ := DR.rk I h r1 hs1 (hz _ (by rw [PyData.shownAll]; exact .head _))
      obtain ⟨c2, hc2, g2⟩ := DRs.rk I q r2 hs2 fun t ht => hz t (by rw [PyData.shownAll]; exact .tail _ ht)
      have m1 := hc1.mono (Nat.le_max_left (PyData.depth d) (PyData.depthAll ds))
      have m2 := hc2.mono (Nat.le_max_right (PyData.depth d) (PyData.depthAll ds))
      refine ⟨c1 ++ c2, by simp only [PyData.depthAll]; exact m1.append m2, ?_⟩
      simp only [PyData.depthAll, PyData.shownAll]
      exact .cons ((g1.more fun z hz => List.mem_append_left _ hz).level_le (Nat.le_max_left _ _)) (g2.more_le (fun z hz => List.mem_append_right _ hz) (Nat.le_max_right _ _))
end
/-- repr(x), x a list, a tuple or a dict of such data -/
theorem repr_DR (I : Inv X pins σ H s) {a : Addr} {d : PyData} {Q : Value → Shared → Prop} (h : DR H (.ref a) d) (hs : d.showable = true) (hz : d.shown.length ≤ sizeLine) (hg : X.A.guards = some []) (hu : X.A.units + (d.depth + 1) < cLine)
    (hQ : ∀ h' t k, (∀ b o, s.heap.get? b = some o → h'.get? b = some o) → Q (.str d.shown t) { s with heap := h', toks := k }) : wpAny (model X.prog X.w) X.A (call (.builtin "repr") [.ref a]) Q X.xe s := by
  have un : X.A.units + 1 < cLine := by omega
  obtain ⟨as, rd⟩ := DR.reads I h (show RelV (.ref a) (Value.ref a) from rfl)
  cases h with
  | lst hl q =>
    rename_i xs ds
    obtain ⟨its, rv, ⟨o, n, ho, hc, _, hd⟩, _⟩ := I.list (.inl (.inl hl))
    have hz2 : (listText (PyData.shownAll ds)).length ≤ sizeLine := by simpa only [PyData.shown] using hz
    obtain ⟨bs, hb, hk⟩ := DRs.rk I q rv (by simpa [PyData.showable] using hs) fun t ht => Nat.le_trans (listText_mem_le ht) hz2
    have hn := not_mem_of_deeper rd (by simp only [PyData.depth]; exact Nat.lt_succ_self _) hb
    simp only [PyData.shown] at hQ
    simp only [PyData.depth] at hu
    have ty : s.TypeIs (.ref a) "list" := ⟨o, ho, hc⟩
    cases its with
    | nil =>
      cases rv
      cases q
      simp only [PyData.shownAll, listText_nil] at hQ
      exact call_repr_slot un ty F.slot_list_repr.toG (call_list_repr_empty ty ho hd ⟨_, _, rfl, hQ s.heap _ _ fun _ _ e => e⟩)
    | cons x l =>
      exact call_repr_slot un ty F.slot_list_repr.toG (call_list_reprK ho hc hd hn (by simpa using hk.length_eq) (fun i y e => hk.item i y (by simpa using e)) hg (fun b _ => Clear.nil b) (by show X.A.units + 1 + _ < cLine; omega) (fun _ _ e => e) (fun h' t k kp => ⟨_, _, rfl, hQ h' t k kp⟩) hz2)
  | tup hl q =>
    rename_i xs ds
    obtain ⟨its, rv, ⟨o, ho, hc, n, hd⟩, _⟩ := I.tuple (.inl (.inl hl))
    have hz2 : (tupleText (PyData.shownAll ds)).length ≤ sizeLine := by simpa only [PyData.shown] using hz
    obtain ⟨bs, hb, hk⟩ := DRs.rk I q rv (by simpa [PyData.showable] using hs) fun t ht => Nat.le_trans (tupleText_mem_le ht) hz2
    have hn := not_mem_of_deeper rd (by simp only [PyData.depth]; exact Nat.lt_succ_self _) hb
    simp only [PyData.shown] at hQ
    simp only [PyData.depth] at hu
    have ty : s.TypeIs (.ref a) "tuple" := ⟨o, ho, hc⟩
    exact call_repr_slot un ty F.slot_tuple_repr (call_tuple_reprK ho hc hd hn hk hg (fun b _ => Clear.nil b) (by show X.A.units + 1 + _ < cLine; omega) (fun _ _ e => e) (fun h' t k kp => ⟨_, _, rfl, hQ h' t k kp⟩) hz2)
  | dct hl e q =>
    rename_i kvs ps
    obtain ⟨_, hsm, vs, kv, oD, es, ep, hoD, hex, hdD, _, pr, _⟩ := dk_of I.hok hl
    have hz2 : (dictText (PyData.shownKv ps)).length ≤ sizeLine := by simpa only [PyData.shown] using hz
    obtain ⟨s1, s2⟩ := kv_sh (ps := ps) (by simpa [PyData.showable] using hs)
    obtain ⟨b2, hb2, k2⟩ := DRs.rk I q (pairs_vals kv pr) s2 fun t ht => by
      obtain ⟨p, hp, hl⟩ := PyData.shownKv_val_le ps t ht
      exact Nat.le_trans hl (Nat.le_trans (dictText_mem_le hp) hz2)
    have k1 := pairs_keysK (h := s.heap) kv pr (by rw [← e]; exact s1) fun t ht => by
      rw [← e] at ht
      obtain ⟨p, hp, hl⟩ := PyData.shownKv_key_le ps t ht
      exact Nat.le_trans hl (Nat.le_trans (dictText_mem_le hp) hz2)
    rw [← e] at k1
    have hb3 := hb2.mono (PyData.depthAll_vals_le ps)
    have hn := not_mem_of_deeper rd (by simp only [PyData.depth]; exact Nat.lt_succ_self _) hb3
    simp only [PyData.shown, PyData.shownKv_eq] at hQ
    simp only [PyData.depth] at hu
    have ty : s.TypeIs (.ref a) "dict" := ⟨oD, hoD, hex.1⟩
    exact call_repr_slot un ty F.slot_dict_repr (call_dict_reprK hoD hex.1 hdD hsm hn (ReprEntriesK.of_two es.toList _ _ (k1.more_le (fun b z => by cases z) (Nat.zero_le _)) (k2.more_le (fun _ z => z) (PyData.depthAll_vals_le ps))) hg (fun b _ => Clear.nil b) (by show X.A.units + 1 + _ < cLine; omega) (fun _ _ e => e) (fun h' t k kp => ⟨_, _, rfl, hQ h' t k kp⟩) (by rw [← PyData.shownKv_eq]; exact hz2))
/-- repr(x) of such data -/
def rReprD : List V → Hp → VK → Prop := fun xs H Q => ∃ (a : Addr) (d : PyData), xs = [.ref a] ∧ DR H (.ref a) d ∧ d.showable = true ∧ d.depth ≤ 60 ∧ d.shown.length ≤ sizeLine ∧ Q (.str d.shown) H
theorem call_repr_D {k : Nat} (hgd : X.A.guards = some []) (hr : Room k X.A) : CallR X (.builtin "repr") rReprD := by
  intro pins s σ H xs us Q I r h
  obtain ⟨a, d, rfl, hd, hs, hdp, hz, q⟩ := h
  obtain ⟨u, rfl, ru⟩ := r.one
  cases ru
  refine repr_DR I hd hs hz hgd (by have := hr.un; omega) fun h' v tk keep => ?_
  exact ⟨.str d.shown, H, I.kept (t' := tk) keep, ⟨_, rfl⟩, q⟩
/-- repr(x): x data, or None -/
def rReprE : List V → Hp → VK → Prop := fun xs H Q => rReprD xs H Q ∨ (xs = [.non] ∧ Q (.str "None") H)
theorem call_repr_E {k : Nat} (hgd : X.A.guards = some []) (hr : Room k X.A) : CallR X (.builtin "repr") rReprE := by
  intro pins s σ H xs us Q I r h
  rcases h with h | ⟨rfl, q⟩
  · exact call_repr_D hgd hr pins s σ H xs us Q I r h
  · exact call_repr_dataN hgd hr pins s σ H _ us Q I r (.inr ⟨rfl, q⟩)
end
/-! ### sizes -/
structure DK (k m : Nat) (d : PyData) : Prop where
  sh : d.showable = true
  dp : d.depth ≤ k
  ls : d.leavesShort 100 = true
  bk : d.bulk ≤ m
theorem DOk.dk {k m : Nat} {d : PyData} (h : DOk k m d) : DK k m d := ⟨h.sh, h.dp, h.ls, h.bk⟩
theorem DK.mono {k m k' m' : Nat} {d : PyData} (h : DK k m d) (h1 : k ≤ k') (h2 : m ≤ m') : DK k' m' d := ⟨h.sh, Nat.le_trans h.dp h1, h.ls, Nat.le_trans h.bk h2⟩
theorem dk_all {k m : Nat} : ∀ {ds : List PyData}, (∀ d ∈ ds, DK k m d) → PyData.showableAll ds = true ∧ PyData.depthAll ds ≤ k ∧ PyData.leavesShortAll 100 ds = true ∧ PyData.bulkAll ds ≤ (m + 1) * ds.length
  | [], _ => ⟨by simp [PyData.showableAll], by simp [PyData.depthAll], by simp [PyData.leavesShortAll], by simp [PyData.bulkAll]⟩
  | d :: r, h => by
    obtain ⟨a, c, e, f⟩ := dk_all fun x hx => h x (.tail _ hx)
    obtain ⟨a1, c1, e1, f1⟩ := h d (.head _)
    refine ⟨by simp [PyData.showableAll, a, a1], ?_, by simp [PyData.leavesShortAll, e, e1], ?_⟩
    · simp only [PyData.depthAll]
      omega
    · simp only [PyData.bulkAll, List.length_cons]
      rw [Nat.mul_add, Nat.mul_one]
      omega
theorem DK.list {k m n : Nat} {ds : List PyData} (h : ∀ d ∈ ds, DK k m d) (hn : ds.length ≤ n) : DK (k + 1) ((m + 1) * n) (.list ds) := by
  obtain ⟨a, c, e, f⟩ := dk_all h
  exact ⟨by rw [PyData.showable]; exact a, by rw [PyData.depth]; omega, by rw [PyData.leavesShort]; exact e, by rw [PyData.bulk]; exact Nat.le_trans f (Nat.mul_le_mul_left _ hn)⟩
theorem DK.tuple {k m n : Nat} {ds : List PyData} (h : ∀ d ∈ ds, DK k m d) (hn : ds.length ≤ n) : DK (k + 1) ((m + 1) * n) (.tuple ds) := by
  obtain ⟨a, c, e, f⟩ := dk_all h
  exact ⟨by rw [PyData.showable]; exact a, by rw [PyData.depth]; omega, by rw [PyData.leavesShort]; exact e, by rw [PyData.bulk]; exact Nat.le_trans f (Nat.mul_le_mul_left _ hn)⟩
theorem dk_kvs {k m : Nat} : ∀ {ps : List (PyData × PyData)}, (∀ p ∈ ps, DK k m p.1 ∧ DK k m p.2) → PyData.showableKv ps = true ∧ PyData.depthKv ps ≤ k ∧ PyData.leavesShortKv 100 ps = true ∧ PyData.bulkKv ps ≤ (2 * m + 2) * ps.length
  | [], _ => ⟨by simp [PyData.showableKv], by simp [PyData.depthKv], by simp [PyData.leavesShortKv], by simp [PyData.bulkKv]⟩
  | (x, y) :: r, h => by
    obtain ⟨a, c, e, f⟩ := dk_kvs fun x hx => h x (.tail _ hx)
    obtain ⟨⟨a1, c1, e1, f1⟩, ⟨a2, c2, e2, f2⟩⟩ := h (x, y) (.head _)
    simp only at a1 c1 e1 f1 a2 c2 e2 f2
    refine ⟨by simp [PyData.showableKv, a, a1, a2], ?_, by simp [PyData.leavesShortKv, e, e1, e2], ?_⟩
    · simp only [PyData.depthKv]
      omega
    · simp only [PyData.bulkKv, List.length_cons]
      rw [Nat.mul_add, Nat.mul_one]
      omega
theorem DK.dict {k m n : Nat} {ps : List (PyData × PyData)} (h : ∀ p ∈ ps, DK k m p.1 ∧ DK k m p.2) (hn : ps.length ≤ n) : DK (k + 1) ((2 * m + 2) * n) (.dict ps) := by
  obtain ⟨a, c, e, f⟩ := dk_kvs h
  exact ⟨by rw [PyData.showable]; exact a, by rw [PyData.depth]; omega, by rw [PyData.leavesShort]; exact e, by rw [PyData.bulk]; exact Nat.le_trans f (Nat.mul_le_mul_left _ hn)⟩
theorem DK.fits {k m : Nat} {d : PyData} (h : DK k m d) (hk : k ≤ 60) (hm : m ≤ 160000) : d.showable = true ∧ d.depth ≤ 60 ∧ d.shown.length ≤ sizeLine := by
  refine ⟨h.sh, Nat.le_trans h.dp hk, ?_⟩
  have e := PyData.shown_le_bulk 100 (by decide) d h.ls
  have e2 := h.bk
  have e3 : (100 + 2) * d.bulk ≤ 102 * 160000 := Nat.mul_le_mul_left _ (by omega)
  exact Nat.le_trans (show _ ≤ 102 * 160000 + 100 by omega) (by decide)
end Ls
namespace Ls
open PySem PySem.Spec PyProof.Rows L2
/-! ### a list of any things, compared with an empty list -/
def rNeE (K : PySem.W.Frag) : R2 := fun x y H Q => ∃ (a b : Addr) (xs : List V), x = .ref a ∧ y = .ref b ∧ SqL K H a xs ∧ SqL K H b [] ∧ Q (.bl (!xs.isEmpty)) H
theorem op_neE {X : Cx} (hu : X.A.units + 64 < cLine) : OpR X (compareOp .NotEq) (rNeE X.K) := by
  intro pins s σ H x y v u Q I rx ry h
  obtain ⟨a, b, xs, rfl, rfl, ha, hb, q⟩ := h
  cases rx
  cases ry
  obtain ⟨its, rv, p, hz⟩ := I.list ha
  obtain ⟨its2, rv2, p2, hz2⟩ := I.list hb
  cases rv2
  have hc : X.A.units < cLine := by omega
  cases xs with
  | nil =>
    cases rv
    have h1 := SeqAt.RcNeAt.lists (A := X.A) (s := s) (e := fun _ => true) p.isList p2.isList rfl hc (fun j h1 _ => absurd h1 (by simp))
    exact h1 X.prog X.w X.xe _ ⟨.bl _, H, I, rfl, q⟩
  | cons z r =>
    have hl : its.length ≠ 0 := by rw [← rv.length]; simp
    have h1 := SeqAt.RcNeAt.lists_lengths (A := X.A) (s := s) p.isList p2.isList (by simpa using hl) hc
    exact h1 X.prog X.w X.xe _ ⟨.bl _, H, I, rfl, q⟩
theorem neE {X : Cx} (K : PySem.W.Frag) {k : Nat} (hr : Room k X.A) (h : X.K = K := by rfl) : OpR X (compareOp .NotEq) (rNeE K) := by subst h; exact op_neE hr.units
/-! ### methods of built-in types where the context is bound -/
section
variable {X : Cx} {o e : Expr} {es : List Expr} {to : TE} {t : TA} {name : Str} {apos cpos : Pos} {T id : String} {r : V → List V → Hp → VK → Prop}
theorem pe_bm0K (K : PySem.W.Frag) (pa : PlainAttrs T) (slot : Slot T name id) (hty : typeOf (.builtin id) = pure (.type "method_descriptor")) (hm : MtM X id r) (ho : PE X o to) (hK : X.K = K := by rfl)
    (hbase : attributeBase o name X.env (eval o X.env) = eval o X.env := by rfl) (hline : (apos.endLine == cpos.line) = true := by rfl) : PE X (.Call (.Attribute o name apos) [] [] cpos) (tBM0 K T r to) := by
  subst hK
  exact pe_bm0 pa slot hty hm ho hbase hline
theorem pe_bmK (K : PySem.W.Frag) (pa : PlainAttrs T) (slot : Slot T name id) (hty : typeOf (.builtin id) = pure (.type "method_descriptor")) (hm : MtM X id r) (ho : PE X o to) (ha : PA X (e :: es) t) (hK : X.K = K := by rfl)
    (hbase : attributeBase o name X.env (eval o X.env) = eval o X.env := by rfl)
    (hfew : ((backTo cpos (starEach (e :: es) X.env)).all (fun x => !x.1) && (backToKw cpos (keywordEach [] X.env)).all (fun x => x.1.isSome)
      && decide ((e :: es).length + ([] : List Keyword).length + (if ([] : List Keyword).isEmpty then 0 else 1) < 30)) = true := by rfl)
    (hline : (apos.endLine == cpos.line) = true := by rfl) (hs : starEach (e :: es) X.env = (false, eval e X.env) :: starEach es X.env := by rfl) (hplain : (backTo cpos (starEach es X.env)).any (·.1) = false := by rfl) :
    PE X (.Call (.Attribute o name apos) (e :: es) [] cpos) (tBM K T r to t) := by
  subst hK
  exact pe_bm pa slot hty hm ho ha hbase hfew hline hs hplain
end
end Ls
namespace Ls
open PySem PySem.Spec PyProof.Rows L2
/-! ### a list of any things, == an empty list -/
def rEqE (K : PySem.W.Frag) : R2 := fun x y H Q => ∃ (a b : Addr) (xs : List V), x = .ref a ∧ y = .ref b ∧ SqL K H a xs ∧ SqL K H b [] ∧ Q (.bl xs.isEmpty) H
theorem op_eqE {X : Cx} (hu : X.A.units + 64 < cLine) : OpR X (compareOp .Eq) (rEqE X.K) := by
  intro pins s σ H x y v u Q I rx ry h
  obtain ⟨a, b, xs, rfl, rfl, ha, hb, q⟩ := h
  cases rx
  cases ry
  obtain ⟨its, rv, p, hz⟩ := I.list ha
  obtain ⟨its2, rv2, p2, hz2⟩ := I.list hb
  cases rv2
  have hc : X.A.units < cLine := by omega
  cases xs with
  | nil =>
    cases rv
    have h1 := SeqAt.RcAt.lists (A := X.A) (s := s) (e := fun _ => true) p.isList p2.isList rfl hc (fun j h1 _ => absurd h1 (by simp))
    exact h1 X.prog X.w X.xe _ ⟨.bl _, H, I, rfl, q⟩
  | cons z r =>
    have hl : its.length ≠ 0 := by rw [← rv.length]; simp
    have h1 := SeqAt.RcAt.lists_lengths (A := X.A) (s := s) p.isList p2.isList (by simpa using hl) hc
    exact h1 X.prog X.w X.xe _ ⟨.bl _, H, I, rfl, q⟩
theorem eqE {X : Cx} (K : PySem.W.Frag) {k : Nat} (hr : Room k X.A) (h : X.K = K := by rfl) : OpR X (compareOp .Eq) (rEqE K) := by subst h; exact op_eqE hr.units
/-! ### rules that name K, for places where the context is bound -/
theorem slTK {X : Cx} (K : PySem.W.Frag) (h : X.K = K := by rfl) : SlR X (rSlT K) := by subst h; exact sl_tup
theorem pi_listK {X : Cx} (K : PySem.W.Frag) {tg l : Expr} {tl : TE} (hl : PE X l tl) (h : X.K = K := by rfl) : PI X tg l (iList K tl) := by subst h; exact pi_list hl
end Ls
namespace Ls
open PySem PySem.Spec PyProof.Rows L2
/-! ### a field where the context is bound -/
theorem pe_fldK {X : Cx} (K : PySem.W.Frag) {e : Expr} {f : Str} {pos : Pos} {ta : TE} (he : PE X e ta) (hb : attributeBase e f X.env (eval e X.env) = eval e X.env) (h : X.K = K := by rfl) : PE X (.Attribute e f pos) (tFld K ta f) := by subst h; exact pe_fld he hb
end Ls
namespace AL
open PySem PySem.Spec PyProof.Rows L2 Ls
/-! ### data whose text is told -/
mutual
inductive PyOf : Dat → PyData → Prop
  | non : PyOf .non .none
  | bl (b : Bool) : PyOf (.bl b) (.bool b)
  | int (i : Int) : PyOf (.int i) (.int i)
  | str (z : Str) : PyOf (.str z) (.str z)
  | lst {xs : List Dat} {ps : List PyData} : PyOfs xs ps → PyOf (.lst xs) (.list ps)
  | tup {xs : List Dat} {ps : List PyData} : PyOfs xs ps → PyOf (.tup xs) (.tuple ps)
  | dK {es : List (Key × Dat)} {ps : List (PyData × PyData)} : ps.map (·.1) = es.map (fun p => Ls.keyD p.1) → PyOfs (es.map (·.2)) (ps.map (·.2)) → PyOf (.dK es) (.dict ps)
inductive PyOfs : List Dat → List PyData → Prop
  | nil : PyOfs [] []
  | cons {d : Dat} {ds : List Dat} {p : PyData} {ps : List PyData} : PyOf d p → PyOfs ds ps → PyOfs (d :: ds) (p :: ps)
end
mutual
theorem PyOf.dr {K : PySem.W.Frag} {Hf H : Hp} (s : Same Hf H) : ∀ {d : Dat} {p : PyData}, PyOf d p → ∀ {v : V}, At K Hf v d → DR H v p
  | _, _, .non, v, a => by cases a; exact .non
  | _, _, .bl b, v, a => by cases a; exact .bl b
  | _, _, .int i, v, a => by cases a; exact .int i
  | _, _, .str i, v, a => by cases a; exact .str i
  | _, _, .lst q, v, a => by
    cases a with
    | lst h r => exact .lst (s _ _ h) (PyOfs.dr s q r)
  | _, _, .tup q, v, a => by
    cases a with
    | tup h r => exact .tup (s _ _ h) (PyOfs.dr s q r)
  | _, _, .dK k q, v, a => by
    cases a with
    | dK h e r =>
      refine .dct (s _ _ h) ?_ (PyOfs.dr s q r)
      rw [k]
      have := congrArg (List.map Ls.keyD) e
      rw [List.map_map, List.map_map] at this
      exact this.symm
theorem PyOfs.dr {K : PySem.W.Frag} {Hf H : Hp} (s : Same Hf H) : ∀ {ds : List Dat} {ps : List PyData}, PyOfs ds ps → ∀ {vs : List V}, Ats K Hf vs ds → DRs H vs ps
  | _, _, .nil, vs, a => by cases a; exact .nil
  | _, _, .cons b q, vs, a => by
    cases a with
    | cons a r => exact .cons (PyOf.dr s b a) (PyOfs.dr s q r)
end
def refD : Dat → Bool | .lst _ => true | .tup _ => true | .dK _ => true | .non => true | _ => false
theorem co_repr {K : PySem.W.Frag} : COk K rReprE (fun ds s Q => ∃ d p, ds = [d] ∧ refD d = true ∧ PyOf d p ∧ p.showable = true ∧ p.depth ≤ 60 ∧ p.shown.length ≤ sizeLine ∧ Q (.str p.shown) s) := by
  rintro F Hf H s xs ds Q Qc R a LL ⟨d, p, rfl, hr, hp, h1, h2, h3, q⟩
  obtain ⟨v, rfl, av⟩ := ats1 a
  have dr := PyOf.dr R.sub hp av
  have end_ := LL _ _ Hf H s (Same.refl _) R (.str p.shown) q
  cases av with
  | lst g k => exact .inl ⟨_, p, rfl, dr, h1, h2, h3, end_⟩
  | tup g k => exact .inl ⟨_, p, rfl, dr, h1, h2, h3, end_⟩
  | dK g k _ => exact .inl ⟨_, p, rfl, dr, h1, h2, h3, end_⟩
  | non =>
    cases hp
    exact .inr ⟨rfl, end_⟩
  | _ => cases hr
/-! ### how great it is -/
/-- d's text can be told: k levels, m parts -/
def DkD (k m : Nat) (d : Dat) : Prop := ∃ p, PyOf d p ∧ DK k m p
theorem pyOfs_all {k m : Nat} : ∀ {ds : List Dat}, (∀ d ∈ ds, DkD k m d) → ∃ ps, PyOfs ds ps ∧ ps.length = ds.length ∧ ∀ p ∈ ps, DK k m p
  | [], _ => ⟨[], .nil, rfl, fun p h => nomatch h⟩
  | d :: r, h => by
    obtain ⟨p, h1, h2⟩ := h d (.head _)
    obtain ⟨ps, h3, h4, h5⟩ := pyOfs_all fun x hx => h x (.tail _ hx)
    exact ⟨p :: ps, .cons h1 h3, by rw [List.length_cons, List.length_cons, h4], fun q hq => by
      rcases List.mem_cons.mp hq with rfl | hq
      · exact h2
      · exact h5 q hq⟩
theorem DkD.mono {k m k' m' : Nat} {d : Dat} (h : DkD k m d) (h1 : k ≤ k') (h2 : m ≤ m') : DkD k' m' d := by
  obtain ⟨p, a, b⟩ := h
  exact ⟨p, a, b.mono h1 h2⟩
theorem DkD.lst {k m n : Nat} {ds : List Dat} (h : ∀ d ∈ ds, DkD k m d) (hn : ds.length ≤ n) : DkD (k + 1) ((m + 1) * n) (.lst ds) := by
  obtain ⟨ps, h1, h2, h3⟩ := pyOfs_all h
  exact ⟨_, .lst h1, DK.list h3 (by omega)⟩
theorem DkD.tup {k m n : Nat} {ds : List Dat} (h : ∀ d ∈ ds, DkD k m d) (hn : ds.length ≤ n) : DkD (k + 1) ((m + 1) * n) (.tup ds) := by
  obtain ⟨ps, h1, h2, h3⟩ := pyOfs_all h
  exact ⟨_, .tup h1, DK.tuple h3 (by omega)⟩
theorem keyD_same (k : Key) : (∀ p, PyOf (keyD k) p ↔ p = Ls.keyD k) := by
  intro p
  cases k with
  | inl i => exact ⟨fun h => by cases h; rfl, fun h => by subst h; exact .int i⟩
  | inr z => exact ⟨fun h => by cases h; rfl, fun h => by subst h; exact .str z⟩
theorem DkD.dK {k m n : Nat} {es : List (Key × Dat)} (h : ∀ p ∈ es, DkD k m (keyD p.1) ∧ DkD k m p.2) (hn : es.length ≤ n) : DkD (k + 1) ((2 * m + 2) * n) (.dK es) := by
  have key : ∀ {es : List (Key × Dat)}, (∀ p ∈ es, DkD k m (keyD p.1) ∧ DkD k m p.2) → ∃ ps : List (PyData × PyData), ps.map (·.1) = es.map (fun p => Ls.keyD p.1) ∧ PyOfs (es.map (·.2)) (ps.map (·.2)) ∧ ps.length = es.length ∧ ∀ p ∈ ps, DK k m p.1 ∧ DK k m p.2 := by
    intro es
    induction es with
    | nil => exact fun _ => ⟨[], rfl, .nil, rfl, fun p h => nomatch h⟩
    | cons e r ih =>
      intro h
      obtain ⟨ps, h1, h2, h3, h4⟩ := ih fun x hx => h x (.tail _ hx)
      obtain ⟨⟨p, a1, a2⟩, q, b1, b2⟩ := h e (.head _)
      have := (keyD_same e.1 p).mp a1
      subst this
      refine ⟨(Ls.keyD e.1, q) :: ps, by rw [List.map_cons, List.map_cons, h1], by rw [List.map_cons, List.map_cons]; exact .cons b1 h2, by rw [List.length_cons, List.length_cons, h3], fun p hp => ?_⟩
      rcases List.mem_cons.mp hp with rfl | hp
      · exact ⟨a2, b2⟩
      · exact h4 p hp
  obtain ⟨ps, h1, h2, h3, h4⟩ := key h
  exact ⟨_, .dK h1 h2, DK.dict h4 (by omega)⟩
theorem dkD_of {k m : Nat} {d : Dat} {p : PyData} (h : PyOf d p) (hk : DOk k m p) : DkD k m d := ⟨p, h, hk.dk⟩
/-- two equal things, told alike -/
def aSame : ASp := fun ds s Q _ => ∃ d k m, ds = [d, d] ∧ refD d = true ∧ DkD k m d ∧ k ≤ 60 ∧ m ≤ 160000 ∧ Q (.bl true) s
end AL
namespace AL
open PySem PySem.Spec PyProof.Rows L2 Ls
/-! ### forms of data -/
theorem abc_cs : (("abcdefghijklmnopqrstuvwxyz" : Str)).cps.toList = List.range' 97 26 := by decide +kernel
def letr (c : Nat) : Bool := decide (c ∈ ("abcdefghijklmnopqrstuvwxyz" : Str).cps.toList)
def nmB (z : Str) : Bool := !decide (z = "strike") && (decide (1 ≤ z.length) && (decide (z.length ≤ 8) && z.cps.toList.all letr))
def nameD : Dat → Bool | .str z => nmB z | _ => false
def numD : Dat → Bool | .int i => decide (0 ≤ i) && decide (i < 10 ^ 30) | _ => false
def strQ : Dat → Bool | .str _ => true | _ => false
def boolQ : Dat → Bool | .bl _ => true | _ => false
def intQ : Dat → Bool | .bl _ => true | .int _ => true | _ => false
def rowQ : Dat → Bool | .lst _ => true | .tup _ => true | _ => false
def plainD : Dat → Bool | .non => true | .bl _ => true | .int _ => true | .str _ => true | .lst _ => true | .tup _ => true | .dK _ => true | .dT _ => true | _ => false
def tyN : Dat → String | .non => "NoneType" | .bl _ => "bool" | .int _ => "int" | .str _ => "str" | .lst _ => "list" | .tup _ => "tuple" | .dK _ => "dict" | .dT _ => "dict" | _ => ""
theorem ty_plain {s : AS} {d : Dat} (h : plainD d = true) : TyD s d (tyN d) := by cases d <;> first | exact rfl | exact nomatch h
theorem kit_str : ∀ {d : Dat}, plainD d = true → kitB (tyN d) "str" = some (strQ d)
  | .non, _ => (by decide +kernel : kitB "NoneType" "str" = some false)
  | .bl _, _ => (by decide +kernel : kitB "bool" "str" = some false)
  | .int _, _ => (by decide +kernel : kitB "int" "str" = some false)
  | .str _, _ => (by decide +kernel : kitB "str" "str" = some true)
  | .lst _, _ => (by decide +kernel : kitB "list" "str" = some false)
  | .tup _, _ => (by decide +kernel : kitB "tuple" "str" = some false)
  | .dK _, _ => (by decide +kernel : kitB "dict" "str" = some false)
  | .dT _, _ => (by decide +kernel : kitB "dict" "str" = some false)
  | .ty _, h => nomatch h
  | .ref _, h => nomatch h
  | .con _, h => nomatch h
  | .err _ _ _ _, h => nomatch h
  | .ins _ _, h => nomatch h
  | .ob _, h => nomatch h
theorem kit_int : ∀ {d : Dat}, plainD d = true → kitB (tyN d) "int" = some (intQ d)
  | .non, _ => (by decide +kernel : kitB "NoneType" "int" = some false)
  | .bl _, _ => (by decide +kernel : kitB "bool" "int" = some true)
  | .int _, _ => (by decide +kernel : kitB "int" "int" = some true)
  | .str _, _ => (by decide +kernel : kitB "str" "int" = some false)
  | .lst _, _ => (by decide +kernel : kitB "list" "int" = some false)
  | .tup _, _ => (by decide +kernel : kitB "tuple" "int" = some false)
  | .dK _, _ => (by decide +kernel : kitB "dict" "int" = some false)
  | .dT _, _ => (by decide +kernel : kitB "dict" "int" = some false)
  | .ty _, h => nomatch h
  | .ref _, h => nomatch h
  | .con _, h => nomatch h
  | .err _ _ _ _, h => nomatch h
  | .ins _ _, h => nomatch h
  | .ob _, h => nomatch h
theorem kit_bool : ∀ {d : Dat}, plainD d = true → kitB (tyN d) "bool" = some (boolQ d)
  | .non, _ => (by decide +kernel : kitB "NoneType" "bool" = some false)
  | .bl _, _ => (by decide +kernel : kitB "bool" "bool" = some true)
  | .int _, _ => (by decide +kernel : kitB "int" "bool" = some false)
  | .str _, _ => (by decide +kernel : kitB "str" "bool" = some false)
  | .lst _, _ => (by decide +kernel : kitB "list" "bool" = some false)
  | .tup _, _ => (by decide +kernel : kitB "tuple" "bool" = some false)
  | .dK _, _ => (by decide +kernel : kitB "dict" "bool" = some false)
  | .dT _, _ => (by decide +kernel : kitB "dict" "bool" = some false)
  | .ty _, h => nomatch h
  | .ref _, h => nomatch h
  | .con _, h => nomatch h
  | .err _ _ _ _, h => nomatch h
  | .ins _ _, h => nomatch h
  | .ob _, h => nomatch h
theorem kit_row : ∀ {d : Dat}, plainD d = true → kitL (tyN d) ["list", "tuple"] = some (rowQ d)
  | .non, _ => (by decide +kernel : kitL "NoneType" ["list", "tuple"] = some false)
  | .bl _, _ => (by decide +kernel : kitL "bool" ["list", "tuple"] = some false)
  | .int _, _ => (by decide +kernel : kitL "int" ["list", "tuple"] = some false)
  | .str _, _ => (by decide +kernel : kitL "str" ["list", "tuple"] = some false)
  | .lst _, _ => (by decide +kernel : kitL "list" ["list", "tuple"] = some true)
  | .tup _, _ => (by decide +kernel : kitL "tuple" ["list", "tuple"] = some true)
  | .dK _, _ => (by decide +kernel : kitL "dict" ["list", "tuple"] = some false)
  | .dT _, _ => (by decide +kernel : kitL "dict" ["list", "tuple"] = some false)
  | .ty _, h => nomatch h
  | .ref _, h => nomatch h
  | .con _, h => nomatch h
  | .err _ _ _ _, h => nomatch h
  | .ins _ _, h => nomatch h
  | .ob _, h => nomatch h
theorem strQ_str {d : Dat} (h : strQ d = true) : ∃ z, d = .str z := by cases d <;> first | exact ⟨_, rfl⟩ | exact nomatch h
theorem name_no {d : Dat} (h : strQ d = false) : nameD d = false := by cases d <;> first | rfl | exact nomatch h
def itemsD : Dat → List Dat | .lst xs => xs | .tup xs => xs | _ => []
theorem row_seq {s : AS} {d : Dat} (h : rowQ d = true) : SeqD s d (itemsD d) := by cases d <;> first | exact .inl rfl | exact .inr (.inl rfl) | exact nomatch h
theorem row_ref {d : Dat} (h : rowQ d = true) : d = .lst (itemsD d) ∨ TupD d (itemsD d) := by cases d <;> first | exact .inl rfl | exact .inr (.inl rfl) | exact nomatch h
/-- a text is short -/
def shortD (d : Dat) : Prop := ∀ z, d = .str z → z.length ≤ 1000000
/-! ### deeds as data -/
/-- plain data, n levels deep -/
def Pl : Nat → Dat → Prop
  | 0, d => plainD d = true ∧ shortD d
  | n + 1, d => (plainD d = true ∧ shortD d) ∧ ((itemsD d).length < 4000 ∧ ∀ x ∈ itemsD d, Pl n x)
theorem Pl.p {n : Nat} {d : Dat} (h : Pl n d) : plainD d = true := by cases n <;> first | exact h.1.1 | exact h.1
theorem Pl.s {n : Nat} {d : Dat} (h : Pl n d) : shortD d := by cases n <;> first | exact h.1.2 | exact h.2
def itD (d : Dat) (i : Nat) : Dat := (itemsD d).getD i .non
theorem itD_at {d : Dat} {i : Nat} (h : i < (itemsD d).length) : atI (itemsD d) (i : Nat) = some (itD d i) := by
  unfold itD
  rw [List.getD_eq_getElem?_getD, List.getElem?_eq_getElem h]
  exact atI_nat (List.getElem?_eq_getElem h)
theorem Pl.it {n : Nat} {d : Dat} {i : Nat} (h : Pl (n + 1) d) (hi : i < (itemsD d).length) : Pl n (itD d i) := by
  unfold itD
  rw [List.getD_eq_getElem?_getD, List.getElem?_eq_getElem hi]
  exact h.2.2 _ (List.getElem_mem hi)
def pairD (d : Dat) : Bool := rowQ d && (decide ((itemsD d).length = 2) && (strQ (itD d 0) && numD (itD d 1)))
def strOf : Dat → Str | .str z => z | _ => ""
def ownersD (d : Dat) : Bool := rowQ d && ((itemsD d).all pairD && decide (((itemsD d).map fun x => strOf (itD x 0)).Nodup))
def lengths : List (Str × Int) := [("put", 4), ("turn", 5), ("strike", 3), ("look", 4), ("do", 2), ("stop", 2)]
def deedD (d : Dat) : Bool := rowQ d && (decide (0 < (itemsD d).length) && (strQ (itD d 0) && (decide (lengths.lookup (strOf (itD d 0)) = some ((itemsD d).length : Int)) && (!decide (strOf (itD d 0) = "put") || ownersD (itD d 3)))))
theorem str_of {d : Dat} (h : strQ d = true) : d = .str (strOf d) := by cases d <;> first | rfl | (cases h; done)
theorem pair_str {d : Dat} (h : pairD d = true) : rowQ d = true ∧ (itemsD d).length = 2 ∧ itD d 0 = .str (strOf (itD d 0)) := by
  unfold pairD at h
  simp only [Bool.and_eq_true, decide_eq_true_eq] at h
  exact ⟨h.1, h.2.1, str_of h.2.2.1⟩
theorem deed_len {d : Dat} (e1 : rowQ d = true) (l0 : 0 < (itemsD d).length) (e4 : strQ (itD d 0) = true) : deedD d = (decide (lengths.lookup (strOf (itD d 0)) = some ((itemsD d).length : Int)) && (!decide (strOf (itD d 0) = "put") || ownersD (itD d 3))) := by
  unfold deedD
  rw [e1, decide_eq_true l0, e4, Bool.true_and, Bool.true_and, Bool.true_and]
theorem get_eq {ents : List (Str × Int)} {z : Str} {n : Int} : eqS (getID ents z) (.int n) = some (decide (ents.lookup z = some n)) := by
  unfold getID
  cases ents.lookup z with
  | none => rfl
  | some i =>
    show some (decide (i = n)) = _
    congr 1
    exact decide_eq_decide.mpr ⟨fun h => by rw [h], fun h => Option.some.inj h⟩
theorem put_four : lengths.lookup ("put" : Str) = some 4 := by decide +kernel
theorem not_t {b : Bool} (h : (!b) = true) : b = false := by cases b <;> first | rfl | (cases h; done)
theorem not_f {b : Bool} (h : (!b) = false) : b = true := by cases b <;> first | rfl | (cases h; done)
theorem enum_strs (ls : List Str) : enumD (ls.map Dat.str) = (List.range ls.length).map fun i => .tup [.int (i : Nat), .str (ls.getD i "")] := by
  unfold enumD
  rw [List.length_map]
  refine List.map_congr_left fun i hi => ?_
  have hi := List.mem_range.mp hi
  rw [List.getD_eq_getElem?_getD, List.getElem?_map, List.getElem?_eq_getElem hi, List.getD_eq_getElem?_getD, List.getElem?_eq_getElem hi]
  rfl
theorem rng_at {n i x : Nat} (h : (List.range n)[i]? = some x) : i < n ∧ x = i := by
  obtain ⟨h1, h2⟩ := List.getElem?_eq_some_iff.mp h
  rw [List.length_range] at h1
  rw [List.getElem_range] at h2
  exact ⟨h1, h2.symm⟩
/-! ### slices -/
theorem cut_drop (xs : List Dat) (n : Nat) : cutD xs (some (n : Int)) none = xs.drop n := by
  unfold cutD
  rw [HT.sIx_nat, HT.sIx_none]
  rcases Nat.le_total n xs.length with h | h
  · rw [Nat.min_eq_left h, List.take_of_length_le (by rw [List.length_drop]; exact Nat.le_refl _)]
  · rw [Nat.min_eq_right h, List.drop_eq_nil_of_le (Nat.le_refl _), List.drop_eq_nil_of_le h, List.take_nil]
theorem cut_take (xs : List Dat) (n : Nat) : cutD xs none (some (n : Int)) = xs.take n := by
  unfold cutD
  rw [HT.sIx_nat, HT.sIx_none, List.drop_zero, Nat.sub_zero]
  rcases Nat.le_total n xs.length with h | h
  · rw [Nat.min_eq_left h]
  · rw [Nat.min_eq_right h, List.take_of_length_le (Nat.le_refl _), List.take_of_length_le h]
theorem cut_mid (xs : List Dat) (a b : Nat) : cutD xs (some (a : Int)) (some (b : Int)) = (xs.drop a).take (b - a) := by
  unfold cutD
  rw [HT.sIx_nat, HT.sIx_nat]
  rcases Nat.le_total a xs.length with h | h
  · rw [Nat.min_eq_left h]
    rcases Nat.le_total b xs.length with h2 | h2
    · rw [Nat.min_eq_left h2]
    · rw [Nat.min_eq_right h2, List.take_of_length_le (by rw [List.length_drop]; exact Nat.le_refl _), List.take_of_length_le (by rw [List.length_drop]; omega)]
  · rw [Nat.min_eq_right h, List.drop_eq_nil_of_le (Nat.le_refl _), List.drop_eq_nil_of_le h, List.take_nil, List.take_nil]
end AL
namespace Ls
open PySem PySem.Spec PyProof.Rows L2
open PySem.SeqAt (EqIn)
open PySem.AutoSeq1 (wpAny_loadPart')
open PySem.MeetsSeq PySem.MeetsSeq2 PySem.MeetsSeq3
/-! ### two lists whose items are the same: != says no -/
section
variable {P : Program} {w : World} {p q : Addr} {us vs : Array Value} {m m2 : Nat} {du dv : Option Addr} {su sv : Array (Option Value)}
abbrev liO (d : Option Addr) (us : Array Value) (m : Nat) (s : Array (Option Value)) : Obj := { cls := .type "list", dict := d, data := .seq us m, slots := s }
theorem ne_turns (sz : us.size = vs.size) : ∀ (k i : Nat), us.size - i = k → MeetsIn P w (Builtin.«list.__eq__.loop» ⟨[.ref p, .ref q, rawInt i, rawInt 3], []⟩)
    (fun A R s => s.heap.get? p = some (liO du us m su) ∧ s.heap.get? q = some (liO dv vs m2 sv) ∧ (∀ j (a : j < us.size) (b : j < vs.size), EqIn P w A.in1 s us[j] vs[j] true) ∧ R (.ok (.ret (.bool false))) s)
  | 0, i, hk => by
    rintro A R ⟨hp, g, d, tk, os⟩ ⟨gp, gq, eqs, fin⟩
    wp_walk using wpAny_loadPart' gp, wpAny_loadPart' gq
    rw [show us[((i : Nat) : Int).toNat]? = none by simp; omega, show vs[((i : Nat) : Int).toNat]? = none by simp; omega]
    wp_walk using wpAny_loadPart' gp, wpAny_loadPart' gq
    show R (.ok (.ret (.bool (us.size != vs.size)))) _
    rw [sz, show (vs.size != vs.size) = false by simp]
    exact fin
  | k + 1, i, hk => by
    rintro A R ⟨hp, g, d, tk, os⟩ ⟨gp, gq, eqs, fin⟩
    wp_walk using wpAny_loadPart' gp, wpAny_loadPart' gq
    have a : i < us.size := by omega
    have b : i < vs.size := by omega
    rw [show us[((i : Nat) : Int).toNat]? = some us[i] by simp [a], show vs[((i : Nat) : Int).toNat]? = some vs[i] by simp [b]]
    refine wpAny_bind (eqs i a b _ _ ?_)
    wp_walk
    rw [show ((i : Int) + 1) = ((i + 1 : Nat) : Int) by push_cast; rfl]
    refine ⟨plainId_quiet plain_eq_loop _, codeAny_builtin entry_eq_loop ?_⟩
    rw [Around.under_plainId plain_eq_loop _]
    exact ne_turns sz k (i + 1) (by omega) A R _ ⟨gp, gq, eqs, fin⟩
theorem ne_all (sz : us.size = vs.size) : MeetsIn P w (Builtin.«list.__ne__» ⟨[.ref p, .ref q], []⟩)
    (fun A R s => s.heap.get? p = some (liO du us m su) ∧ s.heap.get? q = some (liO dv vs m2 sv) ∧ (∀ j (a : j < us.size) (b : j < vs.size), EqIn P w A.in1 s us[j] vs[j] true) ∧ R (.ok (.ret (.bool false))) s) := by
  rintro A R ⟨hp, g, d, tk, os⟩ ⟨gp, gq, eqs, fin⟩
  have sub := AutoSeq1.sub_list_list
  have nz : ¬ (us.size != vs.size) = true := by simp [sz]
  wp_walk using wpAny_loadPart' gp, wpAny_loadPart' gq
  refine ⟨plainId_quiet plain_eq_loop _, codeAny_builtin entry_eq_loop ?_⟩
  rw [Around.under_plainId plain_eq_loop _]
  exact ne_turns sz _ 0 rfl A R _ ⟨gp, gq, eqs, fin⟩
theorem ne_lists {A : Around} {E : Value → Shared → Prop} {s : Shared} {Q : Value → Shared → Prop} (hp : s.heap.IsList p us) (hq : s.heap.IsList q vs) (sz : us.size = vs.size) (hu : A.units < cLine)
    (eqs : ∀ j (a : j < us.size) (b : j < vs.size), EqIn P w A.in1 s us[j] vs[j] true) (fin : Q (.bool false) s) : wpAny (model P w) A (compareOp .NotEq (.ref p) (.ref q)) Q E s := by
  obtain ⟨⟨c, d, dt, sl⟩, ho, hc, n, hd⟩ := id hp
  obtain ⟨⟨c2, d2, dt2, sl2⟩, ho2, hc2, n2, hd2⟩ := id hq
  dsimp only at hc hd hc2 hd2
  subst hc hd hc2 hd2
  exact wpAny_richCompare_same_room (T := "list") (op := .NotEq) ⟨_, ho, rfl⟩ ⟨_, ho2, rfl⟩ F.slot_list_ne
    (call_meetsIn F.slot_list_ne ⟨_, ho, rfl⟩ F.entry_list_ne (F.args_list_ne_2 _ _) (ne_all sz) ⟨ho, ho2, eqs, (show Value.bool false ≠ Value.notImplemented ∧ Q (.bool false) s from ⟨(fun z => nomatch z), fin⟩)⟩) hu
end
/-! ### things that are the same all the way down -/
inductive Sm (H : Hp) : Nat → V → V → Prop
  | flat {n : Nat} {x : V} : flatV x = true → Sm H n x x
  | same {n : Nat} {a : Addr} : Sm H n (.ref a) (.ref a)
  | lst {n : Nat} {a b : Addr} {xs ys : List V} : H a = some (.lst xs) → H b = some (.lst ys) → xs.length = ys.length → (∀ (i : Nat) (x y : V), xs[i]? = some x → ys[i]? = some y → Sm H n x y) → Sm H (n + 1) (.ref a) (.ref b)
  | tup {n : Nat} {a b : Addr} {xs ys : List V} : H a = some (.tup xs) → H b = some (.tup ys) → xs.length = ys.length → (∀ (i : Nat) (x y : V), xs[i]? = some x → ys[i]? = some y → Sm H n x y) → Sm H (n + 1) (.ref a) (.ref b)
  | dK {n : Nat} {a b : Addr} {ks ls : List (Key × V)} (f : Key → V) : H a = some (.dK ks) → H b = some (.dK ls) → ks.length = ls.length → (∀ k v, (k, v) ∈ ks → valV ls k = some (f k)) → (∀ k v, (k, v) ∈ ks → Sm H n v (f k)) → Sm H (n + 1) (.ref a) (.ref b)
theorem eqV_self {x : V} (h : flatV x = true) : eqV x x = true := by
  cases x <;> first | rfl | (cases h; done) | (simp [eqV])
theorem kv_get {ks : List (Key × V)} {va : List (Key × Value)} (r : KV ks va) {k : Key} {u : Value} (h : (k, u) ∈ va) : ∃ v, (k, v) ∈ ks ∧ RelV v u := by
  unfold KV at r
  induction r with
  | nil => cases h
  | @cons p q ps qs hh t ih =>
    rcases List.mem_cons.mp h with e | h
    · obtain ⟨h1, h2⟩ := hh
      rw [← e] at h1 h2
      exact ⟨p.2, by rw [← show p.1 = k from h1]; exact .head _, h2⟩
    · obtain ⟨v, h1, h2⟩ := ih h
      exact ⟨v, .tail _ h1, h2⟩
section
variable {X : Cx} {pins : List (Addr × Obj)} {σ : L2.St} {H : Hp} {s : Shared}
abbrev Tr (X : Cx) (s : Shared) (n : Nat) (x y : V) : Prop := ∀ {u v : Value}, RelV x u → RelV y v → PySem.W.EqTree X.prog X.w s n u v true
theorem seq_trees {n : Nat} {xs ys : List V} {it1 it2 : List Value} (r1 : Vals xs it1) (r2 : Vals ys it2) (ih : ∀ (i : Nat) (x y : V), xs[i]? = some x → ys[i]? = some y → Tr X s n x y) (j : Nat) (h1 : j < it1.toArray.size) (h2 : j < it2.toArray.size) : PySem.W.EqTree X.prog X.w s n it1.toArray[j] it2.toArray[j] true := by
  have j1 : j < it1.length := by simpa using h1
  have j2 : j < it2.length := by simpa using h2
  have l1 := r1.length
  have l2 := r2.length
  have e1 : xs[j]? = some xs[j] := List.getElem?_eq_getElem (by omega)
  have e2 : ys[j]? = some ys[j] := List.getElem?_eq_getElem (by omega)
  obtain ⟨u1, g1, g2⟩ := r1.get e1
  obtain ⟨u2, g3, g4⟩ := r2.get e2
  have k1 : it1.toArray[j] = u1 := by
    rw [List.getElem?_eq_getElem j1] at g1
    simpa using Option.some.inj g1
  have k2 : it2.toArray[j] = u2 := by
    rw [List.getElem?_eq_getElem j2] at g3
    simpa using Option.some.inj g3
  rw [k1, k2]
  exact ih j _ _ e1 e2 g2 g4
theorem dict_trees (I : Inv X pins σ H s) {n : Nat} {a b : Addr} {ks ls : List (Key × V)} {f : Key → V} {va vb : List (Key × Value)} (ra : KV ks va) (rb : KV ls vb) (hl : ks.length = ls.length) (hv : ∀ k v, (k, v) ∈ ks → valV ls k = some (f k)) (ih : ∀ k v, (k, v) ∈ ks → Tr X s n v (f k)) :
    (∀ k v y, (k, v) ∈ va → valueAt vb k = some y → PySem.W.EqTree X.prog X.w s n v y ((fun _ => true) k)) ∧ (va.length == vb.length && va.all fun p => (valueAt vb p.1).isSome && (fun _ => true) p.1) = true := by
  have hit : ∀ k u, (k, u) ∈ va → ∃ v y, (k, v) ∈ ks ∧ RelV v u ∧ valueAt vb k = some y ∧ RelV (f k) y := fun k u hm => by
    obtain ⟨v, h1, h2⟩ := kv_get ra hm
    have := rb.val k
    rw [hv k v h1] at this
    obtain ⟨y, h3, h4⟩ := this.some_of
    exact ⟨v, y, h1, h2, h3, h4⟩
  refine ⟨fun k u y hm hy => ?_, ?_⟩
  · obtain ⟨v, y2, h1, h2, h3, h4⟩ := hit k u hm
    rw [h3] at hy
    cases hy
    exact ih k v h1 h2 h4
  · have l1 := ra.length
    have l2 := rb.length
    rw [Bool.and_eq_true]
    refine ⟨by simp; omega, List.all_eq_true.mpr fun p hp => ?_⟩
    obtain ⟨k, u⟩ := p
    obtain ⟨v, y2, h1, h2, h3, h4⟩ := hit k u hp
    dsimp only
    rw [h3]
    rfl
theorem Sm.tree (I : Inv X pins σ H s) {n : Nat} {x y : V} (h : Sm H n x y) : Tr X s n x y := by
  induction h with
  | @flat n x hf =>
    intro u v ru rv
    refine .leaf fun A _ => ?_
    have := eqAt_V (A := A) (s := s) ru rv hf hf
    rw [eqV_self hf] at this
    exact this
  | same =>
    intro u v ru rv
    cases ru
    cases rv
    exact .same
  | @lst n a b xs ys ha hb hl _ ih =>
    intro u v ru rv
    cases ru
    cases rv
    by_cases z : a = b
    · subst z
      exact .same
    · obtain ⟨it1, r1, p1, _⟩ := I.list (SqL.of (K := X.K) ha)
      obtain ⟨it2, r2, p2, _⟩ := I.list (SqL.of (K := X.K) hb)
      have l1 := r1.length
      have l2 := r2.length
      have t : PySem.W.EqTree X.prog X.w s (n + 1) (.ref a) (.ref b) ((List.range it1.toArray.size).all fun _ => true) := .lists z p1.isList p2.isList (by simp; omega) (seq_trees r1 r2 ih)
      have e : ((List.range it1.toArray.size).all fun _ => true) = true := by simp
      rw [e] at t
      exact t
  | @tup n a b xs ys ha hb hl _ ih =>
    intro u v ru rv
    cases ru
    cases rv
    by_cases z : a = b
    · subst z
      exact .same
    · obtain ⟨it1, r1, p1, _⟩ := I.tuple (SqT.of (K := X.K) ha)
      obtain ⟨it2, r2, p2, _⟩ := I.tuple (SqT.of (K := X.K) hb)
      have l1 := r1.length
      have l2 := r2.length
      have t : PySem.W.EqTree X.prog X.w s (n + 1) (.ref a) (.ref b) ((List.range (min it1.toArray.size it2.toArray.size)).all (fun _ => true) && it1.toArray.size == it2.toArray.size) := .tuples z p1 p2 (seq_trees r1 r2 ih)
      have e : ((List.range (min it1.toArray.size it2.toArray.size)).all (fun _ => true) && it1.toArray.size == it2.toArray.size) = true := by
        simp
        omega
      rw [e] at t
      exact t
  | @dK n a b ks ls f ha hb hl hv _ ih =>
    intro u v ru rv
    cases ru
    cases rv
    by_cases z : a = b
    · subst z
      exact .same
    · obtain ⟨_, ya, va, ra, da⟩ := dk_of I.hok ha
      obtain ⟨_, yb, vb, rb, db⟩ := dk_of I.hok hb
      obtain ⟨k1, k2⟩ := dict_trees (a := a) (b := b) I ra rb hl hv ih
      have t : PySem.W.EqTree X.prog X.w s (n + 1) (.ref a) (.ref b) (va.length == vb.length && va.all fun p => (valueAt vb p.1).isSome && (fun _ => true) p.1) := .dicts (knd := mixKind X.prog X.w) (e := fun _ => true) z ya yb da db k1
      rw [k2] at t
      exact t
/-- the same, no scalars -/
inductive SmT (H : Hp) (n : Nat) : V → V → Prop
  | lst {a b : Addr} {xs ys : List V} : H a = some (.lst xs) → H b = some (.lst ys) → xs.length = ys.length → (∀ (i : Nat) (x y : V), xs[i]? = some x → ys[i]? = some y → Sm H n x y) → SmT H n (.ref a) (.ref b)
  | tup {a b : Addr} {xs ys : List V} : H a = some (.tup xs) → H b = some (.tup ys) → xs.length = ys.length → (∀ (i : Nat) (x y : V), xs[i]? = some x → ys[i]? = some y → Sm H n x y) → SmT H n (.ref a) (.ref b)
  | dK {a b : Addr} {ks ls : List (Key × V)} (f : Key → V) : H a = some (.dK ks) → H b = some (.dK ls) → ks.length = ls.length → (∀ k v, (k, v) ∈ ks → valV ls k = some (f k)) → (∀ k v, (k, v) ∈ ks → Sm H n v (f k)) → SmT H n (.ref a) (.ref b)
/-- == of two lists, tuples, dicts that are the same -/
def rEqSm : R2 := fun x y H Q => SmT H 39 x y ∧ Q (.bl true) H
theorem op_eqSm {k : Nat} (hr : Room k X.A) : OpR X (compareOp .Eq) rEqSm := by
  rintro pins s σ H x y v u Q I rx ry ⟨h, q⟩
  have hu : X.A.units + 64 < cLine := hr.units
  have fin : ∀ b : Bool, b = true → (∃ v H', Inv X pins σ H' s ∧ RelV v (.bool b) ∧ Q v H') := fun b e => ⟨.bl b, H, I, rfl, by rw [e]; exact q⟩
  cases h with
  | @lst _ _ xs ys ha hb hl hs =>
    cases rx
    cases ry
    obtain ⟨it1, r1, p1, _⟩ := I.list (SqL.of (K := X.K) ha)
    obtain ⟨it2, r2, p2, _⟩ := I.list (SqL.of (K := X.K) hb)
    have l1 := r1.length
    have l2 := r2.length
    exact PySem.W.eq_listsT p1.isList p2.isList (by simp; omega) (seq_trees r1 r2 fun i x y e1 e2 => (hs i x y e1 e2).tree I) (by omega) (fin _ (by simp))
  | @tup _ _ xs ys ha hb hl hs =>
    cases rx
    cases ry
    obtain ⟨it1, r1, p1, _⟩ := I.tuple (SqT.of (K := X.K) ha)
    obtain ⟨it2, r2, p2, _⟩ := I.tuple (SqT.of (K := X.K) hb)
    have l1 := r1.length
    have l2 := r2.length
    exact PySem.W.eq_tuplesT p1 p2 (seq_trees r1 r2 fun i x y e1 e2 => (hs i x y e1 e2).tree I) (by omega) (fin _ (by simp; omega))
  | @dK a c ks ls f ha hb hl hv hs =>
    cases rx
    cases ry
    obtain ⟨_, ya, va, ra, da⟩ := dk_of I.hok ha
    obtain ⟨_, yb, vb, rb, db⟩ := dk_of I.hok hb
    obtain ⟨k1, k2⟩ := dict_trees (a := a) (b := c) I ra rb hl hv fun k v hm => (hs k v hm).tree I
    exact PySem.W.eq_dictsT ya yb da db k1 (by omega) (fin _ k2)
/-- != of two lists that are the same -/
def rNeSm : R2 := fun x y H Q => (∃ a xs, x = .ref a ∧ H a = some (.lst xs)) ∧ SmT H 39 x y ∧ Q (.bl false) H
theorem op_neSm {k : Nat} (hr : Room k X.A) : OpR X (compareOp .NotEq) rNeSm := by
  rintro pins s σ H x y v u Q I rx ry ⟨⟨a0, zs, e0, hz⟩, h, q⟩
  have hu : X.A.units + 64 < cLine := hr.units
  have fin : ∀ b : Bool, b = false → (∃ v H', Inv X pins σ H' s ∧ RelV v (.bool b) ∧ Q v H') := fun b e => ⟨.bl b, H, I, rfl, by rw [e]; exact q⟩
  cases h with
  | @lst _ _ xs ys ha hb hl hs =>
    cases rx
    cases ry
    obtain ⟨it1, r1, p1, _⟩ := I.list (SqL.of (K := X.K) ha)
    obtain ⟨it2, r2, p2, _⟩ := I.list (SqL.of (K := X.K) hb)
    have l1 := r1.length
    have l2 := r2.length
    exact ne_lists p1.isList p2.isList (by simp; omega) (by omega) (fun j h1 h2 => (seq_trees r1 r2 (fun i x y e1 e2 => (hs i x y e1 e2).tree I) j h1 h2).at X.A.in1 (by show X.A.units + 1 + 39 < cLine; omega)) (fin _ rfl)
  | tup ha hb hl hs => cases e0; rw [ha] at hz; cases hz
  | dK f ha hb hl hv hs => cases e0; rw [ha] at hz; cases hz
end
end Ls
namespace Ls
open PySem PySem.Spec PyProof.Rows L2
open Sem (wp)
/-! ### keys that are tuples in which None may stand: looked up, never stored -/
section
variable {prog : Program} {w : World} {A : Around} {E : Value → Shared → Prop} {s : Shared}
theorem hash_none {Q : Int → Shared → Prop} (h : Q 0xFCA86420 { s with toks := s.toks + 1 }) : wpAny (model prog w) A (pyHash .none) Q E s := by
  have hT : s.TypeIs .none "NoneType" := rfl
  unfold pyHash pyHashByItsType
  have hv : [Value.none].any Value.onHeap = false := rfl
  refine wpAny_bind ?_
  rw [cRoomFor, if_neg (by rw [hv]; exact Bool.false_ne_true)]; refine wpAny_pure ?_
  refine wpAny_bind (wpAny_specialOf hT F.slot_NoneType_hash.lookup ?_)
  show wpAny _ _ (if (some (Value.builtin "NoneType.__hash__") == some Value.none) = true then _ else _) Q E s
  rw [if_neg (by rw [beq_builtin_none]; exact Bool.false_ne_true)]
  refine wpAny_bind (wpAny_specialOf hT F.slot_NoneType_hash.lookup ?_)
  show wpAny _ _ (callSpecialIfBoundUnlessNone? .none "__hash__" _ >>= _) Q E s
  refine wpAny_bind (wpAny_callSpecialIfBoundUnlessNone?_slot hT F.slot_NoneType_hash
    (wpAny_call_entry F.slot_NoneType_hash hT F.entry_NoneType_hash
      (show wpAny _ _ (do ret (← mkInt 0xFCA86420)) _ _ s from wpAny_ret_mkInt ?_) (F.args_NoneType_hash_1 _)))
  show wpAny _ _ (if (decide (-(2 : Int) ^ 63 ≤ 0xFCA86420) && decide ((0xFCA86420 : Int) < 2 ^ 63)) = true then _ else _) Q E _
  rw [if_pos (by decide)]
  exact wpAny_pure h
end
def oIs : Option Key → Value → Bool
  | none, v => v == .none
  | some k, v => keyIs k v
theorem oIs_none {v : Value} (h : oIs none v = true) : v = .none := eq_of_beq h
def optKind (prog : Program) (w : World) : PySem.KeyKind prog w (Option Key) where
  is := oIs
  hash := fun k => match k with | none => 0xFCA86420 | some k => keyH w k
  inj := fun v a b ha hb => by
    cases a with
    | none =>
      have e := oIs_none ha
      subst e
      cases b with
      | none => rfl
      | some k => rcases keyIs_shape hb with ⟨i, t, _, e⟩ | ⟨x, t, _, e⟩ <;> cases e
    | some j =>
      cases b with
      | none =>
        have e := oIs_none hb
        subst e
        rcases keyIs_shape ha with ⟨i, t, _, e⟩ | ⟨x, t, _, e⟩ <;> cases e
      | some k => rw [(mixKind prog w).inj v j k ha hb]
  byValue := fun k v h => by
    cases k with
    | none =>
      have e := oIs_none h
      subst e
      rfl
    | some k => exact (mixKind prog w).byValue k v h
  pyHash := fun {A E s k v Q} hv h => by
    cases k with
    | none =>
      have e := oIs_none hv
      subst e
      exact hash_none h
    | some k => exact (mixKind prog w).pyHash hv h
  eqBool := fun {A E s a b u v Q} hu hv h => by
    cases a with
    | none =>
      have e := oIs_none hu
      subst e
      cases b with
      | none =>
        have e := oIs_none hv
        subst e
        exact SeqAt.EqAt.same _ _ _ _ _ (by simpa using h)
      | some k =>
        have h' : Q false s := by simpa using h
        rcases keyIs_shape hv with ⟨i, t, _, rfl⟩ | ⟨x, t, _, rfl⟩
        · exact SeqAt.EqAt.none_int i t _ _ _ _ h'
        · exact SeqAt.EqAt.none_str x t _ _ _ _ h'
    | some j =>
      cases b with
      | none =>
        have e := oIs_none hv
        subst e
        have h' : Q false s := by simpa using h
        rcases keyIs_shape hu with ⟨i, t, _, rfl⟩ | ⟨x, t, _, rfl⟩
        · exact SeqAt.EqAt.int_none i t _ _ _ _ h'
        · exact SeqAt.EqAt.str_none x t _ _ _ _ h'
      | some k =>
        refine (mixKind prog w).eqBool hu hv ?_
        have : decide (some j = some k) = decide (j = k) := decide_eq_decide.mpr ⟨fun z => Option.some.inj z, fun z => by rw [z]⟩
        rw [← this]
        exact h
  «strs» := fun k x t v h => by
    cases k with
    | none => exact nomatch oIs_none h
    | some k => exact (mixKind prog w).strs k x t v h
def oV : Option Key → V
  | none => .non
  | some k => kV k
def oks (ks : List Key) : List (Option Key) := ks.map some
theorem oks_inj {a b : List Key} (h : oks a = oks b) : a = b := by
  unfold oks at h
  exact List.map_inj_right (fun x y z => Option.some.inj z) |>.mp h
section
variable {P : Program} {w : World} {H : Hp} {h : Heap} {a : Addr}
theorem oitems : ∀ {ks : List (Option Key)} {its : List Value}, Vals (ks.map oV) its → ItemsAre (optKind P w) ks its
  | [], _, .nil => .nil
  | none :: r, _, .cons x y => by
    have e : _ = Value.none := x
    rw [e]
    exact .cons (by show (Value.none == Value.none) = true; simp) (oitems y)
  | some (.inl i) :: r, _, .cons x y => by
    obtain ⟨t, rfl⟩ := (show ∃ t, _ = Value.int i t from x)
    exact .cons (keyIs_int i t) (oitems y)
  | some (.inr z) :: r, _, .cons x y => by
    obtain ⟨t, rfl⟩ := (show ∃ t, _ = Value.str z t from x)
    exact .cons (keyIs_str z t) (oitems y)
theorem okey_of {ks : List (Option Key)} (ok : HOk P w H h) (e : H a = some (.tup (ks.map oV))) : (tupleKind (optKind P w)).is h ks a := by
  obtain ⟨_, its, r, o, h1, h2, n, h3⟩ := (show ObjOk P w H h a (.tup (ks.map oV)) from ok a _ e)
  exact ⟨o, its.toArray, n, h1, h2, h3, by simpa using oitems r⟩
theorem oitems_of {ks : List Key} {its : List Value} (h : ItemsAre (mixKind P w) ks its) : ItemsAre (optKind P w) (oks ks) its := by
  induction h with
  | nil => exact .nil
  | cons h1 _ ih => exact .cons h1 ih
theorem ohash (ks : List Key) : tupleKeyHash (optKind P w) (oks ks) = tupleKeyHash (mixKind P w) ks := by
  unfold tupleKeyHash oks
  rw [List.map_map]
  rfl
theorem odict {xs : List (List Key × Addr × Value)} (d : h.DictOfH (tupleKind (mixKind P w)) a xs) : h.DictOfH (tupleKind (optKind P w)) a (xs.map fun x => (oks x.1, x.2)) := by
  obtain ⟨o, es, ep, h1, h2, h3, h4, h5, h6⟩ := d
  refine ⟨o, es, ep, h1, h2, h3, ?_, fun x hx => ?_, ?_⟩
  · rw [h4, List.map_map]
    refine List.map_congr_left fun x _ => ?_
    show (⟨tupleKeyHash (mixKind P w) x.1, .ref x.2.1, x.2.2⟩ : DictEntry) = ⟨tupleKeyHash (optKind P w) (oks x.1), .ref x.2.1, x.2.2⟩
    rw [ohash]
  · obtain ⟨y, hy, rfl⟩ := List.mem_map.mp hx
    obtain ⟨o', items, n, k1, k2, k3, k4⟩ := h5 y hy
    exact ⟨o', items, n, k1, k2, k3, oitems_of k4⟩
  · rw [List.map_map]
    have e : ((fun x : List (Option Key) × Addr × Value => x.1) ∘ fun x : List Key × Addr × Value => (oks x.1, x.2)) = fun x => oks x.1 := rfl
    rw [e]
    have e2 : xs.map (fun x => oks x.1) = (xs.map (·.1)).map oks := by rw [List.map_map]; rfl
    rw [e2]
    exact List.Pairwise.map oks (fun x y n z => n (oks_inj z)) h6
end
/-- what the tuple-keyed dict at a holds at the key y, in which None may stand -/
def DGetN (H : Hp) (a : Addr) (y : V) (r : Option V) : Prop := ∃ (kvs : List (List Key × V)) (k : List (Option Key)) (b : Addr), Rd H a (.dT kvs) ∧ y = .ref b ∧ H b = some (.tup (k.map oV)) ∧ ((∃ j, k = oks j ∧ r = valV kvs j) ∨ ((∀ j, k ≠ oks j) ∧ r = none))
theorem oat_some {xs : List (List Key × Addr × Value)} {j : List Key} : atKey (xs.map fun x => (oks x.1, x.2)) (oks j) = atKey xs j := by
  unfold atKey
  induction xs with
  | nil => rfl
  | cons x r ih =>
    rw [List.map_cons, List.find?_cons, List.find?_cons]
    have : decide (oks x.1 = oks j) = decide (x.1 = j) := decide_eq_decide.mpr ⟨oks_inj, fun z => by rw [z]⟩
    dsimp only
    rw [this]
    cases decide (x.1 = j) with
    | true => rfl
    | false => exact ih
theorem oat_none {xs : List (List Key × Addr × Value)} {k : List (Option Key)} (h : ∀ j, k ≠ oks j) : atKey (xs.map fun x => (oks x.1, x.2)) k = none := by
  unfold atKey
  induction xs with
  | nil => rfl
  | cons x r ih =>
    rw [List.map_cons, List.find?_cons]
    dsimp only
    rw [decide_eq_false (Ne.symm (h x.1))]
    exact ih
section
variable {X : Cx} {pins : List (Addr × Obj)} {σ : L2.St} {H : Hp} {s : Shared} {a : Addr} {y d : V} {u r : Value} {o : Option V} {A : Around} {E : Value → Shared → Prop}
/-- d.get(y, x) -/
theorem d_get2N {Q : Value → Shared → Prop} (hu : A.units + 1 < cLine) (I : Inv X pins σ H s) (g : DGetN H a y o) (ry : RelV y u) (rd : RelV d r) (h : ∀ w' s', Inv X pins σ H s' → RelV (o.getD d) w' → Q w' s') :
    wpAny (model X.prog X.w) A (call (.builtin "dict.get") [.ref a, u, r]) Q E s := by
  obtain ⟨kvs, k, b, e, ey, eb, l⟩ := g
  subst ey
  cases (show u = Value.ref b from ry)
  obtain ⟨z, hd, xs, rel, dd⟩ := dt_rd I.hok e
  refine call_meetsIn PySem.F.slot_dict_get dd.typeIs PySem.F.entry_dict_get (PySem.F.args_dict_get_3 _ _ _) (meetsH_dict_get_default (tupleKind (optKind X.prog X.w)) a b hd r) ⟨tupleKind_room_in1 hu, k, xs.map fun x => (oks x.1, x.2), okey_of I.hok eb, odict dd, h _ _ (I.tok _) ?_⟩
  rcases l with ⟨j, rfl, l⟩ | ⟨n, l⟩
  · rw [oat_some, l]
    exact (rel.val j).getD rd
  · rw [oat_none n, l]
    exact rd
theorem d_inN {Q : Value → Shared → Prop} (hu : A.units + 1 < cLine) (I : Inv X pins σ H s) (g : DGetN H a y o) (ry : RelV y u) (h : ∀ s', Inv X pins σ H s' → Q (.bool o.isSome) s') :
    wpAny (model X.prog X.w) A (compareOp .In u (.ref a)) Q E s := by
  obtain ⟨kvs, k, b, e, ey, eb, l⟩ := g
  subst ey
  cases (show u = Value.ref b from ry)
  obtain ⟨z, hd, xs, rel, dd⟩ := dt_rd I.hok e
  refine wpAny_in_heap (knd := tupleKind (optKind X.prog X.w)) (tupleKind_room_in1 hu) (okey_of I.hok eb) hd (odict dd) ?_
  have e2 : (atKey (xs.map fun x => (oks x.1, x.2)) k).isSome = o.isSome := by
    rcases l with ⟨j, rfl, l⟩ | ⟨n, l⟩
    · rw [oat_some, l]
      have q := (rel.val j).isSome_eq
      rw [Option.isSome_map] at q
      exact q.symm
    · rw [oat_none n, l]
      rfl
  rw [e2]
  exact h _ (I.tok _)
end
def tDGet2N (td ty tx : TE) : TE := fun σ H Q => td σ H fun x H1 => ∃ a, x = .ref a ∧ IsD H1 a ∧ ty σ H1 fun y H2 => tx σ H2 fun z H3 => ∃ o, DGetN H3 a y o ∧ Q (o.getD z) H3
def tDInN (ty td : TE) : TE := fun σ H Q => ty σ H fun y H1 => td σ H1 fun x H2 => ∃ a o, x = .ref a ∧ DGetN H2 a y o ∧ Q (.bl o.isSome) H2
section
variable {X : Cx} {o e f : Expr} {apos cpos : Pos} {td ty tx : TE}
theorem pe_dget2N (hu : X.A.units + 1 < cLine) (ho : PE X o td) (he : PE X e ty) (hf : PE X f tx) (m : M2 X o "get" apos e f cpos) : PE X (.Call (.Attribute o "get" apos) [e, f] [] cpos) (tDGet2N td ty tx) := by
  refine ⟨fun pins s σ H Q I h => ?_⟩
  refine wpAny_Call_method m.base m.few m.line PySem.F.plainAttrs_dict PySem.F.slot_dict_get PySem.F.type_dict_get (thn (ho.run pins s σ H _ I h) fun u s1 ⟨x, H1, I1, rx, a, ex, d, q1⟩ => ?_)
  subst ex
  obtain rfl : u = Value.ref a := rx
  obtain ⟨t1, t2, _⟩ := isD_at I1 d
  refine ⟨t1, t2, ?_⟩
  rw [m.trees]
  refine Calls.callWith_builtin rfl (Calls.evalArgs_plain (Calls.spliced_cons (thn (he.run pins s1 σ H1 _ I1 q1) fun iv s2 ⟨y, H2, I2, ry, q2⟩ =>
    Calls.spliced_cons (thn (hf.run pins s2 σ H2 _ I2 q2) fun fv s3 ⟨z, H3, I3, rz, ov, g, q3⟩ => Calls.spliced_nil ?_))))
  exact d_get2N hu I3 g ry rz fun w' s4 I4 rw' => ⟨_, H3, I4, rw', q3⟩
theorem op_inN (hu : X.A.units + 1 < cLine) : OpR X (compareOp .In) (fun y x H Q => ∃ a o, x = .ref a ∧ DGetN H a y o ∧ Q (.bl o.isSome) H) := by
  intro pins s σ H y x v u Q I ry rx h
  obtain ⟨a, ov, rfl, g, q⟩ := h
  cases rx
  exact d_inN hu I g ry fun s' I' => ⟨.bl ov.isSome, H, I', rfl, q⟩
/-- in for a dict, as an operator -/
theorem op_din (hu : X.A.units + 1 < cLine) : OpR X (compareOp .In) (fun y x H Q => ∃ a o, x = .ref a ∧ DGet H a y o ∧ Q (.bl o.isSome) H) := by
  intro pins s σ H y x v u Q I ry rx h
  obtain ⟨a, ov, rfl, g, q⟩ := h
  cases rx
  exact d_in hu I g ry fun s' I' => ⟨.bl ov.isSome, H, I', rfl, q⟩
end
end Ls
namespace Ls
open PySem PySem.Spec PyProof.Rows L2
/-! ### data that stay -/
mutual
theorem dp_same {K : PySem.W.Frag} {H H' : Hp} (s : Same H H') : ∀ (d : PyData) (v : V), Dp K H v d → Dp K H' v d
  | .none, _, h => by cases h; exact .non
  | .bool b, _, h => by cases h; exact .bl b
  | .int i, _, h => by cases h; exact .int i
  | .str x, _, h => by cases h; exact .str x
  | .list ds, _, h => by
    cases h with
    | lst q a => exact .lst (Stays.sqL s q) (dpAll_same s ds _ a)
  | .tuple ds, _, h => by
    cases h with
    | tup q a => exact .tup (Stays.sqT s q) (dpAll_same s ds _ a)
  | .dict _, _, h => by cases h
theorem dpAll_same {K : PySem.W.Frag} {H H' : Hp} (s : Same H H') : ∀ (ds : List PyData) (vs : List V), DpAll K H vs ds → DpAll K H' vs ds
  | [], _, h => by cases h; exact .nil
  | d :: ds, _, h => by
    cases h with
    | cons h1 h2 => exact .cons (dp_same s d _ h1) (dpAll_same s ds _ h2)
end
/-- data that may be compared -/
def Flat (d : PyData) : Prop := PyData.canLay0 d = true ∧ d.depth ≤ 60
def Cmp (K : PySem.W.Frag) (H : Hp) (v : V) : Prop := ∃ d, Dp K H v d ∧ Flat d
theorem flat_all : ∀ {ds : List PyData}, (∀ d ∈ ds, Flat d) → PyData.canLayAll0 ds = true ∧ PyData.depthAll ds ≤ 60
  | [], _ => ⟨by simp [PyData.canLayAll0], by simp [PyData.depthAll]⟩
  | d :: r, h => by
    obtain ⟨a, b⟩ := h d (.head _)
    obtain ⟨c, e⟩ := flat_all fun x hx => h x (.tail _ hx)
    refine ⟨by simp [PyData.canLayAll0, a, c], ?_⟩
    simp only [PyData.depthAll]
    omega
theorem shaped_list {ds : List PyData} (h : ∀ d ∈ ds, Flat d) : SeqAt.shaped (.list ds) = true := by
  obtain ⟨a, b⟩ := flat_all h
  unfold SeqAt.shaped
  have e : PyData.depth (.list ds) ≤ 64 := by
    rw [PyData.depth]
    omega
  rw [decide_eq_true e, PyData.canLay0, a]
  rfl
theorem Cmp.same {K : PySem.W.Frag} {H H' : Hp} {v : V} (h : Cmp K H v) (s : Same H H') : Cmp K H' v := by
  obtain ⟨d, a, b⟩ := h
  exact ⟨d, dp_same s d v a, b⟩
theorem cmp_all {K : PySem.W.Frag} {H : Hp} : ∀ {xs : List V}, (∀ v ∈ xs, Cmp K H v) → ∃ ds, DpAll K H xs ds ∧ (∀ d ∈ ds, Flat d) ∧ ds.length = xs.length
  | [], _ => ⟨[], .nil, (fun d hd => by cases hd), rfl⟩
  | v :: r, h => by
    obtain ⟨d, a, b⟩ := h v (.head _)
    obtain ⟨ds, c, e, l⟩ := cmp_all fun u hu => h u (.tail _ hu)
    refine ⟨d :: ds, .cons a c, fun x hx => ?_, by rw [List.length_cons, List.length_cons, l]⟩
    rcases List.mem_cons.mp hx with rfl | hx
    · exact b
    · exact e x hx
end Ls
namespace AL
open PySem PySem.Spec PyProof.Rows L2 Ls
/-! ### data that are equal all the way down -/
def scalD : Dat → Bool | .non => true | .bl _ => true | .int _ => true | .str _ => true | _ => false
inductive EqD (s : AS) : Nat → Dat → Dat → Prop
  | flat {n : Nat} {d : Dat} : scalD d = true → EqD s n d d
  | lst {n : Nat} {a b : Dat} {xs ys : List Dat} : LstD s a xs → LstD s b ys → xs.length = ys.length → (∀ (i : Nat) (x y : Dat), xs[i]? = some x → ys[i]? = some y → EqD s n x y) → EqD s (n + 1) a b
  | tup {n : Nat} {xs ys : List Dat} : xs.length = ys.length → (∀ (i : Nat) (x y : Dat), xs[i]? = some x → ys[i]? = some y → EqD s n x y) → EqD s (n + 1) (.tup xs) (.tup ys)
  | dK {n : Nat} {a b : Dat} {es fs : List (Key × Dat)} (f : Key → Dat) : DicD s a es → DicD s b fs → es.length = fs.length → (∀ k v, (k, v) ∈ es → getD fs k = some (f k)) → (∀ k v, (k, v) ∈ es → EqD s n v (f k)) → EqD s (n + 1) a b
theorem scal_flat {K : PySem.W.Frag} {Hf : Hp} {x y : V} {d : Dat} (h : scalD d = true) (ax : At K Hf x d) (ay : At K Hf y d) : x = y ∧ flatV x = true := by
  cases ax <;> first | (cases h; done) | (cases ay; exact ⟨rfl, rfl⟩)
section
variable {K : PySem.W.Frag} {F : AS} {Hf H : Hp} {s : AS}
theorem kv_mem {kvs : List (Key × V)} {es : List (Key × Dat)} (h1 : kvs.map (·.1) = es.map (·.1)) (h2 : Ats K Hf (kvs.map (·.2)) (es.map (·.2))) {k : Key} {v : V} (hm : (k, v) ∈ kvs) : ∃ d, (k, d) ∈ es ∧ At K Hf v d := by
  obtain ⟨i, hi, e⟩ := List.getElem_of_mem hm
  have g : kvs[i]? = some (k, v) := by rw [List.getElem?_eq_getElem hi, e]
  obtain ⟨y, e1, e2⟩ := fst_get h1 g
  have a := snd_get h2 g e1
  exact ⟨y.2, by have := List.mem_of_getElem? e1; rw [← show y.1 = k from e2]; exact this, a⟩
theorem EqD.sm (R : Rep K F Hf H s) {n : Nat} {a b : Dat} (h : EqD s n a b) : ∀ {x y : V}, At K Hf x a → At K Hf y b → Sm H n x y := by
  induction h with
  | flat hd =>
    intro x y ax ay
    obtain ⟨rfl, hf⟩ := scal_flat hd ax ay
    exact .flat hf
  | lst h1 h2 hl _ ih =>
    intro x y ax ay
    obtain ⟨p, us, rfl, g1, k1⟩ := h1.sq R ax
    obtain ⟨q, vs, rfl, g2, k2⟩ := h2.sq R ay
    refine .lst g1 g2 (by rw [k1.len, k2.len]; exact hl) fun i x y e1 e2 => ?_
    obtain ⟨d, e3, a3⟩ := k1.getV e1
    obtain ⟨e, e4, a4⟩ := k2.getV e2
    exact ih i d e e3 e4 a3 a4
  | tup hl _ ih =>
    intro x y ax ay
    cases ax with
    | tup g1 k1 =>
      cases ay with
      | tup g2 k2 =>
        refine .tup (R.sub _ _ g1) (R.sub _ _ g2) (by rw [k1.len, k2.len]; exact hl) fun i x y e1 e2 => ?_
        obtain ⟨d, e3, a3⟩ := k1.getV e1
        obtain ⟨e, e4, a4⟩ := k2.getV e2
        exact ih i d e e3 e4 a3 a4
  | dK f h1 h2 hl hg _ ih =>
    intro x y ax ay
    obtain ⟨p, us, rfl, g1, k1, j1⟩ := h1.get R ax
    obtain ⟨q, vs, rfl, g2, k2, j2⟩ := h2.get R ay
    have key : ∀ k v, (k, v) ∈ us → ∃ d v', (k, d) ∈ _ ∧ At K Hf v d ∧ valV vs k = some v' ∧ At K Hf v' (f k) := fun k v hm => by
      obtain ⟨d, m1, a1⟩ := kv_mem k1 j1 hm
      have o := get_at (k := k) k2 j2
      rw [hg k d m1] at o
      cases e : valV vs k with
      | none => rw [e] at o; exact (o : False).elim
      | some v' =>
        rw [e] at o
        exact ⟨d, v', m1, a1, rfl, o⟩
    refine .dK (fun k => (valV vs k).getD .non) g1 g2 (by rw [len_map k1, len_map k2]; exact hl) (fun k v hm => ?_) fun k v hm => ?_
    · obtain ⟨d, v', _, _, e, _⟩ := key k v hm
      rw [e]
      rfl
    · obtain ⟨d, v', m1, a1, e, a2⟩ := key k v hm
      rw [e]
      exact ih k d m1 a1 a2
def EqT (s : AS) (n : Nat) (a b : Dat) : Prop := scalD a = false ∧ EqD s (n + 1) a b
theorem EqT.smt (R : Rep K F Hf H s) {n : Nat} {a b : Dat} (h : EqT s n a b) {x y : V} (ax : At K Hf x a) (ay : At K Hf y b) : SmT H n x y := by
  obtain ⟨h0, h⟩ := h
  cases h with
  | flat hd => rw [h0] at hd; cases hd
  | lst h1 h2 hl hs =>
    obtain ⟨p, us, rfl, g1, k1⟩ := h1.sq R ax
    obtain ⟨q, vs, rfl, g2, k2⟩ := h2.sq R ay
    refine .lst g1 g2 (by rw [k1.len, k2.len]; exact hl) fun i x y e1 e2 => ?_
    obtain ⟨d, e3, a3⟩ := k1.getV e1
    obtain ⟨e, e4, a4⟩ := k2.getV e2
    exact (hs i d e e3 e4).sm R a3 a4
  | tup hl hs =>
    cases ax with
    | tup g1 k1 =>
      cases ay with
      | tup g2 k2 =>
        refine .tup (R.sub _ _ g1) (R.sub _ _ g2) (by rw [k1.len, k2.len]; exact hl) fun i x y e1 e2 => ?_
        obtain ⟨d, e3, a3⟩ := k1.getV e1
        obtain ⟨e, e4, a4⟩ := k2.getV e2
        exact (hs i d e e3 e4).sm R a3 a4
  | dK f h1 h2 hl hg hs =>
    have hh : EqD s (n + 1) a b := .dK f h1 h2 hl hg hs
    have sm := hh.sm R ax ay
    obtain ⟨p, us, rfl, g1, k1, j1⟩ := h1.get R ax
    obtain ⟨q, vs, rfl, g2, k2, j2⟩ := h2.get R ay
    have key : ∀ k v, (k, v) ∈ us → ∃ d v', (k, d) ∈ _ ∧ At K Hf v d ∧ valV vs k = some v' ∧ At K Hf v' (f k) := fun k v hm => by
      obtain ⟨d, m1, a1⟩ := kv_mem k1 j1 hm
      have o := get_at (k := k) k2 j2
      rw [hg k d m1] at o
      cases e : valV vs k with
      | none => rw [e] at o; exact (o : False).elim
      | some v' =>
        rw [e] at o
        exact ⟨d, v', m1, a1, rfl, o⟩
    refine .dK (fun k => (valV vs k).getD .non) g1 g2 (by rw [len_map k1, len_map k2]; exact hl) (fun k v hm => ?_) fun k v hm => ?_
    · obtain ⟨d, v', _, _, e, _⟩ := key k v hm
      rw [e]
      rfl
    · obtain ⟨d, v', m1, a1, e, a2⟩ := key k v hm
      rw [e]
      exact (hs k d m1).sm R a1 a2
end
section
variable {K : PySem.W.Frag}
theorem ro_eqSm : ROk K rEqSm (fun a b s Q => EqT s 39 a b ∧ Q (.bl true) s) := by
  rintro F Hf H s x y a b Q Qc R ax ay LL ⟨h, q⟩
  exact ⟨h.smt R ax ay, LL _ _ Hf H s (Same.refl _) R (.bl _) q⟩
theorem ro_neSm : ROk K rNeSm (fun a b s Q => (∃ xs, LstD s a xs) ∧ EqT s 39 a b ∧ Q (.bl false) s) := by
  rintro F Hf H s x y a b Q Qc R ax ay LL ⟨⟨xs, hl⟩, h, q⟩
  obtain ⟨p, us, rfl, g1, k1⟩ := hl.sq R ax
  exact ⟨⟨p, us, rfl, g1⟩, h.smt R ax ay, LL _ _ Hf H s (Same.refl _) R (.bl _) q⟩
/-! ### a list and [] -/
theorem ro_eqE : ROk K (rEqE K) (fun a b s Q => ∃ xs, LstD s a xs ∧ b = .lst [] ∧ Q (.bl xs.isEmpty) s) := by
  rintro F Hf H s x y a b Q Qc R ax ay LL ⟨xs, h, rfl, q⟩
  obtain ⟨p, us, rfl, g1, k1⟩ := h.sq R ax
  cases ay with
  | lst g2 k2 =>
    cases k2
    refine ⟨p, _, us, rfl, rfl, SqL.of g1, SqL.of (R.sub _ _ g2), ?_⟩
    have : us.isEmpty = xs.isEmpty := by cases k1 <;> rfl
    rw [this]
    exact LL _ _ Hf H s (Same.refl _) R (.bl _) q
theorem ro_neE : ROk K (rNeE K) (fun a b s Q => ∃ xs, LstD s a xs ∧ b = .lst [] ∧ Q (.bl (!xs.isEmpty)) s) := by
  rintro F Hf H s x y a b Q Qc R ax ay LL ⟨xs, h, rfl, q⟩
  obtain ⟨p, us, rfl, g1, k1⟩ := h.sq R ax
  cases ay with
  | lst g2 k2 =>
    cases k2
    refine ⟨p, _, us, rfl, rfl, SqL.of g1, SqL.of (R.sub _ _ g2), ?_⟩
    have : us.isEmpty = xs.isEmpty := by cases k1 <;> rfl
    rw [this]
    exact LL _ _ Hf H s (Same.refl _) R (.bl _) q
/-! ### lists of texts, compared -/
theorem eqv_str' (a b : Str) : PyData.eqv (.str a) (.str b) = decide (a = b) := by
  rw [PyData.eqv]
  by_cases h : a = b
  · simp [h]
  · rw [decide_eq_false h]
    exact beq_eq_false_iff_ne.mpr h
theorem eqvAll_strs : ∀ l1 l2 : List Str, PyData.eqvAll (l1.map PyData.str) (l2.map PyData.str) = decide (l1 = l2)
  | [], [] => by simp [PyData.eqvAll]
  | a :: l, [] => by simp [PyData.eqvAll]
  | [], b :: l => by simp [PyData.eqvAll]
  | a :: l1, b :: l2 => by
    rw [List.map_cons, List.map_cons, PyData.eqvAll, eqv_str', eqvAll_strs l1 l2]
    by_cases h1 : a = b <;> by_cases h2 : l1 = l2 <;> simp [h1, h2]
theorem dp_strs' {H : Hp} : ∀ ts : List Str, DpAll K H (ts.map V.str) (ts.map PyData.str)
  | [] => .nil
  | t :: r => .cons (.str t) (dp_strs' r)
theorem shaped_tup' {ds : List PyData} (h : ∀ d ∈ ds, Flat d) : SeqAt.shaped (.tuple ds) = true := by
  obtain ⟨a, b⟩ := flat_all h
  unfold SeqAt.shaped
  have e : PyData.depth (.tuple ds) ≤ 64 := by
    rw [PyData.depth]
    omega
  rw [decide_eq_true e, PyData.canLay0, a]
  rfl
theorem shapedL_strs {ts : List Str} (h : ∀ z ∈ ts, PyData.strOk z = true) : SeqAt.shaped (.list (ts.map PyData.str)) = true := shaped_list fun d hd => by
  obtain ⟨z, hz, rfl⟩ := List.mem_map.mp hd
  exact ⟨by simp [PyData.canLay0, h z hz], by simp [PyData.depth]⟩
theorem ro_eqSs : ROk K (rEqD K) (fun a b s Q => ∃ xs ys : List Str, LstD s a (xs.map Dat.str) ∧ LstD s b (ys.map Dat.str) ∧ (∀ z ∈ xs, PyData.strOk z = true) ∧ (∀ z ∈ ys, PyData.strOk z = true) ∧ Q (.bl (decide (xs = ys))) s) := by
  rintro F Hf H s x y a b Q Qc R ax ay LL ⟨xs, ys, h1, h2, o1, o2, q⟩
  obtain ⟨p, us, rfl, g1, k1⟩ := h1.sq R ax
  obtain ⟨p2, ws, rfl, g2, k2⟩ := h2.sq R ay
  rw [ats_strs_inv k1] at g1
  rw [ats_strs_inv k2] at g2
  exact ⟨_, _, .lst (SqL.of g1) (dp_strs' xs), .lst (SqL.of g2) (dp_strs' ys), shapedL_strs o1, shapedL_strs o2, by rw [PyData.eqv, eqvAll_strs]; exact LL _ _ Hf H s (Same.refl _) R (.bl _) q⟩
end
/-! ### things that are let fall behind an expression -/
theorem GE.gone {e : Ec} {te : TE} {γ : Ga} {s : AS} {Q : Dat → AS → Prop} (h : GE e te γ s fun d s1 => ∃ s0, (∀ a c, s0 a = some c → s1 a = some c) ∧ Q d s0) : GE e te γ s Q := fun F Hf H σ R SS X Qc LL =>
  h F Hf H σ R SS X Qc fun v d Hf' H' s1 m R' a ⟨s0, k, q⟩ => LL v d Hf' H' s0 m (R'.drop k) a q
/-! ### a list that is one's own, by comprehension -/
section
variable {e : Ec} {γ : Ga} {s : AS} {te : TE} {t : TT} {Q : Dat → AS → Prop} {wi : TI} {g : TG}
def LcM (e : Ec) (vs : List Nat) (g : TG) (t : TT) (te : TE) (γ : Ga) (Q : Dat → AS → Prop) (s1 : AS) (xs : List Dat) (Gs : AS → Prop) : Prop := ∃ I : Nat → List Dat → AS → Prop, xs.length < sizeLine ∧ I 0 [] s1 ∧ (∀ i acc s', i ≤ xs.length → I i acc s' → Gs s') ∧ (∀ i d acc s', xs[i]? = some d → I i acc s' → GG e (some vs) g d (wipeG γ vs) s' fun γ2 s2 => GT e t γ2 s2 fun b s3 =>
    (b = true → GE e te γ2 s3 fun y s4 => I (i + 1) (acc ++ [y]) s4) ∧ (b = false → I (i + 1) acc s3)) ∧ ∀ acc s', I xs.length acc s' → ∀ p, s' p = none → Q (.ref p) (supd s' p (.raw (.lst acc)))
theorem g_lcM {vs : List Nat} (h : GI e wi γ s fun xs Gs s1 => LcM e vs g t te γ Q s1 xs Gs) : GE e (tLc wi g t te vs) γ s Q := fun F Hf H σ R S X Qc L =>
  h F Hf H σ R S X _ fun J xs Gs Hf1 H1 s1 m1 R1 dw ⟨I, hz, i0, ig, st, fin⟩ => fun Dp hD => by
    obtain ⟨Gc, Y, w, wg, wy⟩ := dw.ex
    have hF := (R1.free hD).2.1
    refine lc_it w (fun i H' => ∃ Hf2 s2 acc, Same Hf1 Hf2 ∧ Rep e.K (supd F Dp (.raw (.lst acc))) Hf2 H' s2 ∧ acc.length ≤ i ∧ I i acc s2) ⟨Hf1, s1, [], Same.refl _, R1.hide hD (w := .lst []) ⟨[], rfl, .nil⟩, Nat.zero_le _, i0⟩ (fun i H' hi ⟨Hf2, s2, acc, m2, R2, _, h2⟩ => wg _ Hf2 H' s2 m2 R2 (ig i acc s2 hi h2)) ?_ ?_
    · rintro i x H2 H3 hi ⟨Hf2, s2, acc, m2, R2, la, h2⟩ y
      obtain ⟨Hf3, d, m3, R3, hd, a3, _⟩ := wy i _ Hf2 H2 s2 x H3 m2 R2 (ig i acc s2 (Nat.le_of_lt hi) h2) hi y
      have m13 := m2.trans m3
      have X3 : LiftX e (supd F Dp (.raw (.lst acc))) Hf3 := (X.same (m1.trans m13)).hide hF
      have S3 : Slots e.K Hf3 (L2.wipe σ vs) (wipeG γ vs) := (S.wipe vs).same (m1.trans m13)
      refine st i d acc s2 hd h2 _ Hf3 H3 (L2.wipe σ vs) x R3 S3 X3 a3 _ fun σ4 γ4 Hf4 H4 s4 m4 R4 S4 w4 q4 => ?_
      refine ⟨Eq.trans w4 (wipe_wipe fun i hi => hi), q4 _ Hf4 H4 σ4 R4 S4 (X3.same m4) _ fun b Hf5 H5 s5 m5 R5 ⟨q1, q2⟩ => ?_⟩
      have m15 := (m13.trans m4).trans m5
      cases b with
      | false => exact ⟨Hf5, s5, acc, m15, R5, Nat.le_succ_of_le la, q2 rfl⟩
      | true =>
        refine q1 rfl _ Hf5 H5 σ4 R5 (S4.same m5) (X3.same (m4.trans m5)) _ fun y dy Hf6 H6 s6 m6 R6 a6 q6 => ?_
        obtain ⟨_, ho, h61, av, rfl, h62⟩ := R6.readF
        refine ⟨av, h61, ?_, Hf6, s6, acc ++ [dy], m15.trans m6, R6.writeF (w' := .lst (acc ++ [dy])) ⟨_, rfl, h62.append (.cons a6 .nil)⟩, ?_, q6⟩
        · rw [h62.len]
          exact Nat.lt_of_le_of_lt la (Nat.lt_trans hi hz)
        · rw [List.length_append]
          exact Nat.succ_le_succ la
    · rintro H2 ⟨Hf2, s2, acc, m2, R2, la, h2⟩
      have hs := R2.readF.1
      exact L _ _ Hf2 H2 _ (m1.trans m2) (R2.outF hF) (.ref Dp) (fin acc s2 h2 Dp hs)
theorem LcM.mk {α : Type} {vs : List Nat} {xs : List Dat} {Gs : AS → Prop} (l : List α) (enc : α → Dat) (ex : xs = l.map enc) (I : Nat → List Dat → AS → Prop) (hz : l.length < sizeLine) (h0 : I 0 [] s) (hg : ∀ i acc s', i ≤ l.length → I i acc s' → Gs s')
    (hs : ∀ i x acc s', l[i]? = some x → I i acc s' → GG e (some vs) g (enc x) (wipeG γ vs) s' fun γ2 s2 => GT e t γ2 s2 fun b s3 => (b = true → GE e te γ2 s3 fun y s4 => I (i + 1) (acc ++ [y]) s4) ∧ (b = false → I (i + 1) acc s3)) (hd : ∀ acc s', I l.length acc s' → ∀ p, s' p = none → Q (.ref p) (supd s' p (.raw (.lst acc)))) : LcM e vs g t te γ Q s xs Gs := by
  subst ex
  refine ⟨I, by rw [List.length_map]; exact hz, h0, fun i acc s' hi => hg i acc s' (by rw [List.length_map] at hi; exact hi), fun i d acc s' hd' => ?_, fun acc s' h => hd acc s' (by rw [List.length_map] at h; exact h)⟩
  rw [List.getElem?_map] at hd'
  obtain ⟨x, hx, rfl⟩ := Option.map_eq_some_iff.mp hd'
  exact hs i x acc s' hx
end
end AL
namespace AL
open PySem PySem.Spec PyProof.Rows L2 Ls
/-! ### short steps over data -/
local macro_rules | `(tactic| walk_at "gsq") => `(tactic| first
  | exact .inl rfl | exact .inr (.inl rfl) | exact .inr (.inr (.inl rfl)) | exact .inr (.inr (.inr ⟨_, rfl, by assumption⟩)) | exact .inr ⟨_, rfl, by assumption⟩ | exact .inr rfl)
local macro_rules | `(tactic| walk_at "g1") => `(tactic| first
  | with_reducible refine g_seq ?_
  | with_reducible refine g_ret ?_
  | with_reducible refine g_set ?_
  | with_reducible refine g_if ?_
  | with_reducible refine g_retN ?_
  | with_reducible refine g_drop ?_
  | with_reducible refine g_next ?_
  | with_reducible refine g_par ?_
  | with_reducible refine g_sfld ?_
  | with_reducible refine g_dput ?_
  | with_reducible refine g_ddel ?_
  | with_reducible refine g_setI ?_
  | with_reducible refine g_forW ?_
  | with_reducible refine g_asg ?_
  | with_reducible refine g_var (by with_unfolding_all exact rfl) ?_
  | with_reducible refine g_int ?_
  | with_reducible refine g_str ?_
  | with_reducible refine g_bl ?_
  | with_reducible refine g_non ?_
  | with_reducible refine g_ty ?_
  | with_reducible refine g_test ?_
  | with_reducible refine g_tB ?_
  | with_reducible refine g_tnot ?_
  | with_reducible refine g_cons ?_
  | with_reducible refine g_nil ?_
  | with_reducible refine g_op ro_eq ?_
  | with_reducible refine g_op ro_ne ?_
  | with_reducible refine g_op ro_ixL ?_
  | with_reducible refine g_op ro_ixT ?_
  | with_reducible refine g_op ro_ixS ?_
  | with_reducible refine g_op ro_in ?_
  | with_reducible refine g_op ro_notIn ?_
  | with_reducible refine g_op ro_addS ?_
  | with_reducible refine g_op ro_add ?_
  | with_reducible refine g_op ro_sub ?_
  | with_reducible refine g_op ro_lt ?_
  | with_reducible refine g_op ro_le ?_
  | with_reducible refine g_op ro_gt ?_
  | with_reducible refine g_op ro_ge ?_
  | with_reducible refine g_op ro_isN ?_
  | with_reducible refine g_op ro_notN ?_
  | with_reducible refine g_op ro_inSign ?_
  | with_reducible refine g_op ro_notInSign ?_
  | with_reducible refine g_op ro_leS ?_
  | with_reducible refine g_op ro_ltS ?_
  | with_reducible refine g_op ro_catA ?_
  | with_reducible refine g_op ro_catT ?_
  | with_reducible refine g_op ro_mul ?_
  | with_reducible refine g_op ro_pow ?_
  | with_reducible refine g_op ro_mod ?_
  | with_reducible refine g_op ro_div ?_
  | with_reducible refine g_un uo_neg ?_
  | with_reducible refine g_chain ro_le ro_le ?_
  | with_reducible refine g_chain ro_le ro_lt ?_
  | with_reducible refine g_cb co_len ?_
  | with_reducible refine g_cb co_lenS ?_
  | with_reducible refine g_cb co_lenD ?_
  | with_reducible refine g_cb co_isi ?_
  | with_reducible refine g_cb co_isiT ?_
  | with_reducible refine g_cb co_all ?_
  | with_reducible refine g_cb co_any ?_
  | with_reducible refine g_cb co_int1 ?_
  | with_reducible refine g_cb co_intS ?_
  | with_reducible refine g_cb co_strI ?_
  | with_reducible refine g_cb co_strS ?_
  | with_reducible refine g_cb co_tuple ?_
  | with_reducible refine g_cb co_strU ?_
  | with_reducible refine g_cb co_lenSetK ?_
  | with_reducible refine g_cb co_repr ?_
  | with_reducible refine g_op ro_ixU ?_
  | with_reducible refine g_op ro_eqE ?_
  | with_reducible refine g_op ro_neE ?_
  | with_reducible refine g_op ro_eqSm ?_
  | with_reducible refine g_op ro_neSm ?_
  | with_reducible refine g_op ro_eqSs ?_
  | with_reducible refine g_wseq ?_
  | with_reducible refine g_scW ?_
  | with_reducible refine g_kget ?_
  | with_reducible refine g_m0 mo_isdigit ?_
  | with_reducible refine g_m0 mo_isascii ?_
  | with_reducible refine g_star ?_
  | with_reducible refine g_cb co_sortedS ?_
  | with_reducible refine g_cb co_sortedI ?_
  | with_reducible refine g_fld ?_
  | with_reducible refine g_xf ?_
  | with_reducible refine g_tup ?_
  | with_reducible refine g_dget ?_
  | with_reducible refine g_din ?_
  | with_reducible refine g_dnotin ?_
  | with_reducible refine g_dget1 ?_
  | with_reducible refine g_dget2 ?_
  | with_reducible refine g_call ?_
  | with_reducible refine g_callS ?_
  | with_reducible refine g_meth ?_
  | with_reducible refine g_methR ?_
  | with_reducible refine g_m1 mo_split ?_
  | with_reducible refine g_m1 mo_join ?_
  | with_reducible refine g_bm mo_append ?_
  | with_reducible refine g_bm mo_extend ?_
  | with_reducible refine g_bm mo_popAt ?_
  | with_reducible refine g_bm0 mo_pop ?_
  | with_reducible refine g_sl so_list ?_
  | with_reducible refine g_sl so_str ?_
  | with_reducible refine g_sl so_tupA ?_
  | with_reducible refine g_sl so_tup ?_
  | with_reducible refine g_noPart ?_
  | with_reducible refine g_part ?_
  | with_reducible refine g_lcW ?_
  | with_reducible refine g_wlist ?_
  | with_reducible refine g_wtup ?_
  | with_reducible refine g_wstr ?_
  | with_reducible refine g_wenum ?_
  | with_reducible refine g_wrange1 ?_
  | with_reducible refine g_wrange2 ?_
  | with_reducible refine g_join ?_
  | with_reducible refine g_jcons ?_
  | with_reducible refine g_jnil ?_
  | with_reducible refine g_fmt ?_
  | with_reducible refine g_lenSet ?_
  | with_reducible refine g_raise1 ?_
  | with_reducible refine g_raise2 ?_
  | with_reducible refine g_raise0 ?_
  | with_reducible refine g_yes ?_
  | with_reducible refine g_gcons ?_
  | with_reducible refine g_gnil ?_
  | with_reducible refine g_name (by first | trivial | decide) ?_
  | with_reducible refine ⟨_, rfl, ?_⟩
  | with_reducible refine ⟨_, _, rfl, rfl, ?_⟩)
local macro_rules | `(tactic| walk_at "g") => `(tactic| repeat (walk_at "g1"))

local macro_rules | `(tactic| walk_at "ss") => `(tactic| (funext zz; simp only [supd, sdel]; (repeat' split) <;> first | rfl | (subst_vars; first | rfl | contradiction | (simp_all; done)) | (simp_all; done)))
local macro_rules | `(tactic| walk_at "sp") => `(tactic| first
  | with_reducible assumption
  | exact supd_same
  | exact sdel_same
  | exact Eq.trans (supd_ne (by walk_at "ls_ne")) (by walk_at "sp")
  | exact Eq.trans (sdel_ne (by walk_at "ls_ne")) (by walk_at "sp"))
local macro_rules | `(tactic| walk_at "ls_ne") => `(tactic| first | assumption | exact Ne.symm (by assumption) | exact sne (by assumption) (by assumption) | exact Ne.symm (sne (by assumption) (by assumption)))

theorem nodup_snoc {α : Type} {l : List α} {x : α} (h : l.Nodup) (hx : x ∉ l) : (l ++ [x]).Nodup := by
  rw [List.nodup_append]
  refine ⟨h, by simp, fun a ha b hb e => ?_⟩
  rw [List.mem_singleton.mp hb] at e
  exact hx (e ▸ ha)
theorem all_snoc {α : Type} {p : α → Prop} {l : List α} {x : α} (h : ∀ y ∈ l, p y) (hx : p x) : ∀ y ∈ l ++ [x], p y := fun y hy => by
  rcases List.mem_append.mp hy with h1 | h1
  · exact h y h1
  · rw [List.mem_singleton.mp h1]
    exact hx
/-- more built-in names that are called -/
structure BtA (mg : Str → Option Value) : Prop where
  m_enumerate : mg "enumerate" = none
  m_zip : mg "zip" = none
  m_bool : mg "bool" = none
  m_set : mg "set" = none
  m_sorted : mg "sorted" = none
section
variable {P : Program} {w : World} {K : PySem.W.Frag} {mg : Str → Option Value} {base : Heap}
theorem fnOk_imp {CX : CXT} {k : Nat} {f : Addr} {fd : FuncData} {ps : List Str} {sp sp' : Sp} (F : FnOk P w K mg base CX k f fd ps sp) (h : ∀ vs H Q E, sp' vs H Q E → sp vs H Q E) : FnOk P w K mg base CX k f fd ps sp' :=
  ⟨fun vs H Q E z => F.len vs H Q E (h _ _ _ _ z), fun A outer s H args us vs Q E hr he hb hv z => F.run A outer s H args us vs Q E hr he hb hv (h _ _ _ _ z)⟩
theorem a_draw {f : Addr} {fd : FuncData} (F : Fun K "_law_draw" "_law_draw" s__law_draw f fd) (T : Bt mg) : FnOk P w K mg base CX0 1 f fd ["_law_stream", "_law_many"] (conc K aDraw) := fnOk_imp (ok_draw F T) fun _ _ _ _ => draw_conc
/-! ### _law_pick -/
def aPick : ASp := fun ds s Q _ => ∃ (S L : Addr) (n : Nat) (d : Dat) (xs : List Dat), ds = [.ref S, d] ∧ s S = some (StrmB S L n) ∧ n ≤ 10000000 ∧ LstD s d xs ∧ 0 < xs.length ∧ xs.length ≤ 1000000 ∧ ∀ x ∈ xs, Q x (supd s S (StrmB S L (n + 1)))
theorem atI_memD {xs : List Dat} {i : Int} (h0 : 0 ≤ i) (h1 : i < (xs.length : Int)) : ∃ v, atI xs i = some v ∧ v ∈ xs := by
  obtain ⟨n, rfl⟩ := Int.eq_ofNat_of_zero_le h0
  have hn : n < xs.length := by omega
  exact ⟨xs[n], atI_nat (List.getElem?_eq_getElem hn), List.getElem_mem hn⟩
theorem LstD.boxed {s : AS} {d : Dat} {xs : List Dat} {S : Addr} {P P' : (Addr → Option Raw) → Prop} (h : LstD s d xs) (hs : s S = some (.box P)) : LstD (supd s S (.box P')) d xs := by
  rcases h with h | ⟨p, h, hp⟩
  · exact .inl h
  · refine .inr ⟨p, h, ?_⟩
    rw [supd_ne fun z => by rw [z, hs] at hp; cases hp]
    exact hp
theorem a_pick {f : Addr} {fd : FuncData} (F : Fun K "_law_pick" "_law_pick" s__law_pick f fd) (T : Bt mg) (O__law_draw : Own P w K mg base CX0 1 "_law_draw" ["_law_stream", "_law_many"] (conc K aDraw)) : FnOk P w K mg base CX0 2 f fd ["_law_stream", "_law_things"] (conc K aPick) := by
  refine a_ok F sc__law_pick (fun ds s Q E h => ?_) (fun cdv A outer s0 H0 E hr => ?_)
  · obtain ⟨S, L, n, d, xs, rfl, _⟩ := h
    rfl
  · have hu := hu_of hr
    refine ⟨_, (pss_one (ps_ret (pe_ix (ixL K) (pv 1) (own_call O__law_draw hr (by first | decide | omega) (pa_cons (pv 0) (pa_cons (pe_callB (len_seq K) (by rfl) T.m_len (by decide +kernel) (pa_cons (pv 1) pa_nil)) pa_nil))) (fun _ _ => rfl)))), ?_⟩
    rintro ds s Q E ⟨S, L, n, d, xs, rfl, hS, hn, hq, x0, x1, q⟩
    walk_at "g"
    refine ⟨_, _, rfl, hq.seq, ?_⟩
    walk_at "g"
    refine ⟨S, L, n, _, rfl, hS, hn, by omega, by omega, fun r r0 r1 => ?_⟩
    obtain ⟨v, hv, hm⟩ := atI_memD r0 r1
    exact ⟨_, _, _, hq.boxed hS, rfl, hv, q v hm⟩
/-! ### _law_fresh -/
def aFresh : ASp := fun ds s Q _ => ∃ (S L : Addr) (n : Nat) (d : Dat) (ts : List Str), ds = [.ref S, d] ∧ s S = some (StrmB S L n) ∧ n ≤ 9999900 ∧ LstD s d (ts.map Dat.str) ∧ ts.length < 26 ∧ ∀ z, Nm z → z ∉ ts → Q (.str z) (supd s S (StrmB S L (n + 12)))
theorem fresh_conc {vs : List V} {H : Hp} {Q : VK} {E : XK} (h : conc K aFresh vs H Q E) : spFresh vs H Q E := by
  obtain ⟨ds, F, Hf, s, Qa, Ea, R, a, ⟨S, L, n, d, ts, rfl, hs, hn, hd, tl, q⟩, LL, _⟩ := h
  obtain ⟨v, u, rfl, av, au⟩ := ats2 a
  cases av
  obtain ⟨st, fS, fL, nL, _, _, ch⟩ := R.strm hs
  obtain ⟨p, ys, rfl, h1, h2⟩ := hd.sq R au
  rw [ats_strs_inv h2] at h1
  have pS : p ≠ S ∧ p ≠ L := by
    rcases hd with rfl | ⟨p', rfl, hp⟩
    · cases au with
      | lst g _ => exact ⟨(fun z => by rw [z, fS] at g; cases g), (fun z => by rw [z, fL] at g; cases g)⟩
    · cases au
      have n1 : p ≠ S := fun z => by rw [z, hs] at hp; cases hp
      exact ⟨n1, nL p n1 (by rw [hp]; simp)⟩
  exact ⟨S, L, p, n, ts, rfl, st, hn, h1, pS.1, pS.2, tl, fun H' z hz hn2 st' old => LL _ _ Hf H' _ (Same.refl _) (ch H' _ old st') (.str z) (q z hz hn2)⟩
theorem a_fresh {f : Addr} {fd : FuncData} (F : Fun K "_law_fresh" "_law_fresh" s__law_fresh f fd) (T : Bt mg) (O : Own P w K mg base CX0 1 "_law_draw" ["_law_stream", "_law_many"] spDraw) : FnOk P w K mg base CX0 2 f fd ["_law_stream", "_law_taken"] (conc K aFresh) := fnOk_imp (ok_fresh F T O) fun _ _ _ _ => fresh_conc
/-! ### _law_names -/
abbrev s__law_names : Stmt := topS 29
theorem sc__law_names : FnScope ["_law_stream", "_law_many", "_law_found", "_law_k"] ["_law_stream", "_law_many"] (defScope s__law_names) := ⟨rfl, rfl, rfl, by decide +kernel, rfl, by decide +kernel, by decide +kernel⟩
abbrev N__law_names : List Str := ["_law_stream", "_law_many", "_law_found", "_law_k"]
/-- names, all unlike -/
def NmsOk (ts : List Str) : Prop := ts.Nodup ∧ ∀ z ∈ ts, Nm z
def aNames : ASp := fun ds s Q _ => ∃ (S L : Addr) (n m : Nat), ds = [.ref S, .int (m : Int)] ∧ s S = some (StrmB S L n) ∧ n ≤ 9999000 ∧ m ≤ 20 ∧ ∀ ts : List Str, ts.length = m → NmsOk ts → Q (.lst (ts.map Dat.str)) (supd s S (StrmB S L (n + 12 * m)))
theorem rng_map (lo : Int) (n : Nat) : rngD lo n = (List.range n).map fun i => .int (lo + (i : Nat)) := rfl
theorem a_names {f : Addr} {fd : FuncData} (F : Fun K "_law_names" "_law_names" s__law_names f fd) (T : Bt mg) (O__law_fresh : Own P w K mg base CX0 2 "_law_fresh" ["_law_stream", "_law_taken"] (conc K aFresh)) : FnOk P w K mg base CX0 3 f fd ["_law_stream", "_law_many"] (conc K aNames) := by
  refine a_ok F sc__law_names (fun ds s Q E h => ?_) (fun cdv A outer s0 H0 E hr => ?_)
  · obtain ⟨S, L, n, m, rfl, _⟩ := h
    rfl
  · have hu := hu_of hr
    refine ⟨_, (pss_cons (ps_set (i := 2) sc__law_names.nd rfl (Or.inl rfl) (pe_lst pa_nil))
      (pss_cons (ps_for PassesOwn.never rfl (pi_range1 rfl T.m_range (pa_cons (pv 1) pa_nil)) (pg_name (i := 3) sc__law_names.nd rfl (Or.inl rfl)) (pss_one (ps_expr (pe_bm PySem.F.plainAttrs_list PySem.F.slot_list_append PySem.F.type_list_append mt_append (pv 2) (pa_cons (own_call O__law_fresh hr (by first | decide | omega) (pa_cons (pv 0) (pa_cons (pv 2) pa_nil))) pa_nil)))))
      (pss_one (ps_ret (pv 2))))), ?_⟩
    rintro ds s Q E ⟨S, L, n, m, rfl, hS, hn, hm, q⟩
    try simp only [nox_K, cx_K]
    walk_at "g"
    refine g_lstM (g_nil ⟨by decide, fun p hp => ?_⟩)
    have pS : p ≠ S := fun z => by rw [z, hS] at hp; cases hp
    walk_at "g"
    refine ⟨by omega, by omega, ?_⟩
    refine ForW.mk (List.range m) (fun i : Nat => .int (0 + (i : Nat))) (by rw [rng_map]; congr) (fun i γ' s' => ∃ (ts : List Str) (v : Option Dat), γ' = [some (.ref S), some (.int (m : Int)), some (.ref p), v] ∧ ts.length = i ∧ NmsOk ts ∧ s' = supd (supd s S (StrmB S L (n + 12 * i))) p (.raw (.lst (ts.map Dat.str)))) ?_ (fun _ _ _ _ _ => trivial) ?_ ?_
    · refine ⟨[], none, rfl, rfl, ⟨List.nodup_nil, fun _ h => nomatch h⟩, ?_⟩
      rw [Nat.mul_zero, Nat.add_zero, supd_id hS]
      rfl
    · rintro i x γ' s' hx ⟨ts, v, rfl, hl, hok, rfl⟩
      walk_at "g"
      refine ⟨.inl ⟨rfl, _, .inr ⟨p, rfl, supd_same⟩⟩, ?_⟩
      have hi : i < m := by
        have := (List.getElem?_eq_some_iff.mp hx).1
        rw [List.length_range] at this
        exact this
      walk_at "g"
      refine ⟨S, L, n + 12 * i, _, ts, rfl, (by rw [supd_ne pS.symm, supd_same]), by omega, .inr ⟨p, rfl, supd_same⟩, by omega, fun z hz hn2 => ?_⟩
      walk_at "g"
      refine ⟨p, _, _, rfl, rfl, (by rw [supd_ne pS, supd_same]), ?_, ts ++ [z], _, rfl, ?_, ⟨nodup_snoc hok.1 hn2, all_snoc hok.2 hz⟩, ?_⟩
      · rw [List.length_map]
        exact small1000 (by omega)
      · rw [List.length_append, hl]
        rfl
      · rw [List.map_append, Nat.mul_add, ← Nat.add_assoc]
        walk_at "ss"
    · rintro γ' s' ⟨ts, v, rfl, hl, hok, rfl⟩
      rw [List.length_range] at hl ⊢
      refine g_retF rfl supd_same ?_
      have := q ts hl hok
      rw [sdel_supd (by rw [supd_ne pS]; exact hp)]
      exact this
end
end AL
namespace AL
open PySem PySem.Spec PyProof.Rows L2 Ls
/-! ### short steps over data -/
local macro_rules | `(tactic| walk_at "gsq") => `(tactic| first
  | exact .inl rfl | exact .inr (.inl rfl) | exact .inr (.inr (.inl rfl)) | exact .inr (.inr (.inr ⟨_, rfl, by assumption⟩)) | exact .inr ⟨_, rfl, by assumption⟩ | exact .inr rfl)
local macro_rules | `(tactic| walk_at "g1") => `(tactic| first
  | with_reducible refine g_seq ?_
  | with_reducible refine g_ret ?_
  | with_reducible refine g_set ?_
  | with_reducible refine g_if ?_
  | with_reducible refine g_retN ?_
  | with_reducible refine g_drop ?_
  | with_reducible refine g_next ?_
  | with_reducible refine g_par ?_
  | with_reducible refine g_sfld ?_
  | with_reducible refine g_dput ?_
  | with_reducible refine g_ddel ?_
  | with_reducible refine g_setI ?_
  | with_reducible refine g_forW ?_
  | with_reducible refine g_asg ?_
  | with_reducible refine g_var (by with_unfolding_all exact rfl) ?_
  | with_reducible refine g_int ?_
  | with_reducible refine g_str ?_
  | with_reducible refine g_bl ?_
  | with_reducible refine g_non ?_
  | with_reducible refine g_ty ?_
  | with_reducible refine g_test ?_
  | with_reducible refine g_tB ?_
  | with_reducible refine g_tnot ?_
  | with_reducible refine g_cons ?_
  | with_reducible refine g_nil ?_
  | with_reducible refine g_op ro_eq ?_
  | with_reducible refine g_op ro_ne ?_
  | with_reducible refine g_op ro_ixL ?_
  | with_reducible refine g_op ro_ixT ?_
  | with_reducible refine g_op ro_ixS ?_
  | with_reducible refine g_op ro_in ?_
  | with_reducible refine g_op ro_notIn ?_
  | with_reducible refine g_op ro_addS ?_
  | with_reducible refine g_op ro_add ?_
  | with_reducible refine g_op ro_sub ?_
  | with_reducible refine g_op ro_lt ?_
  | with_reducible refine g_op ro_le ?_
  | with_reducible refine g_op ro_gt ?_
  | with_reducible refine g_op ro_ge ?_
  | with_reducible refine g_op ro_isN ?_
  | with_reducible refine g_op ro_notN ?_
  | with_reducible refine g_op ro_inSign ?_
  | with_reducible refine g_op ro_notInSign ?_
  | with_reducible refine g_op ro_leS ?_
  | with_reducible refine g_op ro_ltS ?_
  | with_reducible refine g_op ro_catA ?_
  | with_reducible refine g_op ro_catT ?_
  | with_reducible refine g_op ro_mul ?_
  | with_reducible refine g_op ro_pow ?_
  | with_reducible refine g_op ro_mod ?_
  | with_reducible refine g_op ro_div ?_
  | with_reducible refine g_un uo_neg ?_
  | with_reducible refine g_chain ro_le ro_le ?_
  | with_reducible refine g_chain ro_le ro_lt ?_
  | with_reducible refine g_cb co_len ?_
  | with_reducible refine g_cb co_lenS ?_
  | with_reducible refine g_cb co_lenD ?_
  | with_reducible refine g_cb co_isi ?_
  | with_reducible refine g_cb co_isiT ?_
  | with_reducible refine g_cb co_all ?_
  | with_reducible refine g_cb co_any ?_
  | with_reducible refine g_cb co_int1 ?_
  | with_reducible refine g_cb co_intS ?_
  | with_reducible refine g_cb co_strI ?_
  | with_reducible refine g_cb co_strS ?_
  | with_reducible refine g_cb co_tuple ?_
  | with_reducible refine g_cb co_strU ?_
  | with_reducible refine g_cb co_lenSetK ?_
  | with_reducible refine g_cb co_repr ?_
  | with_reducible refine g_op ro_ixU ?_
  | with_reducible refine g_op ro_eqE ?_
  | with_reducible refine g_op ro_neE ?_
  | with_reducible refine g_op ro_eqSm ?_
  | with_reducible refine g_op ro_neSm ?_
  | with_reducible refine g_op ro_eqSs ?_
  | with_reducible refine g_wseq ?_
  | with_reducible refine g_scW ?_
  | with_reducible refine g_kget ?_
  | with_reducible refine g_m0 mo_isdigit ?_
  | with_reducible refine g_m0 mo_isascii ?_
  | with_reducible refine g_star ?_
  | with_reducible refine g_cb co_sortedS ?_
  | with_reducible refine g_cb co_sortedI ?_
  | with_reducible refine g_fld ?_
  | with_reducible refine g_xf ?_
  | with_reducible refine g_tup ?_
  | with_reducible refine g_dget ?_
  | with_reducible refine g_din ?_
  | with_reducible refine g_dnotin ?_
  | with_reducible refine g_dget1 ?_
  | with_reducible refine g_dget2 ?_
  | with_reducible refine g_call ?_
  | with_reducible refine g_callS ?_
  | with_reducible refine g_meth ?_
  | with_reducible refine g_methR ?_
  | with_reducible refine g_m1 mo_split ?_
  | with_reducible refine g_m1 mo_join ?_
  | with_reducible refine g_bm mo_append ?_
  | with_reducible refine g_bm mo_extend ?_
  | with_reducible refine g_bm mo_popAt ?_
  | with_reducible refine g_bm0 mo_pop ?_
  | with_reducible refine g_sl so_list ?_
  | with_reducible refine g_sl so_str ?_
  | with_reducible refine g_sl so_tupA ?_
  | with_reducible refine g_sl so_tup ?_
  | with_reducible refine g_noPart ?_
  | with_reducible refine g_part ?_
  | with_reducible refine g_lcW ?_
  | with_reducible refine g_wlist ?_
  | with_reducible refine g_wtup ?_
  | with_reducible refine g_wstr ?_
  | with_reducible refine g_wenum ?_
  | with_reducible refine g_wrange1 ?_
  | with_reducible refine g_wrange2 ?_
  | with_reducible refine g_join ?_
  | with_reducible refine g_jcons ?_
  | with_reducible refine g_jnil ?_
  | with_reducible refine g_fmt ?_
  | with_reducible refine g_lenSet ?_
  | with_reducible refine g_raise1 ?_
  | with_reducible refine g_raise2 ?_
  | with_reducible refine g_raise0 ?_
  | with_reducible refine g_yes ?_
  | with_reducible refine g_gcons ?_
  | with_reducible refine g_gnil ?_
  | with_reducible refine g_name (by first | trivial | decide) ?_
  | with_reducible refine ⟨_, rfl, ?_⟩
  | with_reducible refine ⟨_, _, rfl, rfl, ?_⟩)
local macro_rules | `(tactic| walk_at "g") => `(tactic| repeat (walk_at "g1"))

local macro_rules | `(tactic| walk_at "ss") => `(tactic| (funext zz; simp only [supd, sdel]; (repeat' split) <;> first | rfl | (subst_vars; first | rfl | contradiction | (simp_all; done)) | (simp_all; done)))
local macro_rules | `(tactic| walk_at "sp") => `(tactic| first
  | with_reducible assumption
  | exact supd_same
  | exact sdel_same
  | exact Eq.trans (supd_ne (by walk_at "ls_ne")) (by walk_at "sp")
  | exact Eq.trans (sdel_ne (by walk_at "ls_ne")) (by walk_at "sp"))
local macro_rules | `(tactic| walk_at "ls_ne") => `(tactic| first | assumption | exact Ne.symm (by assumption) | exact sne (by assumption) (by assumption) | exact Ne.symm (sne (by assumption) (by assumption)))

structure Gf (mg : Str → Option Value) (tS tL tN : Tok) : Prop where
  STRIKE : mg "STRIKE" = some (.str "strike" tS)
  LETTERS : mg "LETTERS" = some (.str "abcdefghijklmnopqrstuvwxyz" tL)
  LONGEST_NAME : mg "LONGEST_NAME" = some (.int 8 tN)
section
variable {P : Program} {w : World} {K : PySem.W.Frag} {mg : Str → Option Value} {base : Heap}
/-! ### is_name -/
abbrev s_is_name : Stmt := topS 7
theorem sc_is_name : FnScope ["thing", "letter"] ["thing"] (defScope s_is_name) := ⟨rfl, rfl, rfl, by decide +kernel, rfl, by decide +kernel, by decide +kernel⟩
abbrev N_is_name : List Str := ["thing", "letter"]
def aIsName : ASp := fun ds s Q _ => ∃ d, ds = [d] ∧ plainD d = true ∧ shortD d ∧ Q (.bl (nameD d)) s
theorem a_is_name {f : Addr} {fd : FuncData} {tS tL tN : Tok} (F : Fun K "is_name" "is_name" s_is_name f fd) (T : Bt mg) (G : Gf mg tS tL tN) : FnOk P w K mg base CX0 1 f fd ["thing"] (conc K aIsName) := by
  refine a_ok F sc_is_name (fun ds s Q E h => ?_) (fun cdv A outer s0 H0 E hr => ?_)
  · obtain ⟨d, rfl, _⟩ := h
    rfl
  · have hu := hu_of hr
    refine ⟨_, (pss_cons (ps_if (PW.pt (pw_or (pt_not (pt_val (pe_callB call_isi (by rfl) T.m_isinstance (by decide +kernel) (pa_cons (pv 0) (pa_cons (pe_bltn (v := V.ty "str") (by rfl) T.m_str boot_str rfl) pa_nil))))) (pw_or1 (pt_cmpR op_eq (pv 0) (glob_str G.STRIKE) (nomark _))))) (pss_one (ps_ret pe_bl)) pss_nil)
      (pss_one (ps_ret (pe_and (pe_chain op_le op_le pe_int (pe_callB call_len_str (by rfl) T.m_len (by decide +kernel) (pa_cons (pv 0) pa_nil)) (glob_int G.LONGEST_NAME)) (pe_one (pe_callB (cr_all rfl) (by rfl) T.m_all (by decide +kernel) (pa_cons (pe_lc (own := [("letter", 1)]) (g := gName 1) (by rfl) sc_is_name.nd (pi_str (pv 0)) (blkOk_by (own := [("letter", 1)]) (N := N_is_name) (sc := defScope s_is_name) (by decide +kernel)) (fun _ _ _ _ _ => (pg_name (i := 1) sc_is_name.nd rfl (Or.inl rfl) (Or.inr rfl))) (fun _ _ _ _ _ => pts_nil) (fun _ _ _ _ _ => (pe_cmpR op_in_sign (pv 1) (glob_str G.LETTERS) (by rfl)))) pa_nil))))))), ?_⟩
    rintro ds s Q E ⟨d, rfl, hp, hs, q⟩
    try simp only [nox_K, cx_K]
    walk_at "g"
    refine g_tor ?_
    walk_at "g"
    refine ⟨d, _, _, _, rfl, ty_plain hp, kit_str hp, ?_⟩
    refine ⟨_, rfl, fun e => ⟨fun _ => ?_, (fun z => nomatch z)⟩, fun e => ?_⟩
    · walk_at "g"
      have e2 : strQ d = false := by simpa using e
      rw [name_no e2] at q
      exact q
    · have e2 : strQ d = true := by simpa using e
      obtain ⟨z, rfl⟩ := strQ_str e2
      walk_at "g"
      refine ⟨fun e => ?_, fun e => ?_⟩
      · walk_at "g"
        have : nameD (.str z) = false := by show nmB z = false; unfold nmB; rw [e]; rfl
        rw [this] at q
        exact q
      · walk_at "g"
        refine g_and ?_
        walk_at "g"
        refine ⟨Nat.le_trans (hs z rfl) (show 1000000 ≤ sizeLine by decide), _, _, rfl, rfl, _, rfl, fun e2 => ?_, fun e2 => ?_⟩
        · walk_at "g"
          refine ⟨fun e3 => ?_, fun e3 => ?_⟩
          · walk_at "g"
            have l1 : 1 ≤ z.length := by have := of_decide_eq_true e2; omega
            have l8 : z.length ≤ 8 := by have := of_decide_eq_true e3; omega
            refine LcW.map z.cps.toList (fun c => .str ⟨#[c]⟩) (fun c => .bl (letr c)) rfl ?_ trivial (fun c hc => ?_) ?_
            · rw [Array.length_toList]
              exact Nat.lt_of_le_of_lt l8 (by decide)
            · walk_at "g"
              exact ⟨rfl, rfl⟩
            · walk_at "g"
              refine ⟨_, z.cps.toList.map letr, rfl, .inl (by rw [List.map_map]; rfl), ?_⟩
              have : nameD (.str z) = (z.cps.toList.map letr).all id := by
                show nmB z = _
                unfold nmB
                rw [e, decide_eq_true l1, decide_eq_true l8, List.all_map]
                rfl
              rw [this] at q
              exact q
          · have : nameD (.str z) = false := by
              have l8 : ¬ z.length ≤ 8 := fun h => by have := of_decide_eq_false e3; omega
              show nmB z = false
              unfold nmB
              rw [decide_eq_false l8]
              simp
            rw [this] at q
            exact q
        · walk_at "g"
          refine ⟨(fun z => nomatch z), fun _ => ?_⟩
          have : nameD (.str z) = false := by
            have l1 : ¬ 1 ≤ z.length := fun h => by have := of_decide_eq_false e2; omega
            show nmB z = false
            unfold nmB
            rw [decide_eq_false l1]
            simp
          rw [this] at q
          exact q
/-! ### is_number, is_row -/
abbrev s_is_number : Stmt := topS 8
theorem sc_is_number : FnScope ["thing"] ["thing"] (defScope s_is_number) := ⟨rfl, rfl, rfl, by decide +kernel, rfl, by decide +kernel, by decide +kernel⟩
abbrev N_is_number : List Str := ["thing"]
def aIsNum : ASp := fun ds s Q _ => ∃ d, ds = [d] ∧ plainD d = true ∧ Q (.bl (numD d)) s
theorem a_is_number {f : Addr} {fd : FuncData} (F : Fun K "is_number" "is_number" s_is_number f fd) (T : Bt mg) (T4 : BtA mg) : FnOk P w K mg base CX0 1 f fd ["thing"] (conc K aIsNum) := by
  refine a_ok F sc_is_number (fun ds s Q E h => ?_) (fun cdv A outer s0 H0 E hr => ?_)
  · obtain ⟨d, rfl, _⟩ := h
    rfl
  · have hu := hu_of hr
    refine ⟨_, (pss_one (ps_ret (pe_and (pe_callB call_isi (by rfl) T.m_isinstance (by decide +kernel) (pa_cons (pv 0) (pa_cons (pe_bltn (v := V.ty "int") (by rfl) T.m_int boot_int rfl) pa_nil))) (pe_and (pe_not (pe_callB call_isi (by rfl) T.m_isinstance (by decide +kernel) (pa_cons (pv 0) (pa_cons (pe_bltn (v := V.ty "bool") (by rfl) T4.m_bool boot_bool rfl) pa_nil)))) (pe_one (pe_chain op_le op_lt pe_int (pv 0) (pe_op op_pow pe_int pe_int))))))), ?_⟩
    rintro ds s Q E ⟨d, rfl, hp, q⟩
    try simp only [nox_K, cx_K]
    walk_at "g"
    refine g_and ?_
    walk_at "g"
    refine ⟨d, _, _, _, rfl, ty_plain hp, kit_int hp, _, rfl, fun e => ?_, fun e => ?_⟩
    · refine g_and (g_not ?_)
      walk_at "g"
      refine ⟨d, _, _, _, rfl, ty_plain hp, kit_bool hp, _, rfl, _, rfl, fun e2 => ?_, fun e2 => ?_⟩
      · obtain ⟨i, rfl⟩ : ∃ i, d = .int i := by cases d <;> first | exact ⟨_, rfl⟩ | (cases e; done) | (cases e2; done)
        walk_at "g"
        refine ⟨fun e3 => ?_, fun e3 => ?_⟩
        · walk_at "g"
          refine ⟨⟨by decide, by decide, by decide⟩, ?_⟩
          refine ⟨_, _, rfl, rfl, ?_⟩
          have : numD (.int i) = decide (i < 10 ^ Int.toNat 30) := by
            show (decide (0 ≤ i) && decide (i < 10 ^ 30)) = _
            rw [e3, Bool.true_and]
            rfl
          rw [this] at q
          exact q
        · have : numD (.int i) = false := by
            show (decide (0 ≤ i) && decide (i < 10 ^ 30)) = _
            rw [e3, Bool.false_and]
          rw [this] at q
          exact q
      · have : numD d = false := by cases d <;> first | rfl | (cases e; done) | (cases e2; done)
        rw [this] at q
        exact q
    · have : numD d = false := by cases d <;> first | rfl | (cases e; done)
      rw [this] at q
      exact q
abbrev s_is_row : Stmt := topS 9
theorem sc_is_row : FnScope ["thing"] ["thing"] (defScope s_is_row) := ⟨rfl, rfl, rfl, by decide +kernel, rfl, by decide +kernel, by decide +kernel⟩
abbrev N_is_row : List Str := ["thing"]
def aIsRow : ASp := fun ds s Q _ => ∃ d, ds = [d] ∧ plainD d = true ∧ Q (.bl (rowQ d)) s
theorem a_is_row {f : Addr} {fd : FuncData} (F : Fun K "is_row" "is_row" s_is_row f fd) (T : Bt mg) : FnOk P w K mg base CX0 1 f fd ["thing"] (conc K aIsRow) := by
  refine a_ok F sc_is_row (fun ds s Q E h => ?_) (fun cdv A outer s0 H0 E hr => ?_)
  · obtain ⟨d, rfl, _⟩ := h
    rfl
  · have hu := hu_of hr
    refine ⟨_, (pss_one (ps_ret (pe_callB call_isiT (by rfl) T.m_isinstance (by decide +kernel) (pa_cons (pv 0) (pa_cons (pe_tup (pa_cons (pe_bltn (v := V.ty "list") (by rfl) T.m_list boot_list rfl) (pa_cons (pe_bltn (v := V.ty "tuple") (by rfl) T.m_tuple boot_tuple rfl) pa_nil))) pa_nil))))), ?_⟩
    rintro ds s Q E ⟨d, rfl, hp, q⟩
    try simp only [nox_K, cx_K]
    walk_at "g"
    refine ⟨by decide, ?_⟩
    walk_at "g"
    exact ⟨d, _, _, _, rfl, ty_plain hp, kit_row hp, q⟩
end
end AL
namespace AL
open PySem PySem.Spec PyProof.Rows L2 Ls
/-! ### short steps over data -/
local macro_rules | `(tactic| walk_at "gsq") => `(tactic| first
  | exact .inl rfl | exact .inr (.inl rfl) | exact .inr (.inr (.inl rfl)) | exact .inr (.inr (.inr ⟨_, rfl, by assumption⟩)) | exact .inr ⟨_, rfl, by assumption⟩ | exact .inr rfl)
local macro_rules | `(tactic| walk_at "g1") => `(tactic| first
  | with_reducible refine g_seq ?_
  | with_reducible refine g_ret ?_
  | with_reducible refine g_set ?_
  | with_reducible refine g_if ?_
  | with_reducible refine g_retN ?_
  | with_reducible refine g_drop ?_
  | with_reducible refine g_next ?_
  | with_reducible refine g_par ?_
  | with_reducible refine g_sfld ?_
  | with_reducible refine g_dput ?_
  | with_reducible refine g_ddel ?_
  | with_reducible refine g_setI ?_
  | with_reducible refine g_forW ?_
  | with_reducible refine g_asg ?_
  | with_reducible refine g_var (by with_unfolding_all exact rfl) ?_
  | with_reducible refine g_int ?_
  | with_reducible refine g_str ?_
  | with_reducible refine g_bl ?_
  | with_reducible refine g_non ?_
  | with_reducible refine g_ty ?_
  | with_reducible refine g_test ?_
  | with_reducible refine g_tB ?_
  | with_reducible refine g_tnot ?_
  | with_reducible refine g_cons ?_
  | with_reducible refine g_nil ?_
  | with_reducible refine g_op ro_eq ?_
  | with_reducible refine g_op ro_ne ?_
  | with_reducible refine g_op ro_ixL ?_
  | with_reducible refine g_op ro_ixT ?_
  | with_reducible refine g_op ro_ixS ?_
  | with_reducible refine g_op ro_in ?_
  | with_reducible refine g_op ro_notIn ?_
  | with_reducible refine g_op ro_addS ?_
  | with_reducible refine g_op ro_add ?_
  | with_reducible refine g_op ro_sub ?_
  | with_reducible refine g_op ro_lt ?_
  | with_reducible refine g_op ro_le ?_
  | with_reducible refine g_op ro_gt ?_
  | with_reducible refine g_op ro_ge ?_
  | with_reducible refine g_op ro_isN ?_
  | with_reducible refine g_op ro_notN ?_
  | with_reducible refine g_op ro_inSign ?_
  | with_reducible refine g_op ro_notInSign ?_
  | with_reducible refine g_op ro_leS ?_
  | with_reducible refine g_op ro_ltS ?_
  | with_reducible refine g_op ro_catA ?_
  | with_reducible refine g_op ro_catT ?_
  | with_reducible refine g_op ro_mul ?_
  | with_reducible refine g_op ro_pow ?_
  | with_reducible refine g_op ro_mod ?_
  | with_reducible refine g_op ro_div ?_
  | with_reducible refine g_un uo_neg ?_
  | with_reducible refine g_chain ro_le ro_le ?_
  | with_reducible refine g_chain ro_le ro_lt ?_
  | with_reducible refine g_cb co_len ?_
  | with_reducible refine g_cb co_lenS ?_
  | with_reducible refine g_cb co_lenD ?_
  | with_reducible refine g_cb co_isi ?_
  | with_reducible refine g_cb co_isiT ?_
  | with_reducible refine g_cb co_all ?_
  | with_reducible refine g_cb co_any ?_
  | with_reducible refine g_cb co_int1 ?_
  | with_reducible refine g_cb co_intS ?_
  | with_reducible refine g_cb co_strI ?_
  | with_reducible refine g_cb co_strS ?_
  | with_reducible refine g_cb co_tuple ?_
  | with_reducible refine g_cb co_strU ?_
  | with_reducible refine g_cb co_lenSetK ?_
  | with_reducible refine g_cb co_repr ?_
  | with_reducible refine g_op ro_ixU ?_
  | with_reducible refine g_op ro_eqE ?_
  | with_reducible refine g_op ro_neE ?_
  | with_reducible refine g_op ro_eqSm ?_
  | with_reducible refine g_op ro_neSm ?_
  | with_reducible refine g_op ro_eqSs ?_
  | with_reducible refine g_wseq ?_
  | with_reducible refine g_scW ?_
  | with_reducible refine g_kget ?_
  | with_reducible refine g_m0 mo_isdigit ?_
  | with_reducible refine g_m0 mo_isascii ?_
  | with_reducible refine g_star ?_
  | with_reducible refine g_cb co_sortedS ?_
  | with_reducible refine g_cb co_sortedI ?_
  | with_reducible refine g_fld ?_
  | with_reducible refine g_xf ?_
  | with_reducible refine g_tup ?_
  | with_reducible refine g_dget ?_
  | with_reducible refine g_din ?_
  | with_reducible refine g_dnotin ?_
  | with_reducible refine g_dget1 ?_
  | with_reducible refine g_dget2 ?_
  | with_reducible refine g_call ?_
  | with_reducible refine g_callS ?_
  | with_reducible refine g_meth ?_
  | with_reducible refine g_methR ?_
  | with_reducible refine g_m1 mo_split ?_
  | with_reducible refine g_m1 mo_join ?_
  | with_reducible refine g_bm mo_append ?_
  | with_reducible refine g_bm mo_extend ?_
  | with_reducible refine g_bm mo_popAt ?_
  | with_reducible refine g_bm0 mo_pop ?_
  | with_reducible refine g_sl so_list ?_
  | with_reducible refine g_sl so_str ?_
  | with_reducible refine g_sl so_tupA ?_
  | with_reducible refine g_sl so_tup ?_
  | with_reducible refine g_noPart ?_
  | with_reducible refine g_part ?_
  | with_reducible refine g_lcW ?_
  | with_reducible refine g_wlist ?_
  | with_reducible refine g_wtup ?_
  | with_reducible refine g_wstr ?_
  | with_reducible refine g_wenum ?_
  | with_reducible refine g_wrange1 ?_
  | with_reducible refine g_wrange2 ?_
  | with_reducible refine g_join ?_
  | with_reducible refine g_jcons ?_
  | with_reducible refine g_jnil ?_
  | with_reducible refine g_fmt ?_
  | with_reducible refine g_lenSet ?_
  | with_reducible refine g_raise1 ?_
  | with_reducible refine g_raise2 ?_
  | with_reducible refine g_raise0 ?_
  | with_reducible refine g_yes ?_
  | with_reducible refine g_gcons ?_
  | with_reducible refine g_gnil ?_
  | with_reducible refine g_name (by first | trivial | decide) ?_
  | with_reducible refine ⟨_, rfl, ?_⟩
  | with_reducible refine ⟨_, _, rfl, rfl, ?_⟩)
local macro_rules | `(tactic| walk_at "g") => `(tactic| repeat (walk_at "g1"))

local macro_rules | `(tactic| walk_at "ss") => `(tactic| (funext zz; simp only [supd, sdel]; (repeat' split) <;> first | rfl | (subst_vars; first | rfl | contradiction | (simp_all; done)) | (simp_all; done)))
local macro_rules | `(tactic| walk_at "sp") => `(tactic| first
  | with_reducible assumption
  | exact supd_same
  | exact sdel_same
  | exact Eq.trans (supd_ne (by walk_at "ls_ne")) (by walk_at "sp")
  | exact Eq.trans (sdel_ne (by walk_at "ls_ne")) (by walk_at "sp"))
local macro_rules | `(tactic| walk_at "ls_ne") => `(tactic| first | assumption | exact Ne.symm (by assumption) | exact sne (by assumption) (by assumption) | exact Ne.symm (sne (by assumption) (by assumption)))

section
variable {P : Program} {w : World} {K : PySem.W.Frag} {mg : Str → Option Value} {base : Heap}
/-! ### is_owner_pair -/
abbrev s_is_owner_pair : Stmt := topS 11
theorem sc_is_owner_pair : FnScope ["thing"] ["thing"] (defScope s_is_owner_pair) := ⟨rfl, rfl, rfl, by decide +kernel, rfl, by decide +kernel, by decide +kernel⟩
abbrev N_is_owner_pair : List Str := ["thing"]
def aIsPair : ASp := fun ds s Q _ => ∃ d, ds = [d] ∧ Pl 1 d ∧ Q (.bl (pairD d)) s
theorem a_is_pair {f : Addr} {fd : FuncData} (F : Fun K "is_owner_pair" "is_owner_pair" s_is_owner_pair f fd) (T : Bt mg) (O_is_row : Own P w K mg base CX0 1 "is_row" ["thing"] (conc K aIsRow)) (O_is_number : Own P w K mg base CX0 1 "is_number" ["thing"] (conc K aIsNum)) : FnOk P w K mg base CX0 2 f fd ["thing"] (conc K aIsPair) := by
  refine a_ok F sc_is_owner_pair (fun ds s Q E h => ?_) (fun cdv A outer s0 H0 E hr => ?_)
  · obtain ⟨d, rfl, _⟩ := h
    rfl
  · have hu := hu_of hr
    refine ⟨_, (pss_one (ps_ret (pe_and (own_call O_is_row hr (by first | decide | omega) (pa_cons (pv 0) pa_nil)) (pe_and (pe_cmpR op_eq (pe_callB (len_seq K) (by rfl) T.m_len (by decide +kernel) (pa_cons (pv 0) pa_nil)) pe_int (nomark _)) (pe_and (pe_callB call_isi (by rfl) T.m_isinstance (by decide +kernel) (pa_cons (pe_ix (ixU K) (pv 0) pe_int (fun _ _ => rfl)) (pa_cons (pe_bltn (v := V.ty "str") (by rfl) T.m_str boot_str rfl) pa_nil))) (pe_one (own_call O_is_number hr (by first | decide | omega) (pa_cons (pe_ix (ixU K) (pv 0) pe_int (fun _ _ => rfl)) pa_nil)))))))), ?_⟩
    rintro ds s Q E ⟨d, rfl, hp, q⟩
    try simp only [nox_K, cx_K]
    walk_at "g"
    refine g_and ?_
    walk_at "g"
    refine ⟨d, rfl, hp.p, _, rfl, fun e => ?_, fun e => ?_⟩
    · refine g_and ?_
      walk_at "g"
      refine ⟨_, _, rfl, row_seq e, ?_⟩
      walk_at "g"
      refine ⟨fun e2 => ?_, fun e2 => ?_⟩
      · have l2 : (itemsD d).length = 2 := by have := of_decide_eq_true e2; omega
        refine g_and ?_
        walk_at "g"
        refine ⟨_, _, _, row_seq e, rfl, itD_at (i := 0) (by omega), ?_⟩
        walk_at "g"
        refine ⟨_, _, _, _, rfl, ty_plain (hp.it (by omega)).p, kit_str (hp.it (by omega)).p, _, rfl, fun e3 => ?_, fun e3 => ?_⟩
        · walk_at "g"
          refine ⟨_, _, _, row_seq e, rfl, itD_at (i := 1) (by omega), ?_⟩
          walk_at "g"
          refine ⟨_, rfl, (hp.it (by omega)).p, ?_⟩
          have : pairD d = numD (itD d 1) := by unfold pairD; rw [e, decide_eq_true l2, e3]; rfl
          rw [this] at q
          exact q
        · have : pairD d = false := by unfold pairD; rw [e3]; simp
          rw [this] at q
          exact q
      · have l2 : ¬ (itemsD d).length = 2 := fun h => by have := of_decide_eq_false e2; omega
        have : pairD d = false := by unfold pairD; rw [decide_eq_false l2]; simp
        rw [this] at q
        exact q
    · have : pairD d = false := by unfold pairD; rw [e]; rfl
      rw [this] at q
      exact q
/-! ### is_list_of_owners -/
abbrev s_is_list_of_owners : Stmt := topS 10
theorem sc_is_list_of_owners : FnScope ["thing", "pair"] ["thing"] (defScope s_is_list_of_owners) := ⟨rfl, rfl, rfl, by decide +kernel, rfl, by decide +kernel, by decide +kernel⟩
abbrev N_is_list_of_owners : List Str := ["thing", "pair"]
def aIsOwn : ASp := fun ds s Q _ => ∃ d, ds = [d] ∧ Pl 2 d ∧ Q (.bl (ownersD d)) s
theorem a_is_owners {f : Addr} {fd : FuncData} (F : Fun K "is_list_of_owners" "is_list_of_owners" s_is_list_of_owners f fd) (T : Bt mg) (O_is_row : Own P w K mg base CX0 1 "is_row" ["thing"] (conc K aIsRow)) (O_is_owner_pair : Own P w K mg base CX0 2 "is_owner_pair" ["thing"] (conc K aIsPair)) : FnOk P w K mg base CX0 3 f fd ["thing"] (conc K aIsOwn) := by
  refine a_ok F sc_is_list_of_owners (fun ds s Q E h => ?_) (fun cdv A outer s0 H0 E hr => ?_)
  · obtain ⟨d, rfl, _⟩ := h
    rfl
  · have hu := hu_of hr
    refine ⟨_, (pss_cons (ps_if (PW.pt (pw_or (pt_not (pt_val (own_call O_is_row hr (by first | decide | omega) (pa_cons (pv 0) pa_nil)))) (pw_or1 (pt_not (pt_val (pe_callB (cr_all rfl) (by rfl) T.m_all (by decide +kernel) (pa_cons (pe_lc (own := [("pair", 1)]) (g := gName 1) (by rfl) sc_is_list_of_owners.nd (pi_seq (pv 0)) (blkOk_by (own := [("pair", 1)]) (N := N_is_list_of_owners) (sc := defScope s_is_list_of_owners) (by decide +kernel)) (fun _ _ _ _ _ => (pg_name (i := 1) sc_is_list_of_owners.nd rfl (Or.inl rfl) (Or.inr rfl))) (fun _ _ _ _ _ => pts_nil) (fun _ _ _ _ _ => (own_call O_is_owner_pair hr (by first | decide | omega) (pa_cons (pv 1) pa_nil)))) pa_nil))))))) (pss_one (ps_ret pe_bl)) pss_nil)
      (pss_one (ps_ret (pe_cmpR op_eq (pe_callB call_lenSetK (by rfl) T.m_len (by decide +kernel) (pa_cons (pe_scK (own := [("pair", 1)]) (g := gName 1) (by rfl) sc_is_list_of_owners.nd (pi_seq (pv 0)) (blkOk_by (own := [("pair", 1)]) (N := N_is_list_of_owners) (sc := defScope s_is_list_of_owners) (by decide +kernel)) (fun _ _ _ _ _ => (pg_name (i := 1) sc_is_list_of_owners.nd rfl (Or.inl rfl) (Or.inr rfl))) (fun _ _ _ _ _ => pts_nil) (fun _ _ _ _ _ => (pe_ix (ixU K) (pv 1) pe_int (fun _ _ => rfl)))) pa_nil)) (pe_callB (len_seq K) (by rfl) T.m_len (by decide +kernel) (pa_cons (pv 0) pa_nil)) (nomark _))))), ?_⟩
    rintro ds s Q E ⟨d, rfl, hp, q⟩
    try simp only [nox_K, cx_K]
    walk_at "g"
    refine g_tor ?_
    walk_at "g"
    refine ⟨d, rfl, hp.p, _, rfl, fun e => ⟨fun _ => ?_, (fun z => nomatch z)⟩, fun e => ?_⟩
    · walk_at "g"
      have : ownersD d = false := by unfold ownersD; rw [show rowQ d = false by simpa using e]; rfl
      rw [this] at q
      exact q
    · have e1 : rowQ d = true := by simpa using e
      walk_at "g"
      refine ⟨_, row_ref e1, ?_⟩
      refine LcW.map (itemsD d) id (fun x => .bl (pairD x)) (List.map_id _).symm (Nat.lt_trans hp.2.1 (by decide)) trivial (fun x hx => ?_) ?_
      · walk_at "g"
        exact ⟨x, rfl, hp.2.2 x hx, rfl, rfl⟩
      · walk_at "g"
        refine ⟨_, (itemsD d).map pairD, rfl, .inl (by rw [List.map_map]; rfl), ?_⟩
        rw [List.all_map]
        refine ⟨_, rfl, fun e2 => ?_, fun e2 => ?_⟩
        · walk_at "g"
          have : ownersD d = false := by
            have e3 : (itemsD d).all pairD = false := by simpa using e2
            unfold ownersD
            rw [e3]
            simp
          rw [this] at q
          exact q
        · have e3 : (itemsD d).all pairD = true := by simpa using e2
          have each : ∀ x ∈ itemsD d, pairD x = true := List.all_eq_true.mp e3
          walk_at "g"
          refine ⟨_, row_ref e1, ?_⟩
          refine ScW.map (itemsD d) id (fun x => .inr (strOf (itD x 0))) (List.map_id _).symm hp.2.1 trivial (fun x hx => ?_) ?_
          · obtain ⟨p1, p2, p3⟩ := pair_str (each x hx)
            walk_at "g"
            refine ⟨_, _, _, row_seq p1, rfl, itD_at (d := x) (i := 0) (by rw [p2]; decide), ?_⟩
            exact ⟨p3, rfl⟩
          · walk_at "g"
            have l4 : (itemsD d).length < 4000 := hp.2.1
            refine ⟨by rw [List.length_map]; omega, ?_⟩
            walk_at "g"
            refine ⟨_, _, rfl, row_seq e1, ?_⟩
            refine ⟨_, rfl, ?_⟩
            have : ownersD d = decide (((setOf ((itemsD d).map fun x => (Sum.inr (strOf (itD x 0)) : Key))).2 : Int) = (itemsD d).length) := by
              unfold ownersD
              rw [e1, e3, Bool.true_and, Bool.true_and]
              refine decide_eq_decide.mpr ?_
              have h := setOf_nd ((itemsD d).map fun x => (Sum.inr (strOf (itD x 0)) : Key))
              rw [List.length_map] at h
              have e5 : ((itemsD d).map fun x => (Sum.inr (strOf (itD x 0)) : Key)) = ((itemsD d).map fun x => strOf (itD x 0)).map Sum.inr := by rw [List.map_map]; rfl
              have h2 : ((itemsD d).map fun x => (Sum.inr (strOf (itD x 0)) : Key)).Nodup ↔ ((itemsD d).map fun x => strOf (itD x 0)).Nodup := by
                rw [e5]
                exact ⟨fun h => List.Pairwise.of_map Sum.inr (fun a b n z => n (congrArg Sum.inr z)) h, fun h => List.Pairwise.map _ (fun a b n z => n (Sum.inr.inj z)) h⟩
              rw [← h2, ← h]
              omega
            rw [this] at q
            exact q
/-! ### is_deed -/
structure Gd (K : PySem.W.Frag) (w : World) (mg : Str → Option Value) (aL : Addr) : Prop where
  LENGTHS : mg "LENGTHS" = some (.ref aL)
  kLENGTHS : KDI K w aL lengths
abbrev s_is_deed : Stmt := topS 14
theorem sc_is_deed : FnScope ["deed"] ["deed"] (defScope s_is_deed) := ⟨rfl, rfl, rfl, by decide +kernel, rfl, by decide +kernel, by decide +kernel⟩
abbrev N_is_deed : List Str := ["deed"]
def aIsDeed : ASp := fun ds s Q _ => ∃ d, ds = [d] ∧ Pl 3 d ∧ Q (.bl (deedD d)) s
theorem a_is_deed {f : Addr} {fd : FuncData} {aL : Addr} (F : Fun K "is_deed" "is_deed" s_is_deed f fd) (T : Bt mg) (G : Gd K w mg aL) (O_is_row : Own P w K mg base CX0 1 "is_row" ["thing"] (conc K aIsRow)) (O_is_list_of_owners : Own P w K mg base CX0 3 "is_list_of_owners" ["thing"] (conc K aIsOwn)) : FnOk P w K mg base CX0 4 f fd ["deed"] (conc K aIsDeed) := by
  refine a_ok F sc_is_deed (fun ds s Q E h => ?_) (fun cdv A outer s0 H0 E hr => ?_)
  · obtain ⟨d, rfl, _⟩ := h
    rfl
  · have hu := hu_of hr
    refine ⟨_, (pss_cons (ps_if (PW.pt (pw_or (pt_not (pt_val (own_call O_is_row hr (by first | decide | omega) (pa_cons (pv 0) pa_nil)))) (pw_or (pt_cmpR op_eq (pe_callB (len_seq K) (by rfl) T.m_len (by decide +kernel) (pa_cons (pv 0) pa_nil)) pe_int (nomark _)) (pw_or1 (pt_not (pt_val (pe_callB call_isi (by rfl) T.m_isinstance (by decide +kernel) (pa_cons (pe_ix (ixU K) (pv 0) pe_int (fun _ _ => rfl)) (pa_cons (pe_bltn (v := V.ty "str") (by rfl) T.m_str boot_str rfl) pa_nil))))))))) (pss_one (ps_ret pe_bl)) pss_nil)
      (pss_cons (ps_if (pt_cmpR op_ne (pe_kget G.kLENGTHS (glob_ref G.LENGTHS) (pe_ix (ixU K) (pv 0) pe_int (fun _ _ => rfl)) ⟨rfl, by rfl, by rfl, by rfl⟩) (pe_callB (len_seq K) (by rfl) T.m_len (by decide +kernel) (pa_cons (pv 0) pa_nil)) (nomark _)) (pss_one (ps_ret pe_bl)) pss_nil)
      (pss_one (ps_ret (pe_or (pe_cmpR op_ne (pe_ix (ixU K) (pv 0) pe_int (fun _ _ => rfl)) pe_str (nomark _)) (pe_one (own_call O_is_list_of_owners hr (by first | decide | omega) (pa_cons (pe_ix (ixU K) (pv 0) pe_int (fun _ _ => rfl)) pa_nil)))))))), ?_⟩
    rintro ds s Q E ⟨d, rfl, hp, q⟩
    try simp only [nox_K, cx_K]
    walk_at "g"
    refine g_tor ?_
    walk_at "g"
    refine ⟨d, rfl, hp.p, _, rfl, fun e => ⟨fun _ => ?_, (fun z => nomatch z)⟩, fun e => ?_⟩
    · walk_at "g"
      have : deedD d = false := by unfold deedD; rw [show rowQ d = false by simpa using e]; rfl
      rw [this] at q
      exact q
    · have e1 : rowQ d = true := by simpa using e
      refine g_tor ?_
      walk_at "g"
      refine ⟨_, _, rfl, row_seq e1, ?_⟩
      walk_at "g"
      refine ⟨fun e2 => ⟨fun _ => ?_, (fun z => nomatch z)⟩, fun e2 => ?_⟩
      · walk_at "g"
        have l0 : ¬ 0 < (itemsD d).length := by have := of_decide_eq_true e2; omega
        have : deedD d = false := by unfold deedD; rw [decide_eq_false l0]; simp
        rw [this] at q
        exact q
      · have l0 : 0 < (itemsD d).length := by have := of_decide_eq_false e2; omega
        walk_at "g"
        refine ⟨_, _, _, row_seq e1, rfl, itD_at (i := 0) l0, ?_⟩
        walk_at "g"
        refine ⟨_, _, _, _, rfl, ty_plain (hp.it l0).p, kit_str (hp.it l0).p, _, rfl, ⟨fun e3 => ?_, fun e3 => ?_⟩⟩
        · walk_at "g"
          have : deedD d = false := by unfold deedD; rw [show strQ (itD d 0) = false by simpa using e3]; simp
          rw [this] at q
          exact q
        · have e4 : strQ (itD d 0) = true := by simpa using e3
          have e5 := str_of e4
          walk_at "g"
          refine ⟨_, _, _, row_seq e1, rfl, itD_at (i := 0) l0, ?_⟩
          refine ⟨_, e5, ?_⟩
          walk_at "g"
          refine ⟨_, _, rfl, row_seq e1, ?_⟩
          have hl := deed_len (d := d) e1 l0 e4
          refine ⟨_, get_eq, _, rfl, fun e6 => ?_, fun e6 => ?_⟩
          · walk_at "g"
            have : deedD d = false := by rw [hl, show decide (lengths.lookup (strOf (itD d 0)) = some ((itemsD d).length : Int)) = false by simpa using e6]; rfl
            rw [this] at q
            exact q
          · have e7 : decide (lengths.lookup (strOf (itD d 0)) = some ((itemsD d).length : Int)) = true := by simpa using e6
            rw [e7, Bool.true_and] at hl
            walk_at "g"
            refine g_or ?_
            walk_at "g"
            refine ⟨_, _, _, row_seq e1, rfl, itD_at (i := 0) l0, ?_⟩
            rw [e5]
            walk_at "g"
            refine ⟨fun e8 => ?_, fun e8 => ?_⟩
            · rw [e8] at hl
              rw [hl] at q
              exact q
            · walk_at "g"
              have e9 : strOf (itD d 0) = "put" := by simpa using e8
              have l4 : (itemsD d).length = 4 := by
                have h := of_decide_eq_true e7
                rw [e9, put_four] at h
                have := Option.some.inj h
                omega
              refine ⟨_, _, _, row_seq e1, rfl, itD_at (d := d) (i := 3) (by omega), ?_⟩
              walk_at "g"
              refine ⟨_, rfl, hp.it (by omega), ?_⟩
              rw [e8, Bool.false_or] at hl
              rw [hl] at q
              exact q
end
end AL
namespace AL
open PySem PySem.Spec PyProof.Rows L2 Ls
/-! ### runs of digits -/
def digB (c : Nat) : Bool := decide (48 ≤ c) && decide (c ≤ 57)
def runB (n : Nat) : Nat → List Nat → Bool
  | _, [] => true
  | cur, c :: r => if digB c = true then decide (cur < n) && runB n (cur + 1) r else runB n 0 r
theorem runB_mono {n m : Nat} (h : n ≤ m) : ∀ {l : List Nat} {a b : Nat}, a ≤ b → runB n b l = true → runB m a l = true
  | [], _, _, _, _ => rfl
  | c :: r, a, b, hab, q => by
    unfold runB at q ⊢
    by_cases hc : digB c = true
    · rw [if_pos hc] at q ⊢
      rw [Bool.and_eq_true, decide_eq_true_eq] at q ⊢
      exact ⟨by omega, runB_mono h (by omega) q.2⟩
    · rw [if_neg hc] at q ⊢
      exact runB_mono h (Nat.le_refl _) q
theorem runB_one {n : Nat} : ∀ {l : List Nat} {a b : Nat}, a ≤ b + 1 → runB n b l = true → runB (n + 1) a l = true
  | [], _, _, _, _ => rfl
  | c :: r, a, b, hab, q => by
    unfold runB at q ⊢
    by_cases hc : digB c = true
    · rw [if_pos hc] at q ⊢
      rw [Bool.and_eq_true, decide_eq_true_eq] at q ⊢
      exact ⟨by omega, runB_one (by omega) q.2⟩
    · rw [if_neg hc] at q ⊢
      exact runB_one (by omega) q
theorem runB_sep {n s : Nat} (hs : digB s = false) {b : List Nat} : ∀ {a : List Nat} {cur : Nat}, runB n cur (a ++ s :: b) = (runB n cur a && runB n 0 b)
  | [], cur => by
    show (if digB s = true then (decide (cur < n) && runB n (cur + 1) b) else runB n 0 b) = _
    rw [if_neg (by rw [hs]; simp)]
    rfl
  | c :: r, cur => by
    show runB n cur (c :: (r ++ s :: b)) = _
    rw [runB, runB]
    by_cases hc : digB c = true
    · rw [if_pos hc, if_pos hc, runB_sep hs, Bool.and_assoc]
    · rw [if_neg hc, if_neg hc, runB_sep hs]
theorem runB_left {n : Nat} {b : List Nat} : ∀ {a : List Nat} {cur : Nat}, runB n cur (a ++ b) = true → runB n cur a = true
  | [], _, _ => rfl
  | c :: r, cur, q => by
    have q : runB n cur (c :: (r ++ b)) = true := q
    rw [runB] at q ⊢
    by_cases hc : digB c = true
    · rw [if_pos hc] at q ⊢
      rw [Bool.and_eq_true] at q ⊢
      exact ⟨q.1, runB_left q.2⟩
    · rw [if_neg hc] at q ⊢
      exact runB_left q
theorem runB_right {n : Nat} {b : List Nat} : ∀ {a : List Nat} {cur : Nat}, runB n cur (a ++ b) = true → runB n 0 b = true
  | [], _, q => runB_mono (Nat.le_refl _) (Nat.zero_le _) q
  | c :: r, cur, q => by
    have q : runB n cur (c :: (r ++ b)) = true := q
    rw [runB] at q
    by_cases hc : digB c = true
    · rw [if_pos hc, Bool.and_eq_true] at q
      exact runB_right q.2
    · rw [if_neg hc] at q
      exact runB_right q
theorem runB_ins {n x : Nat} {b : List Nat} : ∀ {a : List Nat} {cur : Nat}, cur ≤ n → runB n cur (a ++ b) = true → runB (n + 1) cur (a ++ x :: b) = true
  | [], cur, hc, q => by
    have q : runB n cur b = true := q
    show runB (n + 1) cur (x :: b) = true
    rw [runB]
    by_cases hx : digB x = true
    · rw [if_pos hx, Bool.and_eq_true, decide_eq_true_eq]
      exact ⟨by omega, runB_one (Nat.le_refl _) q⟩
    · rw [if_neg hx]
      exact runB_one (by omega) q
  | c :: r, cur, hcu, q => by
    have q : runB n cur (c :: (r ++ b)) = true := q
    show runB (n + 1) cur (c :: (r ++ x :: b)) = true
    rw [runB] at q ⊢
    by_cases hc : digB c = true
    · rw [if_pos hc] at q ⊢
      rw [Bool.and_eq_true, decide_eq_true_eq] at q ⊢
      exact ⟨by omega, runB_ins (by omega) q.2⟩
    · rw [if_neg hc] at q ⊢
      exact runB_ins (Nat.zero_le _) q
theorem runB_all {n : Nat} : ∀ {l : List Nat} {cur : Nat}, (∀ c ∈ l, digB c = true) → runB n cur l = true → l = [] ∨ cur + l.length ≤ n
  | [], _, _, _ => .inl rfl
  | c :: r, cur, h, q => by
    rw [runB, if_pos (h c (.head _)), Bool.and_eq_true, decide_eq_true_eq] at q
    right
    rcases runB_all (fun x hx => h x (.tail _ hx)) q.2 with h2 | h2
    · rw [h2, List.length_singleton]
      omega
    · rw [List.length_cons]
      omega
/-! ### joined words -/
theorem runB_join {n : Nat} : ∀ {ps : List (List Nat)}, (∀ p ∈ ps, runB n 0 p = true) → runB n 0 (TL.joinL [32] ps) = true
  | [], _ => rfl
  | [p], h => h p (.head _)
  | p :: q :: r, h => by
    show runB n 0 (p ++ 32 :: TL.joinL [32] (q :: r)) = true
    rw [runB_sep (by decide), h p (.head _), runB_join fun x hx => h x (.tail _ hx)]
    rfl
theorem joinL_mem {s : List Nat} : ∀ {ps : List (List Nat)} {p : List Nat}, p ∈ ps → ∃ a b, TL.joinL s ps = a ++ (p ++ b)
  | [], _, h => nomatch h
  | [q], p, h => by
    rw [List.mem_singleton.mp h]
    exact ⟨[], [], by simp [TL.joinL]⟩
  | q :: q2 :: r, p, h => by
    rcases List.mem_cons.mp h with rfl | h
    · exact ⟨[], s ++ TL.joinL s (q2 :: r), rfl⟩
    · obtain ⟨a, b, e⟩ := joinL_mem (s := s) h
      exact ⟨q ++ (s ++ a), b, by show q ++ (s ++ TL.joinL s (q2 :: r)) = _; rw [e]; simp [List.append_assoc]⟩
theorem joinL_cnt : ∀ {ps : List (List Nat)}, ps ≠ [] → (TL.joinL [32] ps).count 32 + 1 = (ps.map (·.count 32)).sum + ps.length
  | [], h => absurd rfl h
  | [p], _ => by simp [TL.joinL]
  | p :: q :: r, _ => by
    have ih := joinL_cnt (ps := q :: r) (by simp)
    show (p ++ 32 :: TL.joinL [32] (q :: r)).count 32 + 1 = _
    rw [List.count_append, List.count_cons_self, List.map_cons, List.sum_cons, List.length_cons]
    omega
theorem joinL_len : ∀ {ps : List (List Nat)}, ps ≠ [] → (TL.joinL [32] ps).length + 1 = (ps.map (·.length)).sum + ps.length
  | [], h => absurd rfl h
  | [p], _ => by simp [TL.joinL]
  | p :: q :: r, _ => by
    have ih := joinL_len (ps := q :: r) (by simp)
    show (p ++ 32 :: TL.joinL [32] (q :: r)).length + 1 = _
    rw [List.length_append, List.length_cons, List.map_cons, List.sum_cons, List.length_cons]
    omega
theorem joinL_all {s : List Nat} {P : Nat → Prop} (hs : ∀ c ∈ s, P c) : ∀ {ps : List (List Nat)}, (∀ p ∈ ps, ∀ c ∈ p, P c) → ∀ c ∈ TL.joinL s ps, P c
  | [], _, c, h => nomatch h
  | [p], h, c, hc => h p (.head _) c hc
  | p :: q :: r, h, c, hc => by
    have hc : c ∈ p ++ (s ++ TL.joinL s (q :: r)) := hc
    rcases List.mem_append.mp hc with hc | hc
    · exact h p (.head _) c hc
    · rcases List.mem_append.mp hc with hc | hc
      · exact hs c hc
      · exact joinL_all hs (fun x hx => h x (.tail _ hx)) c hc
def cs (z : Str) : List Nat := z.cps.toList
theorem cs_join (s : Str) (ws : List Str) : cs (Txt.join s ws) = TL.joinL (cs s) (ws.map cs) := by
  rw [TL.join_eq]
  exact TL.tl_join s ws
theorem cs_app (a b : Str) : cs (a ++ b) = cs a ++ cs b := TL.tl_append a b
theorem cs_len (z : Str) : z.length = (cs z).length := (Array.length_toList).symm
theorem cs_inj {a b : Str} (h : cs a = cs b) : a = b := TL.ext_tl h
theorem split_sp (z : Str) : Txt.join " " (Txt.split z " ") = z := by
  rw [TL.join_eq]
  exact PySem.StrLaws.join_split z " "
theorem split_eq (z : Str) : Txt.join "=" (Txt.split z "=") = z := by
  rw [TL.join_eq]
  exact PySem.StrLaws.join_split z "="
theorem sp_free {z p : Str} (h : p ∈ Txt.split z " ") : 32 ∉ cs p := PySem.StrLaws.split_free z 32 p h
theorem split_ne (z s : Str) : Txt.split z s ≠ [] := fun e => by
  have := (PyProof.Rows.fact_split z s).1
  rw [e] at this
  exact absurd this (by decide)
theorem cs_sp : cs " " = [32] := by decide +kernel
theorem cs_eq : cs "=" = [61] := by decide +kernel
theorem split_infix {z s p : Str} (h : p ∈ Txt.split z s) : ∃ a b, cs z = a ++ (cs p ++ b) := by
  have e : cs z = TL.joinL (cs s) ((Txt.split z s).map cs) := by
    rw [← cs_join, TL.join_eq, PySem.StrLaws.join_split]
  rw [e]
  exact joinL_mem (List.mem_map_of_mem h)
end AL
namespace AL
open PySem PySem.Spec PyProof.Rows L2 Ls
/-! ### words, things -/
def numS (z : Str) : Bool := !decide (z = "") && ((cs z).all digB && (decide (z = "0") || !decide ((cs z).head? = some 48)))
def thingOf (z : Str) : Dat := if numS z = true then .int (PySem.NumText.digitsVal (cs z) : Nat) else if z = "-" then .non else .str z
/-- a word of a line -/
structure WOkS (z : Str) : Prop where
  asc : ∀ c ∈ cs z, c < 128
  run : runB 30 0 (cs z) = true
  len : z.length ≤ 3000
theorem digitsVal_lt : ∀ (n : Nat) (l : List Nat), l.length = n → (∀ c ∈ l, digB c = true) → PySem.NumText.digitsVal l < 10 ^ n := by
  intro n
  induction n with
  | zero =>
    intro l h _
    have : l = [] := List.length_eq_zero_iff.mp h
    subst this
    decide
  | succ n ih =>
    intro l h hd
    obtain ⟨r, a, rfl⟩ : ∃ r a, l = r ++ [a] := ⟨l.dropLast, l.getLast (fun z => by rw [z] at h; cases h), (List.dropLast_concat_getLast _).symm⟩
    have hl : r.length = n := by rw [List.length_append, List.length_singleton] at h; omega
    have h1 := ih r hl fun c hc => hd c (List.mem_append_left _ hc)
    have h2 := hd a (by simp)
    unfold digB at h2
    rw [Bool.and_eq_true, decide_eq_true_eq, decide_eq_true_eq] at h2
    rw [PySem.NumText.digitsVal_snoc, Nat.pow_succ]
    omega
theorem numS_all {z : Str} (h : numS z = true) : z ≠ "" ∧ (∀ c ∈ cs z, digB c = true) := by
  unfold numS at h
  rw [Bool.and_eq_true, Bool.and_eq_true, List.all_eq_true] at h
  exact ⟨by simpa using h.1, h.2.1⟩
theorem cs_nil {z : Str} (h : cs z = []) : z = "" := cs_inj (h.trans (by decide +kernel))
theorem num_lt {z : Str} (w : WOkS z) (h : numS z = true) : PySem.NumText.digitsVal (cs z) < 10 ^ 30 := by
  obtain ⟨hn, hd⟩ := numS_all h
  have h1 := digitsVal_lt _ (cs z) rfl hd
  rcases runB_all hd w.run with h2 | h2
  · exact absurd (cs_nil h2) hn
  · exact Nat.lt_of_lt_of_le h1 (Nat.pow_le_pow_right (by decide) (by omega))
theorem letr_no {c : Nat} (h : digB c = true) : letr c = false := by
  unfold digB at h
  rw [Bool.and_eq_true, decide_eq_true_eq, decide_eq_true_eq] at h
  unfold letr
  refine decide_eq_false fun hm => ?_
  rw [abc_cs] at hm
  rw [List.mem_range'_1] at hm
  omega
theorem nmB_num {z : Str} (h : numS z = true) : nmB z = false := by
  obtain ⟨hn, hd⟩ := numS_all h
  cases e : cs z with
  | nil => exact absurd (cs_nil e) hn
  | cons c r =>
    have h1 : letr c = false := letr_no (hd c (by rw [e]; exact .head _))
    unfold nmB
    have : (z.cps.toList.all letr) = false := by
      show (cs z).all letr = false
      rw [e, List.all_cons, h1]
      rfl
    rw [this]
    simp
theorem nmB_dash : nmB "-" = false := by decide +kernel
theorem numS_dash : numS "-" = false := by decide +kernel
theorem name_thing (z : Str) : nameD (thingOf z) = nmB z := by
  unfold thingOf
  by_cases h : numS z = true
  · rw [if_pos h, nmB_num h]
    rfl
  · rw [if_neg h]
    by_cases h2 : z = "-"
    · rw [if_pos h2, h2, nmB_dash]
      rfl
    · rw [if_neg h2]
      rfl
theorem numD_nat {n : Nat} (h : n < 10 ^ 30) : numD (.int (n : Nat)) = true := by
  unfold numD
  dsimp only
  rw [Bool.and_eq_true, decide_eq_true_eq, decide_eq_true_eq]
  refine ⟨Int.natCast_nonneg _, ?_⟩
  have e : ((10 : Int) ^ 30) = ((10 ^ 30 : Nat) : Int) := by norm_cast
  rw [e]
  exact Int.ofNat_lt.mpr h
theorem num_thing {z : Str} (w : WOkS z) : numD (thingOf z) = numS z := by
  unfold thingOf
  by_cases h : numS z = true
  · rw [if_pos h, h]
    have := num_lt w h
    exact numD_nat this
  · rw [if_neg h, show numS z = false by simpa using h]
    by_cases h2 : z = "-"
    · rw [if_pos h2]
      rfl
    · rw [if_neg h2]
      rfl
theorem str_thing {z : Str} (h : strQ (thingOf z) = true) : thingOf z = .str z := by
  unfold thingOf at h ⊢
  by_cases h1 : numS z = true
  · rw [if_pos h1] at h
    cases h
  · rw [if_neg h1] at h ⊢
    by_cases h2 : z = "-"
    · rw [if_pos h2] at h
      cases h
    · rw [if_neg h2]
theorem nm_str {z : Str} (h : nmB z = true) : thingOf z = .str z := by
  refine str_thing ?_
  have : nameD (thingOf z) = true := by rw [name_thing, h]
  cases e : thingOf z <;> rw [e] at this <;> first | rfl | (cases this; done)
theorem thing_pl {n : Nat} {z : Str} (w : WOkS z) : Pl n (thingOf z) := by
  have h0 : plainD (thingOf z) = true ∧ shortD (thingOf z) := by
    unfold thingOf
    split
    · exact ⟨rfl, fun z h => by cases h⟩
    · split
      · exact ⟨rfl, fun z h => by cases h⟩
      · exact ⟨rfl, fun z h => by cases h; exact Nat.le_trans w.len (by decide)⟩
  cases n with
  | zero => exact h0
  | succ n =>
    refine ⟨h0, ?_⟩
    have : itemsD (thingOf z) = [] := by
      unfold thingOf
      split
      · rfl
      · split <;> rfl
    rw [this]
    exact ⟨by decide, fun x h => nomatch h⟩
end AL
namespace AL
open PySem PySem.Spec PyProof.Rows L2 Ls
/-! ### lines of deeds -/
def pieces : List Str := ["spread", "clear", "fell"]
def pieceS (z : Str) : Bool := decide ((Txt.split z " ").length = 2) && (decide ((Txt.split z " ").getD 0 "" ∈ pieces) && nmB ((Txt.split z " ").getD 1 ""))
def pieceD : Dat → Bool | .str z => pieceS z | _ => false
def listD (d : Dat) : Bool := rowQ d && (decide (0 < (itemsD d).length) && (itemsD d).all numD)
def nonQ : Dat → Bool | .non => true | _ => false
def hasLineD (d : Dat) : Bool := deedD d && (if strOf (itD d 0) = "do" ∨ strOf (itD d 0) = "stop" then numD (itD d 1) else if strOf (itD d 0) = "look" then numD (itD d 1) && (pieceD (itD d 2) && listD (itD d 3)) else
  (nameD (itD d 1) && numD (itD d 2)) && (if strOf (itD d 0) = "put" then (itemsD (itD d 3)).all (fun p => nameD (itD p 0)) else decide (strOf (itD d 0) = "strike") || (nameD (itD d 3) && (nonQ (itD d 4) || numD (itD d 4)))))
def ownerOf (w : Str) : Dat := .tup ((Txt.split w "=").map thingOf)
def deedOf (ws : List Str) : Dat :=
  if ws.getD 0 "" = "put" then .tup ((ws.take 3).map thingOf ++ [.tup ((ws.drop 3).map ownerOf)])
  else if ws.getD 0 "" = "look" then .tup ((ws.take 2).map thingOf ++ [.str (Txt.join " " ((ws.drop 2).take 2)), .tup ((ws.drop 4).map thingOf)])
  else .tup (ws.map thingOf)
def ownerS (w : Str) : Bool := decide ((Txt.split w "=").length = 2) && (nmB ((Txt.split w "=").getD 0 "") && numS ((Txt.split w "=").getD 1 ""))
def ownersOk (ws : List Str) : Bool := ws.all ownerS && decide ((ws.map fun w => (Txt.split w "=").getD 0 "").Nodup)
def lineOk (ws : List Str) : Bool :=
  if ws.getD 0 "" = "do" ∨ ws.getD 0 "" = "stop" then decide (ws.length = 2) && numS (ws.getD 1 "")
  else if ws.getD 0 "" = "look" then (decide (5 ≤ ws.length) && (decide (ws.getD 2 "" ∈ pieces) && nmB (ws.getD 3 ""))) && (ws.getD 1 "" :: ws.drop 4).all numS
  else (decide (3 ≤ ws.length) && (nmB (ws.getD 1 "") && numS (ws.getD 2 ""))) && (if ws.getD 0 "" = "put" then ownersOk (ws.drop 3)
    else if ws.getD 0 "" = "turn" then decide (ws.length = 5) && (nmB (ws.getD 3 "") && (decide (ws.getD 4 "" = "-") || numS (ws.getD 4 "")))
    else decide (ws.getD 0 "" = "strike") && decide (ws.length = 3))
theorem look_do : lengths.lookup ("do" : Str) = some 2 := by decide +kernel
theorem look_stop : lengths.lookup ("stop" : Str) = some 2 := by decide +kernel
theorem look_look : lengths.lookup ("look" : Str) = some 4 := by decide +kernel
theorem look_turn : lengths.lookup ("turn" : Str) = some 5 := by decide +kernel
theorem look_strike : lengths.lookup ("strike" : Str) = some 3 := by decide +kernel
theorem look_other {z : Str} (h1 : z ≠ "put") (h2 : z ≠ "turn") (h3 : z ≠ "strike") (h4 : z ≠ "look") (h5 : z ≠ "do") (h6 : z ≠ "stop") : lengths.lookup z = none := by
  unfold lengths
  rw [List.lookup_cons, beq_false_of_ne h1, List.lookup_cons, beq_false_of_ne h2, List.lookup_cons, beq_false_of_ne h3, List.lookup_cons, beq_false_of_ne h4, List.lookup_cons, beq_false_of_ne h5, List.lookup_cons, beq_false_of_ne h6]
  rfl
theorem deed_tup {x : Dat} {xs : List Dat} {z : Str} (hx : x = .str z) : deedD (.tup (x :: xs)) = (decide (lengths.lookup z = some ((xs.length + 1 : Nat) : Int)) && (!decide (z = "put") || ownersD (xs.getD 2 .non))) := by
  subst hx
  have := deed_len (d := .tup (.str z :: xs)) rfl (by show 0 < xs.length + 1; omega) rfl
  exact this
theorem has_str {x : Dat} {xs : List Dat} {z : Str} (hx : x = .str z) : hasLineD (.tup (x :: xs)) = ((decide (lengths.lookup z = some ((xs.length + 1 : Nat) : Int)) && (!decide (z = "put") || ownersD (xs.getD 2 .non))) &&
    (if z = "do" ∨ z = "stop" then numD (xs.getD 0 .non) else if z = "look" then numD (xs.getD 0 .non) && (pieceD (xs.getD 1 .non) && listD (xs.getD 2 .non)) else
  (nameD (xs.getD 0 .non) && numD (xs.getD 1 .non)) && (if z = "put" then (itemsD (xs.getD 2 .non)).all (fun p => nameD (itD p 0)) else decide (z = "strike") || (nameD (xs.getD 2 .non) && (nonQ (xs.getD 3 .non) || numD (xs.getD 3 .non)))))) := by
  unfold hasLineD
  rw [deed_tup hx]
  subst hx
  rfl
theorem thing_do : thingOf "do" = .str "do" := nm_str (by decide +kernel)
theorem thing_stop : thingOf "stop" = .str "stop" := nm_str (by decide +kernel)
theorem thing_look : thingOf "look" = .str "look" := nm_str (by decide +kernel)
theorem thing_turn : thingOf "turn" = .str "turn" := nm_str (by decide +kernel)
theorem thing_put : thingOf "put" = .str "put" := nm_str (by decide +kernel)
theorem thing_strike : thingOf "strike" = .str "strike" := by
  unfold thingOf
  rw [if_neg (by decide +kernel), if_neg (by decide +kernel)]
theorem len_eq {a b : Nat} : decide (some (a : Int) = some ((b : Nat) : Int)) = decide (a = b) := decide_eq_decide.mpr ⟨fun h => by have := Option.some.inj h; omega, fun h => by rw [h]⟩
theorem gd0 {z : Str} {r : List Str} : (z :: r).getD 0 "" = z := rfl
theorem line_do {z : Str} (hz : z = "do" ∨ z = "stop") {r : List Str} (w : ∀ x ∈ r, WOkS x) : hasLineD (deedOf (z :: r)) = lineOk (z :: r) := by
  have h0 : deedOf (z :: r) = .tup (thingOf z :: r.map thingOf) := by
    unfold deedOf
    rw [gd0, if_neg (show ¬ z = "put" by rcases hz with rfl | rfl <;> decide +kernel), if_neg (show ¬ z = "look" by rcases hz with rfl | rfl <;> decide +kernel)]
    rfl
  have h1 : thingOf z = .str z := by rcases hz with rfl | rfl <;> first | exact thing_do | exact thing_stop
  have h2 : lengths.lookup z = some ((2 : Nat) : Int) := by rcases hz with rfl | rfl <;> first | exact look_do | exact look_stop
  have h3 : ¬ z = "put" := by rcases hz with rfl | rfl <;> decide +kernel
  rw [h0, has_str h1, h2, len_eq, decide_eq_false h3, if_pos hz, List.length_map]
  unfold lineOk
  rw [gd0, if_pos hz]
  match r, w with
  | [], _ => rfl
  | [a], w =>
    show ((decide (2 = 1 + 1) && (!false || ownersD ((List.map thingOf [a]).getD 2 Dat.non))) && numD (thingOf a)) = (decide (2 = 2) && numS a)
    rw [num_thing (w a (.head _))]
    simp
  | a :: b :: q, w =>
    rw [decide_eq_false (by rw [List.length_cons, List.length_cons]; omega), decide_eq_false (by rw [List.length_cons, List.length_cons, List.length_cons]; omega)]
    rfl
theorem line_turn {r : List Str} (w : ∀ x ∈ r, WOkS x) : hasLineD (deedOf ("turn" :: r)) = lineOk ("turn" :: r) := by
  have h0 : deedOf ("turn" :: r) = .tup (thingOf "turn" :: r.map thingOf) := by
    unfold deedOf
    rw [gd0, if_neg (by decide +kernel), if_neg (by decide +kernel)]
    rfl
  rw [h0, has_str thing_turn, look_turn, List.length_map]
  unfold lineOk
  rw [gd0, if_neg (show ¬ (("turn" : Str) = "do" ∨ ("turn" : Str) = "stop") by decide +kernel), if_neg (show ¬ (("turn" : Str) = "look") by decide +kernel), if_neg (show ¬ (("turn" : Str) = "put") by decide +kernel), if_neg (show ¬ (("turn" : Str) = "do" ∨ ("turn" : Str) = "stop") by decide +kernel), if_neg (show ¬ (("turn" : Str) = "look") by decide +kernel), if_neg (show ¬ (("turn" : Str) = "put") by decide +kernel), if_pos (show ("turn" : Str) = "turn" from rfl), decide_eq_false (show ¬ (("turn" : Str) = "put") by decide +kernel), decide_eq_false (show ¬ (("turn" : Str) = "strike") by decide +kernel)]
  rw [show (some (5 : Int)) = some ((5 : Nat) : Int) from rfl, len_eq]
  by_cases h5 : r.length = 4
  · match r, h5, w with
    | [a, b, c, d], _, w =>
      have e4 : (nonQ (thingOf d) || numD (thingOf d)) = (decide (d = "-") || numS d) := by
        rw [num_thing (w d (by simp))]
        by_cases hd : d = "-"
        · subst hd
          rfl
        · have : nonQ (thingOf d) = false := by
            unfold thingOf
            split <;> rfl
          rw [this, decide_eq_false hd]
      show ((decide (5 = 4 + 1) && (!false || _)) && ((nameD (thingOf a) && numD (thingOf b)) && (false || (nameD (thingOf c) && (nonQ (thingOf d) || numD (thingOf d)))))) = ((decide (3 ≤ 5) && (nmB a && numS b)) && (decide (5 = 5) && (nmB c && (decide (d = "-") || numS d))))
      rw [e4, name_thing, name_thing, num_thing (w b (by simp))]
      simp
  · rw [decide_eq_false (by omega : ¬ 5 = r.length + 1), decide_eq_false (by rw [List.length_cons]; omega : ¬ (("turn" : Str) :: r).length = 5)]
    simp
theorem line_strike {r : List Str} (w : ∀ x ∈ r, WOkS x) : hasLineD (deedOf ("strike" :: r)) = lineOk ("strike" :: r) := by
  have h0 : deedOf ("strike" :: r) = .tup (thingOf "strike" :: r.map thingOf) := by
    unfold deedOf
    rw [gd0, if_neg (by decide +kernel), if_neg (by decide +kernel)]
    rfl
  rw [h0, has_str thing_strike, look_strike, List.length_map]
  unfold lineOk
  rw [gd0, if_neg (show ¬ (("strike" : Str) = "do" ∨ ("strike" : Str) = "stop") by decide +kernel), if_neg (show ¬ (("strike" : Str) = "look") by decide +kernel), if_neg (show ¬ (("strike" : Str) = "put") by decide +kernel), if_neg (show ¬ (("strike" : Str) = "do" ∨ ("strike" : Str) = "stop") by decide +kernel), if_neg (show ¬ (("strike" : Str) = "look") by decide +kernel), if_neg (show ¬ (("strike" : Str) = "put") by decide +kernel), if_neg (show ¬ ("strike" : Str) = "turn" by decide +kernel), decide_eq_false (show ¬ (("strike" : Str) = "put") by decide +kernel), decide_eq_true (show (("strike" : Str) = "strike") from rfl)]
  rw [show (some (3 : Int)) = some ((3 : Nat) : Int) from rfl, len_eq]
  by_cases h5 : r.length = 2
  · match r, h5, w with
    | [a, b], _, w =>
      show ((decide (3 = 2 + 1) && (!false || _)) && ((nameD (thingOf a) && numD (thingOf b)) && (true || _))) = ((decide (3 ≤ 3) && (nmB a && numS b)) && (true && decide (3 = 3)))
      rw [name_thing, num_thing (w b (by simp))]
      simp
  · rw [decide_eq_false (by omega : ¬ 3 = r.length + 1), decide_eq_false (by rw [List.length_cons]; omega : ¬ (("strike" : Str) :: r).length = 3)]
    simp
theorem getD_lt {ws : List Str} {i : Nat} (h : i < ws.length) : ws.getD i "" ∈ ws := by
  rw [List.getD_eq_getElem?_getD, List.getElem?_eq_getElem h]
  exact List.getElem_mem h
theorem owner_part {x p : Str} (w : WOkS x) (h : p ∈ Txt.split x "=") : WOkS p := by
  obtain ⟨a, b, e⟩ := split_infix h
  refine ⟨fun c hc => w.asc c ?_, ?_, Nat.le_trans (PyProof.Rows.part_short h) w.len⟩
  · rw [e]
    exact List.mem_append_right _ (List.mem_append_left _ hc)
  · have := w.run
    rw [e] at this
    exact runB_left (runB_right this)
theorem owner_pair {x : Str} (w : WOkS x) : (pairD (ownerOf x) && nameD (itD (ownerOf x) 0)) = ownerS x := by
  unfold ownerOf ownerS pairD
  generalize hs : Txt.split x "=" = ps
  have wp : ∀ p ∈ ps, WOkS p := fun p hp => owner_part w (by rw [hs]; exact hp)
  match ps, wp with
  | [], _ => rfl
  | [a], _ => rfl
  | [a, b], wp =>
    show ((true && (decide (2 = 2) && (strQ (thingOf a) && numD (thingOf b)))) && nameD (thingOf a)) = (decide (2 = 2) && (nmB a && numS b))
    rw [name_thing, num_thing (wp b (by simp))]
    cases hn : nmB a with
    | true =>
      rw [nm_str hn]
      simp [strQ]
    | false => simp
  | a :: b :: c :: q, wp =>
    have e1 : decide ((itemsD (Dat.tup ((a :: b :: c :: q).map thingOf))).length = 2) = false := decide_eq_false (by show ¬ ((a :: b :: c :: q).map thingOf).length = 2; rw [List.length_map]; simp)
    have e2 : decide ((a :: b :: c :: q).length = 2) = false := decide_eq_false (by simp)
    rw [e1, e2]
    simp
theorem owners_same {r : List Str} (w : ∀ x ∈ r, WOkS x) : (ownersD (.tup (r.map ownerOf)) && (r.map ownerOf).all (fun p => nameD (itD p 0))) = ownersOk r := by
  have e1 : ((r.map ownerOf).all pairD && (r.map ownerOf).all (fun p => nameD (itD p 0))) = r.all ownerS := by
    rw [Bool.eq_iff_iff, Bool.and_eq_true, List.all_eq_true, List.all_eq_true, List.all_eq_true]
    constructor
    · rintro ⟨h1, h2⟩ x hx
      rw [← owner_pair (w x hx), h1 _ (List.mem_map_of_mem hx), h2 _ (List.mem_map_of_mem hx)]
      rfl
    · intro h
      constructor
      · intro p hp
        obtain ⟨x, hx, rfl⟩ := List.mem_map.mp hp
        have := h x hx
        rw [← owner_pair (w x hx), Bool.and_eq_true] at this
        exact this.1
      · intro p hp
        obtain ⟨x, hx, rfl⟩ := List.mem_map.mp hp
        have := h x hx
        rw [← owner_pair (w x hx), Bool.and_eq_true] at this
        exact this.2
  unfold ownersOk
  rw [← e1]
  show ((true && ((r.map ownerOf).all pairD && decide (((r.map ownerOf).map fun x => strOf (itD x 0)).Nodup))) && (r.map ownerOf).all fun p => nameD (itD p 0)) = _
  rw [Bool.true_and]
  cases hp : (r.map ownerOf).all pairD with
  | false => simp
  | true =>
    cases hn : (r.map ownerOf).all (fun p => nameD (itD p 0)) with
    | false => simp
    | true =>
      have e2 : ((r.map ownerOf).map fun x => strOf (itD x 0)) = r.map fun w => (Txt.split w "=").getD 0 "" := by
        rw [List.map_map]
        refine List.map_congr_left fun x hx => ?_
        have h1 : pairD (ownerOf x) = true := List.all_eq_true.mp hp _ (List.mem_map_of_mem hx)
        have h2 : nameD (itD (ownerOf x) 0) = true := List.all_eq_true.mp hn _ (List.mem_map_of_mem hx)
        show strOf (itD (ownerOf x) 0) = _
        unfold ownerOf at h1 h2 ⊢
        generalize Txt.split x "=" = ps at h1 h2 ⊢
        match ps with
        | [] => cases h1
        | a :: q =>
          have h3 : nameD (thingOf a) = true := h2
          rw [name_thing] at h3
          show strOf (thingOf a) = a
          rw [nm_str h3]
          rfl
      rw [e2]
      simp
theorem line_put {r : List Str} (w : ∀ x ∈ r, WOkS x) : hasLineD (deedOf ("put" :: r)) = lineOk ("put" :: r) := by
  have h0 : deedOf ("put" :: r) = .tup (thingOf "put" :: ((r.take 2).map thingOf ++ [.tup ((r.drop 2).map ownerOf)])) := by
    unfold deedOf
    rw [gd0, if_pos rfl]
    rfl
  rw [h0, has_str thing_put, put_four]
  unfold lineOk
  rw [gd0, if_neg (show ¬ (("put" : Str) = "do" ∨ ("put" : Str) = "stop") by decide +kernel), if_neg (show ¬ (("put" : Str) = "look") by decide +kernel), if_pos (show ("put" : Str) = "put" from rfl), if_neg (show ¬ (("put" : Str) = "do" ∨ ("put" : Str) = "stop") by decide +kernel), if_neg (show ¬ (("put" : Str) = "look") by decide +kernel), if_pos (show ("put" : Str) = "put" from rfl), decide_eq_true (show ("put" : Str) = "put" from rfl)]
  rw [show (some (4 : Int)) = some ((4 : Nat) : Int) from rfl, len_eq]
  match r, w with
  | [], _ => rfl
  | [a], _ =>
    show ((decide (4 = 2 + 1) && _) && _) = ((decide (3 ≤ 2) && _) && _)
    simp
  | a :: b :: q, w =>
    show ((decide (4 = 3 + 1) && (!true || ownersD (.tup (q.map ownerOf)))) && ((nameD (thingOf a) && numD (thingOf b)) && (q.map ownerOf).all (fun p => nameD (itD p 0)))) = ((decide (3 ≤ q.length + 1 + 1 + 1) && (nmB a && numS b)) && ownersOk q)
    rw [name_thing, num_thing (w b (by simp)), ← owners_same fun x hx => w x (.tail _ (.tail _ hx)), decide_eq_true (by omega : 3 ≤ q.length + 1 + 1 + 1)]
    cases ownersD (.tup (q.map ownerOf)) <;> cases nmB a <;> cases numS b <;> simp
theorem piece_join {a b : Str} (ha : 32 ∉ cs a) (hb : 32 ∉ cs b) : Txt.split (Txt.join " " [a, b]) " " = [a, b] :=
  TL.split_join (s := 32) (S := []) (by decide +kernel) (by decide +kernel) (by simp) fun p hp => by
    rcases List.mem_cons.mp hp with rfl | hp
    · exact ha
    · rw [List.mem_singleton.mp hp]
      exact hb
theorem piece_one {a : Str} (ha : 32 ∉ cs a) : Txt.split (Txt.join " " [a]) " " = [a] :=
  TL.split_join (s := 32) (S := []) (by decide +kernel) (by decide +kernel) (by simp) fun p hp => by
    rw [List.mem_singleton.mp hp]
    exact ha
theorem piece_nil : pieceS (Txt.join " " []) = false := by decide +kernel
theorem all_nums {q : List Str} (w : ∀ x ∈ q, WOkS x) : (q.map thingOf).all numD = q.all numS := by
  rw [List.all_map, Bool.eq_iff_iff, List.all_eq_true, List.all_eq_true]
  exact ⟨fun h x hx => by rw [← num_thing (w x hx)]; exact h x hx, fun h x hx => (num_thing (w x hx)).trans (h x hx)⟩
theorem line_look {r : List Str} (w : ∀ x ∈ r, WOkS x) (s : ∀ x ∈ r, 32 ∉ cs x) : hasLineD (deedOf ("look" :: r)) = lineOk ("look" :: r) := by
  have h0 : deedOf ("look" :: r) = .tup (thingOf "look" :: ((r.take 1).map thingOf ++ [.str (Txt.join " " ((r.drop 1).take 2)), .tup ((r.drop 3).map thingOf)])) := by
    unfold deedOf
    rw [gd0, if_neg (by decide +kernel), if_pos rfl]
    rfl
  rw [h0, has_str thing_look, look_look]
  unfold lineOk
  rw [gd0, if_neg (show ¬ (("look" : Str) = "do" ∨ ("look" : Str) = "stop") by decide +kernel), if_pos (show ("look" : Str) = "look" from rfl), if_neg (show ¬ (("look" : Str) = "do" ∨ ("look" : Str) = "stop") by decide +kernel), if_pos (show ("look" : Str) = "look" from rfl), decide_eq_false (show ¬ ("look" : Str) = "put" by decide +kernel)]
  rw [show (some (4 : Int)) = some ((4 : Nat) : Int) from rfl, len_eq]
  match r, w, s with
  | [], _, _ => rfl
  | [a], _, _ =>
    show ((decide (4 = 3 + 1) && (!false || _)) && (numD (thingOf a) && (pieceS (Txt.join " " []) && _))) = ((decide (5 ≤ 2) && _) && _)
    rw [piece_nil, decide_eq_false (by decide : ¬ 5 ≤ 2)]
    simp
  | [a, b], _, s =>
    show ((decide (4 = 3 + 1) && (!false || _)) && (numD (thingOf a) && (pieceS (Txt.join " " [b]) && _))) = ((decide (5 ≤ 3) && _) && _)
    have : pieceS (Txt.join " " [b]) = false := by
      unfold pieceS
      rw [piece_one (s b (by simp))]
      rfl
    rw [this, decide_eq_false (by decide : ¬ 5 ≤ 3)]
    simp
  | a :: b :: c :: q, w, s =>
    have hp : pieceS (Txt.join " " [b, c]) = (decide (b ∈ pieces) && nmB c) := by
      unfold pieceS
      rw [piece_join (s b (by simp)) (s c (by simp))]
      rfl
    show ((decide (4 = 3 + 1) && (!false || _)) && (numD (thingOf a) && (pieceS (Txt.join " " [b, c]) && (true && (decide (0 < (q.map thingOf).length) && (q.map thingOf).all numD))))) = ((decide (5 ≤ q.length + 1 + 1 + 1 + 1) && (decide (b ∈ pieces) && nmB c)) && (a :: q).all numS)
    rw [hp, num_thing (w a (by simp)), all_nums (fun x hx => w x (.tail _ (.tail _ (.tail _ hx)))), List.length_map, List.all_cons]
    cases q with
    | nil => simp
    | cons x y =>
      rw [decide_eq_true (show 0 < (x :: y).length by simp), decide_eq_true (show 5 ≤ (x :: y).length + 1 + 1 + 1 + 1 by simp)]
      cases numS a <;> cases decide (b ∈ pieces) <;> cases nmB c <;> simp
theorem line_other {z : Str} {r : List Str} (h1 : z ≠ "put") (h2 : z ≠ "turn") (h3 : z ≠ "strike") (h4 : z ≠ "look") (h5 : z ≠ "do") (h6 : z ≠ "stop") : hasLineD (deedOf (z :: r)) = lineOk (z :: r) := by
  have h0 : deedOf (z :: r) = .tup (thingOf z :: r.map thingOf) := by
    unfold deedOf
    rw [gd0, if_neg h1, if_neg h4]
    rfl
  have e1 : lineOk (z :: r) = false := by
    unfold lineOk
    rw [gd0, if_neg (fun h => h.elim h5 h6), if_neg h4, if_neg h1, if_neg h2, decide_eq_false h3]
    simp
  have e2 : deedD (.tup (thingOf z :: r.map thingOf)) = false := by
    cases hs : strQ (thingOf z) with
    | true =>
      rw [deed_tup (str_thing hs), look_other h1 h2 h3 h4 h5 h6]
      simp
    | false =>
      unfold deedD
      rw [show itD (Dat.tup (thingOf z :: r.map thingOf)) 0 = thingOf z from rfl, hs]
      simp
  rw [h0, e1]
  unfold hasLineD
  rw [e2]
  rfl
theorem line_same {ws : List Str} (hn : ws ≠ []) (w : ∀ x ∈ ws, WOkS x) (s : ∀ x ∈ ws, 32 ∉ cs x) : hasLineD (deedOf ws) = lineOk ws := by
  match ws, hn, w, s with
  | z :: r, _, w, s =>
    have wr : ∀ x ∈ r, WOkS x := fun x hx => w x (.tail _ hx)
    by_cases h5 : z = "do"
    · exact line_do (.inl h5) wr
    by_cases h6 : z = "stop"
    · exact line_do (.inr h6) wr
    by_cases h1 : z = "put"
    · rw [h1]
      exact line_put wr
    by_cases h2 : z = "turn"
    · rw [h2]
      exact line_turn wr
    by_cases h3 : z = "strike"
    · rw [h3]
      exact line_strike wr
    by_cases h4 : z = "look"
    · rw [h4]
      exact line_look wr fun x hx => s x (.tail _ hx)
    exact line_other h1 h2 h3 h4 h5 h6
end AL
namespace AL
open PySem PySem.Spec PyProof.Rows L2 Ls
/-! ### short steps over data -/
local macro_rules | `(tactic| walk_at "gsq") => `(tactic| first
  | exact .inl rfl | exact .inr (.inl rfl) | exact .inr (.inr (.inl rfl)) | exact .inr (.inr (.inr ⟨_, rfl, by assumption⟩)) | exact .inr ⟨_, rfl, by assumption⟩ | exact .inr rfl)
local macro_rules | `(tactic| walk_at "g1") => `(tactic| first
  | with_reducible refine g_seq ?_
  | with_reducible refine g_ret ?_
  | with_reducible refine g_set ?_
  | with_reducible refine g_if ?_
  | with_reducible refine g_retN ?_
  | with_reducible refine g_drop ?_
  | with_reducible refine g_next ?_
  | with_reducible refine g_par ?_
  | with_reducible refine g_sfld ?_
  | with_reducible refine g_dput ?_
  | with_reducible refine g_ddel ?_
  | with_reducible refine g_setI ?_
  | with_reducible refine g_forW ?_
  | with_reducible refine g_asg ?_
  | with_reducible refine g_var (by with_unfolding_all exact rfl) ?_
  | with_reducible refine g_int ?_
  | with_reducible refine g_str ?_
  | with_reducible refine g_bl ?_
  | with_reducible refine g_non ?_
  | with_reducible refine g_ty ?_
  | with_reducible refine g_test ?_
  | with_reducible refine g_tB ?_
  | with_reducible refine g_tnot ?_
  | with_reducible refine g_cons ?_
  | with_reducible refine g_nil ?_
  | with_reducible refine g_op ro_eq ?_
  | with_reducible refine g_op ro_ne ?_
  | with_reducible refine g_op ro_ixL ?_
  | with_reducible refine g_op ro_ixT ?_
  | with_reducible refine g_op ro_ixS ?_
  | with_reducible refine g_op ro_in ?_
  | with_reducible refine g_op ro_notIn ?_
  | with_reducible refine g_op ro_addS ?_
  | with_reducible refine g_op ro_add ?_
  | with_reducible refine g_op ro_sub ?_
  | with_reducible refine g_op ro_lt ?_
  | with_reducible refine g_op ro_le ?_
  | with_reducible refine g_op ro_gt ?_
  | with_reducible refine g_op ro_ge ?_
  | with_reducible refine g_op ro_isN ?_
  | with_reducible refine g_op ro_notN ?_
  | with_reducible refine g_op ro_inSign ?_
  | with_reducible refine g_op ro_notInSign ?_
  | with_reducible refine g_op ro_leS ?_
  | with_reducible refine g_op ro_ltS ?_
  | with_reducible refine g_op ro_catA ?_
  | with_reducible refine g_op ro_catT ?_
  | with_reducible refine g_op ro_mul ?_
  | with_reducible refine g_op ro_pow ?_
  | with_reducible refine g_op ro_mod ?_
  | with_reducible refine g_op ro_div ?_
  | with_reducible refine g_un uo_neg ?_
  | with_reducible refine g_chain ro_le ro_le ?_
  | with_reducible refine g_chain ro_le ro_lt ?_
  | with_reducible refine g_cb co_len ?_
  | with_reducible refine g_cb co_lenS ?_
  | with_reducible refine g_cb co_lenD ?_
  | with_reducible refine g_cb co_isi ?_
  | with_reducible refine g_cb co_isiT ?_
  | with_reducible refine g_cb co_all ?_
  | with_reducible refine g_cb co_any ?_
  | with_reducible refine g_cb co_int1 ?_
  | with_reducible refine g_cb co_intS ?_
  | with_reducible refine g_cb co_strI ?_
  | with_reducible refine g_cb co_strS ?_
  | with_reducible refine g_cb co_tuple ?_
  | with_reducible refine g_cb co_strU ?_
  | with_reducible refine g_cb co_lenSetK ?_
  | with_reducible refine g_cb co_repr ?_
  | with_reducible refine g_op ro_ixU ?_
  | with_reducible refine g_op ro_eqE ?_
  | with_reducible refine g_op ro_neE ?_
  | with_reducible refine g_op ro_eqSm ?_
  | with_reducible refine g_op ro_neSm ?_
  | with_reducible refine g_op ro_eqSs ?_
  | with_reducible refine g_wseq ?_
  | with_reducible refine g_scW ?_
  | with_reducible refine g_kget ?_
  | with_reducible refine g_m0 mo_isdigit ?_
  | with_reducible refine g_m0 mo_isascii ?_
  | with_reducible refine g_star ?_
  | with_reducible refine g_cb co_sortedS ?_
  | with_reducible refine g_cb co_sortedI ?_
  | with_reducible refine g_fld ?_
  | with_reducible refine g_xf ?_
  | with_reducible refine g_tup ?_
  | with_reducible refine g_dget ?_
  | with_reducible refine g_din ?_
  | with_reducible refine g_dnotin ?_
  | with_reducible refine g_dget1 ?_
  | with_reducible refine g_dget2 ?_
  | with_reducible refine g_call ?_
  | with_reducible refine g_callS ?_
  | with_reducible refine g_meth ?_
  | with_reducible refine g_methR ?_
  | with_reducible refine g_m1 mo_split ?_
  | with_reducible refine g_m1 mo_join ?_
  | with_reducible refine g_bm mo_append ?_
  | with_reducible refine g_bm mo_extend ?_
  | with_reducible refine g_bm mo_popAt ?_
  | with_reducible refine g_bm0 mo_pop ?_
  | with_reducible refine g_sl so_list ?_
  | with_reducible refine g_sl so_str ?_
  | with_reducible refine g_sl so_tupA ?_
  | with_reducible refine g_sl so_tup ?_
  | with_reducible refine g_noPart ?_
  | with_reducible refine g_part ?_
  | with_reducible refine g_lcW ?_
  | with_reducible refine g_wlist ?_
  | with_reducible refine g_wtup ?_
  | with_reducible refine g_wstr ?_
  | with_reducible refine g_wenum ?_
  | with_reducible refine g_wrange1 ?_
  | with_reducible refine g_wrange2 ?_
  | with_reducible refine g_join ?_
  | with_reducible refine g_jcons ?_
  | with_reducible refine g_jnil ?_
  | with_reducible refine g_fmt ?_
  | with_reducible refine g_lenSet ?_
  | with_reducible refine g_raise1 ?_
  | with_reducible refine g_raise2 ?_
  | with_reducible refine g_raise0 ?_
  | with_reducible refine g_yes ?_
  | with_reducible refine g_gcons ?_
  | with_reducible refine g_gnil ?_
  | with_reducible refine g_name (by first | trivial | decide) ?_
  | with_reducible refine ⟨_, rfl, ?_⟩
  | with_reducible refine ⟨_, _, rfl, rfl, ?_⟩)
local macro_rules | `(tactic| walk_at "g") => `(tactic| repeat (walk_at "g1"))

local macro_rules | `(tactic| walk_at "ss") => `(tactic| (funext zz; simp only [supd, sdel]; (repeat' split) <;> first | rfl | (subst_vars; first | rfl | contradiction | (simp_all; done)) | (simp_all; done)))
local macro_rules | `(tactic| walk_at "sp") => `(tactic| first
  | with_reducible assumption
  | exact supd_same
  | exact sdel_same
  | exact Eq.trans (supd_ne (by walk_at "ls_ne")) (by walk_at "sp")
  | exact Eq.trans (sdel_ne (by walk_at "ls_ne")) (by walk_at "sp"))
local macro_rules | `(tactic| walk_at "ls_ne") => `(tactic| first | assumption | exact Ne.symm (by assumption) | exact sne (by assumption) (by assumption) | exact Ne.symm (sne (by assumption) (by assumption)))

structure Gw (K : PySem.W.Frag) (mg : Str → Option Value) (aP : Addr) (tN : Tok) : Prop where
  PIECE_WORDS : mg "PIECE_WORDS" = some (.ref aP)
  NOTHING : mg "NOTHING" = some (.str "-" tN)
  kPIECE : KTup K aP (pieces.map V.str)
section
variable {P : Program} {w : World} {K : PySem.W.Frag} {mg : Str → Option Value} {base : Heap}
/-! ### _is_piece, _is_list -/
abbrev s__is_piece : Stmt := topS 20
theorem sc__is_piece : FnScope ["thing", "words"] ["thing"] (defScope s__is_piece) := ⟨rfl, rfl, rfl, by decide +kernel, rfl, by decide +kernel, by decide +kernel⟩
abbrev N__is_piece : List Str := ["thing", "words"]
def aIsPiece : ASp := fun ds s Q _ => ∃ d, ds = [d] ∧ Pl 0 d ∧ Q (.bl (pieceD d)) s
theorem a_is_piece {f : Addr} {fd : FuncData} {aP : Addr} {tN : Tok} (F : Fun K "_is_piece" "_is_piece" s__is_piece f fd) (T : Bt mg) (G : Gw K mg aP tN) (O_is_name : Own P w K mg base CX0 1 "is_name" ["thing"] (conc K aIsName)) : FnOk P w K mg base CX0 2 f fd ["thing"] (conc K aIsPiece) := by
  refine a_ok F sc__is_piece (fun ds s Q E h => ?_) (fun cdv A outer s0 H0 E hr => ?_)
  · obtain ⟨d, rfl, _⟩ := h
    rfl
  · have hu := hu_of hr
    refine ⟨_, (pss_cons (ps_if (pt_not (pt_val (pe_callB call_isi (by rfl) T.m_isinstance (by decide +kernel) (pa_cons (pv 0) (pa_cons (pe_bltn (v := V.ty "str") (by rfl) T.m_str boot_str rfl) pa_nil))))) (pss_one (ps_ret pe_bl)) pss_nil)
      (pss_cons (ps_set (i := 1) sc__is_piece.nd rfl (Or.inl rfl) (pe_split (pv 0) pe_str))
      (pss_one (ps_ret (pe_and (pe_cmpR op_eq (pe_callB (len_seq K) (by rfl) T.m_len (by decide +kernel) (pa_cons (pv 1) pa_nil)) pe_int (nomark _)) (pe_and (pe_cmpR (in_seq K) (pe_ix (ixL K) (pv 1) pe_int (fun _ _ => rfl)) (glob_ref G.PIECE_WORDS) (by rfl)) (pe_one (own_call O_is_name hr (by first | decide | omega) (pa_cons (pe_ix (ixL K) (pv 1) pe_int (fun _ _ => rfl)) pa_nil))))))))), ?_⟩
    rintro ds s Q E ⟨d, rfl, hp, q⟩
    try simp only [nox_K, cx_K]
    walk_at "g"
    refine ⟨d, _, _, _, rfl, ty_plain hp.p, kit_str hp.p, ?_⟩
    walk_at "g"
    refine ⟨fun e => ?_, fun e => ?_⟩
    · walk_at "g"
      have : pieceD d = false := by cases d <;> first | rfl | (cases e; done)
      rw [this] at q
      exact q
    · obtain ⟨z, rfl⟩ := strQ_str (d := d) (by simpa using e)
      walk_at "g"
      have zl : z.length ≤ 1000000 := hp.s z rfl
      refine ⟨⟨z, rfl⟩, ?_⟩
      walk_at "g"
      refine ⟨by decide, Nat.le_trans (Nat.add_le_add_right zl 2) (by decide), ?_⟩
      have hq : pieceD (.str z) = (decide ((Txt.split z " ").length = 2) && (decide ((Txt.split z " ").getD 0 "" ∈ pieces) && nmB ((Txt.split z " ").getD 1 ""))) := rfl
      have hsh : ∀ p ∈ Txt.split z " ", p.length ≤ 1000000 := fun p h => Nat.le_trans (PyProof.Rows.part_short h) zl
      rw [hq] at q
      generalize Txt.split z " " = ps at q hsh ⊢
      walk_at "g"
      refine g_and ?_
      walk_at "g"
      refine ⟨_, _, rfl, .inl rfl, ?_⟩
      walk_at "g"
      rw [List.length_map]
      refine ⟨fun e2 => ?_, fun e2 => ?_⟩
      · have l2 : ps.length = 2 := by have := of_decide_eq_true e2; omega
        match ps, l2, hsh with
        | [a, b], _, hsh =>
          refine g_and ?_
          walk_at "g"
          refine ⟨_, _, _, .inl rfl, rfl, rfl, ?_⟩
          refine g_con G.kPIECE (ds := pieces.map Dat.str) (fun H => ats_strs pieces) ?_
          refine ⟨_, InD.strs (.inr (.inr (.inl rfl))), ?_⟩
          walk_at "g"
          refine ⟨fun e3 => ?_, fun e3 => ?_⟩
          · walk_at "g"
            refine ⟨_, _, _, .inl rfl, rfl, rfl, ?_⟩
            walk_at "g"
            refine ⟨_, rfl, rfl, (fun z h => by cases h; exact hsh b (by simp)), ?_⟩
            have : (decide ([a, b].length = 2) && (decide ([a, b].getD 0 "" ∈ pieces) && nmB ([a, b].getD 1 ""))) = nameD (.str b) := by
              show (true && (decide (a ∈ pieces) && nmB b)) = nmB b
              rw [e3]
              rfl
            rw [this] at q
            exact q
          · have : (decide ([a, b].length = 2) && (decide ([a, b].getD 0 "" ∈ pieces) && nmB ([a, b].getD 1 ""))) = false := by
              show (true && (decide (a ∈ pieces) && nmB b)) = false
              rw [e3]
              rfl
            rw [this] at q
            exact q
      · have l2 : ¬ ps.length = 2 := fun h => by have := of_decide_eq_false e2; omega
        rw [decide_eq_false l2, Bool.false_and] at q
        exact q
abbrev s__is_list : Stmt := topS 21
theorem sc__is_list : FnScope ["thing", "number"] ["thing"] (defScope s__is_list) := ⟨rfl, rfl, rfl, by decide +kernel, rfl, by decide +kernel, by decide +kernel⟩
abbrev N__is_list : List Str := ["thing", "number"]
def aIsList : ASp := fun ds s Q _ => ∃ d, ds = [d] ∧ Pl 1 d ∧ Q (.bl (listD d)) s
theorem a_is_list {f : Addr} {fd : FuncData} (F : Fun K "_is_list" "_is_list" s__is_list f fd) (T : Bt mg) (O_is_row : Own P w K mg base CX0 1 "is_row" ["thing"] (conc K aIsRow)) (O_is_number : Own P w K mg base CX0 1 "is_number" ["thing"] (conc K aIsNum)) : FnOk P w K mg base CX0 2 f fd ["thing"] (conc K aIsList) := by
  refine a_ok F sc__is_list (fun ds s Q E h => ?_) (fun cdv A outer s0 H0 E hr => ?_)
  · obtain ⟨d, rfl, _⟩ := h
    rfl
  · have hu := hu_of hr
    refine ⟨_, (pss_one (ps_ret (pe_and (own_call O_is_row hr (by first | decide | omega) (pa_cons (pv 0) pa_nil)) (pe_and (pe_cmpR op_gt (pe_callB (len_seq K) (by rfl) T.m_len (by decide +kernel) (pa_cons (pv 0) pa_nil)) pe_int (nomark _)) (pe_one (pe_callB (cr_all rfl) (by rfl) T.m_all (by decide +kernel) (pa_cons (pe_lc (own := [("number", 1)]) (g := gName 1) (by rfl) sc__is_list.nd (pi_seq (pv 0)) (blkOk_by (own := [("number", 1)]) (N := N__is_list) (sc := defScope s__is_list) (by decide +kernel)) (fun _ _ _ _ _ => (pg_name (i := 1) sc__is_list.nd rfl (Or.inl rfl) (Or.inr rfl))) (fun _ _ _ _ _ => pts_nil) (fun _ _ _ _ _ => (own_call O_is_number hr (by first | decide | omega) (pa_cons (pv 1) pa_nil)))) pa_nil))))))), ?_⟩
    rintro ds s Q E ⟨d, rfl, hp, q⟩
    try simp only [nox_K, cx_K]
    walk_at "g"
    refine g_and ?_
    walk_at "g"
    refine ⟨d, rfl, hp.p, ?_⟩
    walk_at "g"
    refine ⟨fun e => ?_, fun e => ?_⟩
    · refine g_and ?_
      walk_at "g"
      refine ⟨_, _, rfl, row_seq e, ?_⟩
      walk_at "g"
      refine ⟨fun e2 => ?_, fun e2 => ?_⟩
      · walk_at "g"
        refine ⟨_, row_ref e, ?_⟩
        refine LcW.map (itemsD d) id (fun x => .bl (numD x)) (List.map_id _).symm (Nat.lt_trans hp.2.1 (by decide)) trivial (fun x hx => ?_) ?_
        · walk_at "g"
          exact ⟨x, rfl, (hp.2.2 x hx).p, rfl, rfl⟩
        · walk_at "g"
          refine ⟨_, (itemsD d).map numD, rfl, .inl (by rw [List.map_map]; rfl), ?_⟩
          have : listD d = ((itemsD d).map numD).all id := by
            have l0 : 0 < (itemsD d).length := by have := of_decide_eq_true e2; omega
            unfold listD
            rw [e, decide_eq_true l0, List.all_map]
            rfl
          rw [this] at q
          exact q
      · have : listD d = false := by
          have l0 : ¬ 0 < (itemsD d).length := fun h => by have := of_decide_eq_false e2; omega
          unfold listD
          rw [decide_eq_false l0]
          simp
        rw [this] at q
        exact q
    · have : listD d = false := by unfold listD; rw [e]; rfl
      rw [this] at q
      exact q
end
end AL
namespace AL
open PySem PySem.Spec PyProof.Rows L2 Ls
/-! ### short steps over data -/
local macro_rules | `(tactic| walk_at "gsq") => `(tactic| first
  | exact .inl rfl | exact .inr (.inl rfl) | exact .inr (.inr (.inl rfl)) | exact .inr (.inr (.inr ⟨_, rfl, by assumption⟩)) | exact .inr ⟨_, rfl, by assumption⟩ | exact .inr rfl)
local macro_rules | `(tactic| walk_at "g1") => `(tactic| first
  | with_reducible refine g_seq ?_
  | with_reducible refine g_ret ?_
  | with_reducible refine g_set ?_
  | with_reducible refine g_if ?_
  | with_reducible refine g_retN ?_
  | with_reducible refine g_drop ?_
  | with_reducible refine g_next ?_
  | with_reducible refine g_par ?_
  | with_reducible refine g_sfld ?_
  | with_reducible refine g_dput ?_
  | with_reducible refine g_ddel ?_
  | with_reducible refine g_setI ?_
  | with_reducible refine g_forW ?_
  | with_reducible refine g_asg ?_
  | with_reducible refine g_var (by with_unfolding_all exact rfl) ?_
  | with_reducible refine g_int ?_
  | with_reducible refine g_str ?_
  | with_reducible refine g_bl ?_
  | with_reducible refine g_non ?_
  | with_reducible refine g_ty ?_
  | with_reducible refine g_test ?_
  | with_reducible refine g_tB ?_
  | with_reducible refine g_tnot ?_
  | with_reducible refine g_cons ?_
  | with_reducible refine g_nil ?_
  | with_reducible refine g_op ro_eq ?_
  | with_reducible refine g_op ro_ne ?_
  | with_reducible refine g_op ro_ixL ?_
  | with_reducible refine g_op ro_ixT ?_
  | with_reducible refine g_op ro_ixS ?_
  | with_reducible refine g_op ro_in ?_
  | with_reducible refine g_op ro_notIn ?_
  | with_reducible refine g_op ro_addS ?_
  | with_reducible refine g_op ro_add ?_
  | with_reducible refine g_op ro_sub ?_
  | with_reducible refine g_op ro_lt ?_
  | with_reducible refine g_op ro_le ?_
  | with_reducible refine g_op ro_gt ?_
  | with_reducible refine g_op ro_ge ?_
  | with_reducible refine g_op ro_isN ?_
  | with_reducible refine g_op ro_notN ?_
  | with_reducible refine g_op ro_inSign ?_
  | with_reducible refine g_op ro_notInSign ?_
  | with_reducible refine g_op ro_leS ?_
  | with_reducible refine g_op ro_ltS ?_
  | with_reducible refine g_op ro_catA ?_
  | with_reducible refine g_op ro_catT ?_
  | with_reducible refine g_op ro_mul ?_
  | with_reducible refine g_op ro_pow ?_
  | with_reducible refine g_op ro_mod ?_
  | with_reducible refine g_op ro_div ?_
  | with_reducible refine g_un uo_neg ?_
  | with_reducible refine g_chain ro_le ro_le ?_
  | with_reducible refine g_chain ro_le ro_lt ?_
  | with_reducible refine g_cb co_len ?_
  | with_reducible refine g_cb co_lenS ?_
  | with_reducible refine g_cb co_lenD ?_
  | with_reducible refine g_cb co_isi ?_
  | with_reducible refine g_cb co_isiT ?_
  | with_reducible refine g_cb co_all ?_
  | with_reducible refine g_cb co_any ?_
  | with_reducible refine g_cb co_int1 ?_
  | with_reducible refine g_cb co_intS ?_
  | with_reducible refine g_cb co_strI ?_
  | with_reducible refine g_cb co_strS ?_
  | with_reducible refine g_cb co_tuple ?_
  | with_reducible refine g_cb co_strU ?_
  | with_reducible refine g_cb co_lenSetK ?_
  | with_reducible refine g_cb co_repr ?_
  | with_reducible refine g_op ro_ixU ?_
  | with_reducible refine g_op ro_eqE ?_
  | with_reducible refine g_op ro_neE ?_
  | with_reducible refine g_op ro_eqSm ?_
  | with_reducible refine g_op ro_neSm ?_
  | with_reducible refine g_op ro_eqSs ?_
  | with_reducible refine g_wseq ?_
  | with_reducible refine g_scW ?_
  | with_reducible refine g_kget ?_
  | with_reducible refine g_m0 mo_isdigit ?_
  | with_reducible refine g_m0 mo_isascii ?_
  | with_reducible refine g_star ?_
  | with_reducible refine g_cb co_sortedS ?_
  | with_reducible refine g_cb co_sortedI ?_
  | with_reducible refine g_fld ?_
  | with_reducible refine g_xf ?_
  | with_reducible refine g_tup ?_
  | with_reducible refine g_dget ?_
  | with_reducible refine g_din ?_
  | with_reducible refine g_dnotin ?_
  | with_reducible refine g_dget1 ?_
  | with_reducible refine g_dget2 ?_
  | with_reducible refine g_call ?_
  | with_reducible refine g_callS ?_
  | with_reducible refine g_meth ?_
  | with_reducible refine g_methR ?_
  | with_reducible refine g_m1 mo_split ?_
  | with_reducible refine g_m1 mo_join ?_
  | with_reducible refine g_bm mo_append ?_
  | with_reducible refine g_bm mo_extend ?_
  | with_reducible refine g_bm mo_popAt ?_
  | with_reducible refine g_bm0 mo_pop ?_
  | with_reducible refine g_sl so_list ?_
  | with_reducible refine g_sl so_str ?_
  | with_reducible refine g_sl so_tupA ?_
  | with_reducible refine g_sl so_tup ?_
  | with_reducible refine g_noPart ?_
  | with_reducible refine g_part ?_
  | with_reducible refine g_lcW ?_
  | with_reducible refine g_wlist ?_
  | with_reducible refine g_wtup ?_
  | with_reducible refine g_wstr ?_
  | with_reducible refine g_wenum ?_
  | with_reducible refine g_wrange1 ?_
  | with_reducible refine g_wrange2 ?_
  | with_reducible refine g_join ?_
  | with_reducible refine g_jcons ?_
  | with_reducible refine g_jnil ?_
  | with_reducible refine g_fmt ?_
  | with_reducible refine g_lenSet ?_
  | with_reducible refine g_raise1 ?_
  | with_reducible refine g_raise2 ?_
  | with_reducible refine g_raise0 ?_
  | with_reducible refine g_yes ?_
  | with_reducible refine g_gcons ?_
  | with_reducible refine g_gnil ?_
  | with_reducible refine g_name (by first | trivial | decide) ?_
  | with_reducible refine ⟨_, rfl, ?_⟩
  | with_reducible refine ⟨_, _, rfl, rfl, ?_⟩)
local macro_rules | `(tactic| walk_at "g") => `(tactic| repeat (walk_at "g1"))

local macro_rules | `(tactic| walk_at "ss") => `(tactic| (funext zz; simp only [supd, sdel]; (repeat' split) <;> first | rfl | (subst_vars; first | rfl | contradiction | (simp_all; done)) | (simp_all; done)))
local macro_rules | `(tactic| walk_at "sp") => `(tactic| first
  | with_reducible assumption
  | exact supd_same
  | exact sdel_same
  | exact Eq.trans (supd_ne (by walk_at "ls_ne")) (by walk_at "sp")
  | exact Eq.trans (sdel_ne (by walk_at "ls_ne")) (by walk_at "sp"))
local macro_rules | `(tactic| walk_at "ls_ne") => `(tactic| first | assumption | exact Ne.symm (by assumption) | exact sne (by assumption) (by assumption) | exact Ne.symm (sne (by assumption) (by assumption)))

theorem uni_dig : ∀ c : Nat, c < 128 → PySem.Unicode.isDigit c = digB c := by
  have h : (List.range 128).all (fun c => PySem.Unicode.isDigit c == digB c) = true := by decide +kernel
  intro c hc
  exact eq_of_beq (List.all_eq_true.mp h c (List.mem_range.mpr hc))
theorem ascii_eq {z : Str} (w : WOkS z) : Txt.isascii z = true := by
  unfold PySem.Txt.isascii
  rw [← Array.all_toList, List.all_eq_true]
  exact fun c hc => decide_eq_true (w.asc c hc)
theorem isdigit_eq {z : Str} (w : WOkS z) : Txt.isdigit z = (!decide (z = "") && (cs z).all digB) := by
  unfold PySem.Txt.isdigit
  rw [← Array.all_toList]
  have e1 : decide (z.length > 0) = !decide (z = "") := by
    by_cases h : z = ""
    · subst h
      rfl
    · rw [decide_eq_false h, decide_eq_true]
      · rfl
      · rcases Nat.eq_zero_or_pos z.length with h2 | h2
        · refine absurd (cs_nil ?_) h
          rw [cs_len] at h2
          exact List.length_eq_zero_iff.mp h2
        · exact h2
  rw [e1]
  congr 1
  show (cs z).all PySem.Unicode.isDigit = (cs z).all digB
  rw [Bool.eq_iff_iff, List.all_eq_true, List.all_eq_true]
  exact ⟨fun h c hc => (uni_dig c (w.asc c hc)).symm.trans (h c hc), fun h c hc => (uni_dig c (w.asc c hc)).trans (h c hc)⟩
theorem sum_le {ws : List Str} {n : Nat} (h : ∀ z ∈ ws, z.length ≤ n) : (ws.map (·.length)).sum ≤ n * ws.length := by
  induction ws with
  | nil => exact Nat.zero_le _
  | cons a r ih =>
    have h1 := ih fun z hz => h z (.tail _ hz)
    have h2 := h a (.head _)
    rw [List.map_cons, List.sum_cons, List.length_cons, Nat.mul_add, Nat.mul_one]
    omega
theorem zero_eq {c : Nat} : ((⟨#[c]⟩ : Str) = "0") ↔ c = 48 := by
  constructor
  · intro h
    have h2 : cs (⟨#[c]⟩ : Str) = cs "0" := by rw [h]
    have h3 : [c] = [48] := h2.trans (by decide +kernel)
    exact List.head_eq_of_cons_eq h3
  · rintro rfl
    exact cs_inj (by decide +kernel)
section
variable {P : Program} {w : World} {K : PySem.W.Frag} {mg : Str → Option Value} {base : Heap}
/-! ### _thing_of -/
abbrev s__thing_of : Stmt := topS 23
theorem sc__thing_of : FnScope ["word"] ["word"] (defScope s__thing_of) := ⟨rfl, rfl, rfl, by decide +kernel, rfl, by decide +kernel, by decide +kernel⟩
abbrev N__thing_of : List Str := ["word"]
def aThing : ASp := fun ds s Q _ => ∃ z, ds = [.str z] ∧ WOkS z ∧ Q (thingOf z) s
theorem a_thing {f : Addr} {fd : FuncData} {aP : Addr} {tN : Tok} (F : Fun K "_thing_of" "_thing_of" s__thing_of f fd) (T : Bt mg) (G : Gw K mg aP tN) : FnOk P w K mg base CX0 1 f fd ["word"] (conc K aThing) := by
  refine a_ok F sc__thing_of (fun ds s Q E h => ?_) (fun cdv A outer s0 H0 E hr => ?_)
  · obtain ⟨z, rfl, _⟩ := h
    rfl
  · have hu := hu_of hr
    refine ⟨_, (pss_cons (ps_if (PW.pt (pw_and (pt_val (pe_m0 PySem.F.slot_str_isascii PySem.F.type_str_isascii mt_isascii (pv 0))) (pw_and (pt_val (pe_m0 PySem.F.slot_str_isdigit PySem.F.type_str_isdigit mt_isdigit (pv 0))) (pw_and1 (PW.pt (pw_or (pt_cmpR op_eq (pv 0) pe_str (nomark _)) (pw_or1 (pt_cmpR op_ne (pe_ix ix_str (pv 0) pe_int (fun _ _ => rfl)) pe_str (nomark _))))))))) (pss_one (ps_ret (pe_callTy call_int_str (by rfl) T.m_int (by decide +kernel) (pa_cons (pv 0) pa_nil)))) pss_nil)
      (pss_one (ps_ret (pe_ifExp (pt_cmpR op_eq (pv 0) (glob_str G.NOTHING) (nomark _)) pe_non (pv 0))))), ?_⟩
    rintro ds s Q E ⟨z, rfl, hz, q⟩
    try simp only [nox_K, cx_K]
    have hn : numS z = (Txt.isascii z && (Txt.isdigit z && (decide (z = "0") || !decide ((cs z).head? = some 48)))) := by
      rw [ascii_eq hz, isdigit_eq hz, Bool.true_and, Bool.and_assoc]
      rfl
    walk_at "g1"
    refine g_ifB (b := numS z) ?_ (fun e => ?_) (fun e => ?_)
    · rw [hn]
      refine t_and (t_test ?_) fun _ => t_and (t_test ?_) fun h1 => t_or (t_test ?_) fun h2 => t_test ?_
      · unfold Gv
        walk_at "g"
        exact ⟨⟨z, rfl⟩, z, rfl, rfl, rfl⟩
      · unfold Gv
        walk_at "g"
        exact ⟨⟨z, rfl⟩, z, rfl, rfl, rfl⟩
      · unfold Gv
        walk_at "g"
        exact ⟨rfl, rfl⟩
      · unfold Gv
        walk_at "g"
        rw [isdigit_eq hz, Bool.and_eq_true] at h1
        cases e : cs z with
        | nil => exact absurd (cs_nil e) (by simpa using h1.1)
        | cons c r =>
          refine ⟨z, 0, c, rfl, rfl, Nat.le_trans hz.len (by decide), ?_, ?_⟩
          · show atI (cs z) 0 = _
            rw [e]
            exact atI_nat (j := 0) rfl
          · walk_at "g"
            refine ⟨?_, rfl⟩
            have : decide ((⟨#[c]⟩ : Str) = "0") = decide ((c :: r).head? = some 48) := decide_eq_decide.mpr (zero_eq.trans ⟨fun h => by rw [h]; rfl, fun h => Option.some.inj h⟩)
            rw [this]
    · walk_at "g"
      obtain ⟨n1, n2⟩ := numS_all e
      have l30 : z.length ≤ 30 := by
        rcases runB_all n2 hz.run with h | h
        · exact absurd (cs_nil h) n1
        · rw [cs_len]
          omega
      have hd : PySem.NumText.AllDigits z.cps.toList := fun c hc => by
        have := n2 c hc
        unfold digB at this
        rw [Bool.and_eq_true, decide_eq_true_eq, decide_eq_true_eq] at this
        exact this
      refine ⟨z, _, rfl, PySem.intText_digits hd (fun h => n1 (cs_nil h)) (by omega), by omega, ?_⟩
      have : thingOf z = .int (PySem.NumText.digitsVal z.cps.toList : Nat) := by
        unfold thingOf
        rw [if_pos e]
        rfl
      rw [this] at q
      exact q
    · walk_at "g"
      refine g_ifEB (b := decide (z = "-")) ?_ (fun e2 => ?_) (fun e2 => ?_)
      · refine t_test ?_
        unfold Gv
        walk_at "g"
        exact ⟨rfl, rfl⟩
      · walk_at "g"
        have : thingOf z = .non := by
          unfold thingOf
          rw [if_neg (by rw [e]; simp), if_pos (of_decide_eq_true e2)]
        rw [this] at q
        exact q
      · walk_at "g"
        have : thingOf z = .str z := by
          unfold thingOf
          rw [if_neg (by rw [e]; simp), if_neg (of_decide_eq_false e2)]
        rw [this] at q
        exact q
/-! ### _deed_of -/
abbrev s__deed_of : Stmt := topS 22
theorem sc__deed_of : FnScope ["words", "things", "owners", "word", "part"] ["words"] (defScope s__deed_of) := ⟨rfl, rfl, rfl, by decide +kernel, rfl, by decide +kernel, by decide +kernel⟩
abbrev N__deed_of : List Str := ["words", "things", "owners", "word", "part"]
def aDeedOf : ASp := fun ds s Q _ => ∃ ws : List Str, ds = [.lst (ws.map Dat.str)] ∧ ws ≠ [] ∧ ws.length ≤ 3000 ∧ (∀ x ∈ ws, WOkS x) ∧ Q (deedOf ws) s
theorem a_deed_of {f : Addr} {fd : FuncData} (F : Fun K "_deed_of" "_deed_of" s__deed_of f fd) (T : Bt mg) (O__thing_of : Own P w K mg base CX0 1 "_thing_of" ["word"] (conc K aThing)) : FnOk P w K mg base CX0 2 f fd ["words"] (conc K aDeedOf) := by
  refine a_ok F sc__deed_of (fun ds s Q E h => ?_) (fun cdv A outer s0 H0 E hr => ?_)
  · obtain ⟨ws, rfl, _⟩ := h
    rfl
  · have hu := hu_of hr
    refine ⟨_, (pss_cons (ps_setLc (i := 1) (own := [("word", 3)]) (g := gName 3) (by rfl) sc__deed_of.nd rfl rfl (sw_true rfl rfl rfl (by decide +kernel)) (pi_list (pv 0)) (blkOk_by (own := [("word", 3)]) (N := N__deed_of) (sc := defScope s__deed_of) (by decide +kernel)) (fun _ _ _ _ _ => (pg_name (i := 3) sc__deed_of.nd rfl (Or.inl rfl) (Or.inr rfl))) (fun _ _ _ _ _ => pts_nil) (fun _ _ _ _ _ => (own_call O__thing_of hr (by first | decide | omega) (pa_cons (pv 3) pa_nil))))
      (pss_cons (ps_if (pt_cmpR op_eq (pe_ix (ixL K) (pv 0) pe_int (fun _ _ => rfl)) pe_str (nomark _)) (pss_cons (ps_setLc (i := 2) (own := [("word", 3)]) (g := gName 3) (by rfl) sc__deed_of.nd rfl rfl (sw_true rfl rfl rfl (by decide +kernel)) (pi_list (pe_slice sl_list (pv 0) (po_some pe_int) po_none)) (blkOk_by (own := [("word", 3)]) (N := N__deed_of) (sc := defScope s__deed_of) (by decide +kernel)) (fun _ _ _ _ _ => (pg_name (i := 3) sc__deed_of.nd rfl (by first | exact Or.inl rfl | exact Or.inr rfl) (by first | exact Or.inl rfl | exact Or.inr rfl))) (fun _ _ _ _ _ => pts_nil) (fun _ _ _ _ _ => (pe_callTy (tuple_of K) (by rfl) T.m_tuple (by decide +kernel) (pa_cons (pe_lc (own := [("part", 4)]) (g := gName 4) (by rfl) sc__deed_of.nd (pi_listK K (pe_split (pv 3) pe_str)) (blkOk_by (own := [("part", 4)]) (N := N__deed_of) (by kernel_rfl)) (fun _ _ _ _ _ => (pg_name (i := 4) sc__deed_of.nd rfl (Or.inl rfl) (Or.inr rfl))) (fun _ _ _ _ _ => pts_nil) (fun _ _ _ _ _ => (own_call O__thing_of hr (by first | decide | omega) (pa_cons (pv 4) pa_nil)))) pa_nil))))
      (pss_one (ps_ret (pe_tup (StX.pa_star (pe_slice sl_list (pv 1) po_none (po_some pe_int)) (pa_cons (pe_callTy (tuple_of K) (by rfl) T.m_tuple (by decide +kernel) (pa_cons (pv 2) pa_nil)) pa_nil)))))) pss_nil)
      (pss_cons (ps_if (pt_cmpR op_eq (pe_ix (ixL K) (pv 0) pe_int (fun _ _ => rfl)) pe_str (nomark _)) (pss_one (ps_ret (pe_tup (StX.pa_star (pe_slice sl_list (pv 1) po_none (po_some pe_int)) (pa_cons (pe_join pe_str (pe_slice sl_list (pv 0) (po_some pe_int) (po_some pe_int))) (pa_cons (pe_callTy (tuple_of K) (by rfl) T.m_tuple (by decide +kernel) (pa_cons (pe_slice sl_list (pv 1) (po_some pe_int) po_none) pa_nil)) pa_nil)))))) pss_nil)
      (pss_one (ps_ret (pe_callTy (tuple_of K) (by rfl) T.m_tuple (by decide +kernel) (pa_cons (pv 1) pa_nil))))))), ?_⟩
    rintro ds s Q E ⟨ws, rfl, hn, hl, hw, q⟩
    try simp only [nox_K, cx_K]
    walk_at "g"
    refine ⟨_, .inl ⟨rfl, ?_⟩⟩
    refine LcW.map ws Dat.str thingOf rfl (Nat.lt_of_le_of_lt hl (by decide)) trivial (fun x hx => ?_) ?_
    · walk_at "g"
      exact ⟨x, rfl, hw x hx, rfl, rfl⟩
    walk_at "g"
    match ws, hn, hl, hw, q with
    | z :: r, _, hl, hw, q =>
      refine ⟨_, _, _, .inl rfl, rfl, atI_nat (j := 0) rfl, ?_⟩
      walk_at "g"
      refine ⟨fun e => ?_, fun e => ?_⟩
      · have ez : z = "put" := of_decide_eq_true e
        walk_at "g"
        refine ⟨_, .inl rfl, ?_⟩
        rw [show (3 : Int) = ((3 : Nat) : Int) from rfl, cut_drop, ← List.map_drop]
        refine ⟨_, .inl ⟨rfl, ?_⟩⟩
        have hl3 : ((z :: r).drop 3).length ≤ 3000 := by rw [List.length_drop]; omega
        refine LcW.map ((z :: r).drop 3) Dat.str ownerOf rfl (Nat.lt_of_le_of_lt hl3 (by decide)) trivial (fun x hx => ?_) ?_
        · have hx2 := hw x (List.mem_of_mem_drop hx)
          walk_at "g"
          refine ⟨⟨x, rfl⟩, ?_⟩
          walk_at "g"
          refine ⟨by decide, Nat.le_trans (Nat.add_le_add_right hx2.len 2) (by decide), ?_⟩
          refine ⟨_, .inl ⟨rfl, ?_⟩⟩
          have := (PyProof.Rows.fact_split x "=").2
          have := hx2.len
          refine LcW.map (Txt.split x "=") Dat.str thingOf rfl (Nat.lt_of_le_of_lt (show _ ≤ 3002 by omega) (by decide)) trivial (fun y hy => ?_) ?_
          · walk_at "g"
            exact ⟨y, rfl, owner_part hx2 hy, rfl, rfl⟩
          · walk_at "g"
            exact ⟨_, _, rfl, .inl (.inl rfl), rfl, rfl⟩
        · walk_at "g"
          refine ⟨_, .inl rfl, ?_⟩
          refine ⟨_, .inl rfl, ?_⟩
          rw [cut_take, ← List.map_take]
          walk_at "g"
          refine ⟨_, _, rfl, .inl (.inl rfl), ?_⟩
          walk_at "g"
          have hl4 : ((z :: r).take 3).length ≤ 3 := by rw [List.length_take]; omega
          refine ⟨by rw [List.length_append, List.length_map]; exact Nat.le_trans (Nat.add_le_add_right hl4 1) (by decide), ?_⟩
          have : deedOf (z :: r) = .tup (((z :: r).take 3).map thingOf ++ [.tup (((z :: r).drop 3).map ownerOf)]) := by
            unfold deedOf
            rw [gd0, if_pos ez]
          rw [this] at q
          exact q
      · have ez : ¬ z = "put" := of_decide_eq_false e
        walk_at "g"
        refine ⟨_, _, _, .inl rfl, rfl, atI_nat (j := 0) rfl, ?_⟩
        walk_at "g"
        refine ⟨fun e2 => ?_, fun e2 => ?_⟩
        · have ez2 : z = "look" := of_decide_eq_true e2
          walk_at "g"
          refine ⟨_, .inl rfl, ?_⟩
          refine ⟨_, .inl rfl, ?_⟩
          rw [show (2 : Int) = ((2 : Nat) : Int) from rfl, cut_take, ← List.map_take]
          walk_at "g"
          refine ⟨⟨_, rfl⟩, ?_⟩
          walk_at "g"
          refine ⟨_, .inl rfl, ?_⟩
          rw [show (4 : Int) = ((4 : Nat) : Int) from rfl, cut_mid, ← List.map_drop, ← List.map_take]
          refine ⟨_, _, rfl, .inl rfl, ?_, ?_⟩
          · have h2 : (((z :: r).drop 2).take (4 - 2)).length ≤ 2 := by rw [List.length_take]; omega
            have h3 : ∀ x ∈ ((z :: r).drop 2).take (4 - 2), x.length ≤ 3000 := fun x hx => (hw x (List.mem_of_mem_drop (List.mem_of_mem_take hx))).len
            have h4 := sum_le h3
            have h5 : ((((z :: r).drop 2).take (4 - 2)).map (·.length)).sum ≤ 6000 := Nat.le_trans h4 (by omega)
            show _ + _ * 1 ≤ _
            omega
          walk_at "g"
          refine ⟨_, .inl rfl, ?_⟩
          rw [cut_drop, ← List.map_drop]
          walk_at "g"
          refine ⟨_, _, rfl, .inl (.inl rfl), ?_⟩
          walk_at "g"
          have hl4 : ((z :: r).take 2).length ≤ 2 := by rw [List.length_take]; omega
          refine ⟨by rw [List.length_append, List.length_map]; exact Nat.le_trans (Nat.add_le_add_right hl4 2) (by decide), ?_⟩
          have : deedOf (z :: r) = .tup (((z :: r).take 2).map thingOf ++ [.str (Txt.join " " (((z :: r).drop 2).take 2)), .tup (((z :: r).drop 4).map thingOf)]) := by
            unfold deedOf
            rw [gd0, if_neg ez, if_pos ez2]
          rw [this] at q
          exact q
        · have ez2 : ¬ z = "look" := of_decide_eq_false e2
          walk_at "g"
          refine ⟨_, _, rfl, .inl (.inl rfl), ?_⟩
          have : deedOf (z :: r) = .tup ((z :: r).map thingOf) := by
            unfold deedOf
            rw [gd0, if_neg ez, if_neg ez2]
          rw [this] at q
          exact q
end
end AL
namespace AL
open PySem PySem.Spec PyProof.Rows L2 Ls
/-! ### short steps over data -/
local macro_rules | `(tactic| walk_at "gsq") => `(tactic| first
  | exact .inl rfl | exact .inr (.inl rfl) | exact .inr (.inr (.inl rfl)) | exact .inr (.inr (.inr ⟨_, rfl, by assumption⟩)) | exact .inr ⟨_, rfl, by assumption⟩ | exact .inr rfl)
local macro_rules | `(tactic| walk_at "g1") => `(tactic| first
  | with_reducible refine g_seq ?_
  | with_reducible refine g_ret ?_
  | with_reducible refine g_set ?_
  | with_reducible refine g_if ?_
  | with_reducible refine g_retN ?_
  | with_reducible refine g_drop ?_
  | with_reducible refine g_next ?_
  | with_reducible refine g_par ?_
  | with_reducible refine g_sfld ?_
  | with_reducible refine g_dput ?_
  | with_reducible refine g_ddel ?_
  | with_reducible refine g_setI ?_
  | with_reducible refine g_forW ?_
  | with_reducible refine g_asg ?_
  | with_reducible refine g_var (by with_unfolding_all exact rfl) ?_
  | with_reducible refine g_int ?_
  | with_reducible refine g_str ?_
  | with_reducible refine g_bl ?_
  | with_reducible refine g_non ?_
  | with_reducible refine g_ty ?_
  | with_reducible refine g_test ?_
  | with_reducible refine g_tB ?_
  | with_reducible refine g_tnot ?_
  | with_reducible refine g_cons ?_
  | with_reducible refine g_nil ?_
  | with_reducible refine g_op ro_eq ?_
  | with_reducible refine g_op ro_ne ?_
  | with_reducible refine g_op ro_ixL ?_
  | with_reducible refine g_op ro_ixT ?_
  | with_reducible refine g_op ro_ixS ?_
  | with_reducible refine g_op ro_in ?_
  | with_reducible refine g_op ro_notIn ?_
  | with_reducible refine g_op ro_addS ?_
  | with_reducible refine g_op ro_add ?_
  | with_reducible refine g_op ro_sub ?_
  | with_reducible refine g_op ro_lt ?_
  | with_reducible refine g_op ro_le ?_
  | with_reducible refine g_op ro_gt ?_
  | with_reducible refine g_op ro_ge ?_
  | with_reducible refine g_op ro_isN ?_
  | with_reducible refine g_op ro_notN ?_
  | with_reducible refine g_op ro_inSign ?_
  | with_reducible refine g_op ro_notInSign ?_
  | with_reducible refine g_op ro_leS ?_
  | with_reducible refine g_op ro_ltS ?_
  | with_reducible refine g_op ro_catA ?_
  | with_reducible refine g_op ro_catT ?_
  | with_reducible refine g_op ro_mul ?_
  | with_reducible refine g_op ro_pow ?_
  | with_reducible refine g_op ro_mod ?_
  | with_reducible refine g_op ro_div ?_
  | with_reducible refine g_un uo_neg ?_
  | with_reducible refine g_chain ro_le ro_le ?_
  | with_reducible refine g_chain ro_le ro_lt ?_
  | with_reducible refine g_cb co_len ?_
  | with_reducible refine g_cb co_lenS ?_
  | with_reducible refine g_cb co_lenD ?_
  | with_reducible refine g_cb co_isi ?_
  | with_reducible refine g_cb co_isiT ?_
  | with_reducible refine g_cb co_all ?_
  | with_reducible refine g_cb co_any ?_
  | with_reducible refine g_cb co_int1 ?_
  | with_reducible refine g_cb co_intS ?_
  | with_reducible refine g_cb co_strI ?_
  | with_reducible refine g_cb co_strS ?_
  | with_reducible refine g_cb co_tuple ?_
  | with_reducible refine g_cb co_strU ?_
  | with_reducible refine g_cb co_lenSetK ?_
  | with_reducible refine g_cb co_repr ?_
  | with_reducible refine g_op ro_ixU ?_
  | with_reducible refine g_op ro_eqE ?_
  | with_reducible refine g_op ro_neE ?_
  | with_reducible refine g_op ro_eqSm ?_
  | with_reducible refine g_op ro_neSm ?_
  | with_reducible refine g_op ro_eqSs ?_
  | with_reducible refine g_wseq ?_
  | with_reducible refine g_scW ?_
  | with_reducible refine g_kget ?_
  | with_reducible refine g_m0 mo_isdigit ?_
  | with_reducible refine g_m0 mo_isascii ?_
  | with_reducible refine g_star ?_
  | with_reducible refine g_cb co_sortedS ?_
  | with_reducible refine g_cb co_sortedI ?_
  | with_reducible refine g_fld ?_
  | with_reducible refine g_xf ?_
  | with_reducible refine g_tup ?_
  | with_reducible refine g_dget ?_
  | with_reducible refine g_din ?_
  | with_reducible refine g_dnotin ?_
  | with_reducible refine g_dget1 ?_
  | with_reducible refine g_dget2 ?_
  | with_reducible refine g_call ?_
  | with_reducible refine g_callS ?_
  | with_reducible refine g_meth ?_
  | with_reducible refine g_methR ?_
  | with_reducible refine g_m1 mo_split ?_
  | with_reducible refine g_m1 mo_join ?_
  | with_reducible refine g_bm mo_append ?_
  | with_reducible refine g_bm mo_extend ?_
  | with_reducible refine g_bm mo_popAt ?_
  | with_reducible refine g_bm0 mo_pop ?_
  | with_reducible refine g_sl so_list ?_
  | with_reducible refine g_sl so_str ?_
  | with_reducible refine g_sl so_tupA ?_
  | with_reducible refine g_sl so_tup ?_
  | with_reducible refine g_noPart ?_
  | with_reducible refine g_part ?_
  | with_reducible refine g_lcW ?_
  | with_reducible refine g_wlist ?_
  | with_reducible refine g_wtup ?_
  | with_reducible refine g_wstr ?_
  | with_reducible refine g_wenum ?_
  | with_reducible refine g_wrange1 ?_
  | with_reducible refine g_wrange2 ?_
  | with_reducible refine g_join ?_
  | with_reducible refine g_jcons ?_
  | with_reducible refine g_jnil ?_
  | with_reducible refine g_fmt ?_
  | with_reducible refine g_lenSet ?_
  | with_reducible refine g_raise1 ?_
  | with_reducible refine g_raise2 ?_
  | with_reducible refine g_raise0 ?_
  | with_reducible refine g_yes ?_
  | with_reducible refine g_gcons ?_
  | with_reducible refine g_gnil ?_
  | with_reducible refine g_name (by first | trivial | decide) ?_
  | with_reducible refine ⟨_, rfl, ?_⟩
  | with_reducible refine ⟨_, _, rfl, rfl, ?_⟩)
local macro_rules | `(tactic| walk_at "g") => `(tactic| repeat (walk_at "g1"))

local macro_rules | `(tactic| walk_at "ss") => `(tactic| (funext zz; simp only [supd, sdel]; (repeat' split) <;> first | rfl | (subst_vars; first | rfl | contradiction | (simp_all; done)) | (simp_all; done)))
local macro_rules | `(tactic| walk_at "sp") => `(tactic| first
  | with_reducible assumption
  | exact supd_same
  | exact sdel_same
  | exact Eq.trans (supd_ne (by walk_at "ls_ne")) (by walk_at "sp")
  | exact Eq.trans (sdel_ne (by walk_at "ls_ne")) (by walk_at "sp"))
local macro_rules | `(tactic| walk_at "ls_ne") => `(tactic| first | assumption | exact Ne.symm (by assumption) | exact sne (by assumption) (by assumption) | exact Ne.symm (sne (by assumption) (by assumption)))

theorem Pl.down : ∀ {n : Nat} {d : Dat}, Pl (n + 1) d → Pl n d
  | 0, _, h => h.1
  | n + 1, _, h => ⟨h.1, h.2.1, fun x hx => Pl.down (h.2.2 x hx)⟩
theorem pl_tup {n : Nat} {xs : List Dat} (h : ∀ x ∈ xs, Pl n x) (hl : xs.length < 4000) : Pl (n + 1) (.tup xs) := ⟨⟨rfl, fun z h => nomatch h⟩, hl, h⟩
theorem pl_str {n : Nat} {z : Str} (h : z.length ≤ 1000000) : Pl n (.str z) := by
  cases n with
  | zero => exact ⟨rfl, fun y e => by cases e; exact h⟩
  | succ n => exact ⟨⟨rfl, fun y e => by cases e; exact h⟩, (show 0 < 4000 by decide), fun x h => nomatch h⟩
theorem join_short {ws : List Str} (h : ∀ x ∈ ws, x.length ≤ 3000) (hl : ws.length ≤ 2) : (Txt.join " " ws).length ≤ 1000000 := by
  rw [cs_len, cs_join, cs_sp]
  match ws, hl, h with
  | [], _, _ => exact Nat.zero_le _
  | [a], _, h =>
    have := h a (by simp)
    rw [cs_len] at this
    exact Nat.le_trans this (by decide)
  | [a, b], _, h =>
    have h1 := h a (by simp)
    have h2 := h b (by simp)
    rw [cs_len] at h1 h2
    show (cs a ++ 32 :: cs b).length ≤ _
    rw [List.length_append, List.length_cons]
    omega
theorem deed_pl {ws : List Str} (hw : ∀ x ∈ ws, WOkS x) (hl : ws.length ≤ 3000) : Pl 4 (deedOf ws) := by
  have th : ∀ {n : Nat} {xs : List Str}, (∀ x ∈ xs, x ∈ ws) → ∀ d ∈ xs.map thingOf, Pl n d := fun {n xs} h d hd => by
    obtain ⟨x, hx, rfl⟩ := List.mem_map.mp hd
    exact thing_pl (hw x (h x hx))
  unfold deedOf
  split
  · refine pl_tup (fun x hx => ?_) (by rw [List.length_append, List.length_map, List.length_take]; show min 3 ws.length + 1 < 4000; omega)
    rcases List.mem_append.mp hx with hx | hx
    · exact th (fun x hx => List.mem_of_mem_take hx) x hx
    · rw [List.mem_singleton.mp hx]
      refine pl_tup (fun y hy => ?_) (by rw [List.length_map, List.length_drop]; omega)
      obtain ⟨w, hw2, rfl⟩ := List.mem_map.mp hy
      have hw3 := hw w (List.mem_of_mem_drop hw2)
      have h1 := (PyProof.Rows.fact_split w "=").2
      have h2 := hw3.len
      refine pl_tup (fun y hy => ?_) (by rw [List.length_map]; omega)
      obtain ⟨v, hv, rfl⟩ := List.mem_map.mp hy
      exact thing_pl (owner_part hw3 hv)
  · split
    · refine pl_tup (fun x hx => ?_) (by rw [List.length_append, List.length_map, List.length_take]; show min 2 ws.length + 2 < 4000; omega)
      rcases List.mem_append.mp hx with hx | hx
      · exact th (fun x hx => List.mem_of_mem_take hx) x hx
      · rcases List.mem_cons.mp hx with rfl | hx
        · exact pl_str (join_short (fun x hx => (hw x (List.mem_of_mem_drop (List.mem_of_mem_take hx))).len) (by rw [List.length_take]; omega))
        · rw [List.mem_singleton.mp hx]
          exact pl_tup (th fun x hx => List.mem_of_mem_drop hx) (by rw [List.length_map, List.length_drop]; omega)
    · exact pl_tup (th fun x hx => hx) (by rw [List.length_map]; omega)
theorem look_mem {z : Str} {n : Int} (h : lengths.lookup z = some n) : ((z = "do" ∨ z = "stop") ∧ n = 2) ∨ (z = "look" ∧ n = 4) ∨ (z = "put" ∧ n = 4) ∨ (z = "turn" ∧ n = 5) ∨ (z = "strike" ∧ n = 3) := by
  by_cases h1 : z = "put"
  · rw [h1, put_four] at h
    exact .inr (.inr (.inl ⟨h1, (Option.some.inj h).symm⟩))
  by_cases h2 : z = "turn"
  · rw [h2, look_turn] at h
    exact .inr (.inr (.inr (.inl ⟨h2, (Option.some.inj h).symm⟩)))
  by_cases h3 : z = "strike"
  · rw [h3, look_strike] at h
    exact .inr (.inr (.inr (.inr ⟨h3, (Option.some.inj h).symm⟩)))
  by_cases h4 : z = "look"
  · rw [h4, look_look] at h
    exact .inr (.inl ⟨h4, (Option.some.inj h).symm⟩)
  by_cases h5 : z = "do"
  · rw [h5, look_do] at h
    exact .inl ⟨.inl h5, (Option.some.inj h).symm⟩
  by_cases h6 : z = "stop"
  · rw [h6, look_stop] at h
    exact .inl ⟨.inr h6, (Option.some.inj h).symm⟩
  rw [look_other h1 h2 h3 h4 h5 h6] at h
  cases h
theorem deed_inv {d : Dat} (h : deedD d = true) : rowQ d = true ∧ 0 < (itemsD d).length ∧ itD d 0 = .str (strOf (itD d 0)) ∧ lengths.lookup (strOf (itD d 0)) = some ((itemsD d).length : Int) ∧ (strOf (itD d 0) = "put" → ownersD (itD d 3) = true) := by
  unfold deedD at h
  simp only [Bool.and_eq_true, decide_eq_true_eq, Bool.or_eq_true, Bool.not_eq_true', decide_eq_false_iff_not] at h
  exact ⟨h.1, h.2.1, str_of h.2.2.1, h.2.2.2.1, fun e => h.2.2.2.2.resolve_left fun n => n e⟩
theorem items_two {d : Dat} (h : (itemsD d).length = 2) : itemsD d = [itD d 0, itD d 1] := by
  unfold itD
  match hd : itemsD d, h with
  | [a, b], _ => rfl
section
variable {P : Program} {w : World} {K : PySem.W.Frag} {mg : Str → Option Value} {base : Heap}
/-! ### _has_line -/
abbrev s__has_line : Stmt := topS 19
theorem sc__has_line : FnScope ["thing", "word", "column", "owner"] ["thing"] (defScope s__has_line) := ⟨rfl, rfl, rfl, by decide +kernel, rfl, by decide +kernel, by decide +kernel⟩
abbrev N__has_line : List Str := ["thing", "word", "column", "owner"]
def aHas : ASp := fun ds s Q _ => ∃ d, ds = [d] ∧ Pl 4 d ∧ Q (.bl (hasLineD d)) s
theorem a_has {f : Addr} {fd : FuncData} (F : Fun K "_has_line" "_has_line" s__has_line f fd) (T : Bt mg) (O_is_deed : Own P w K mg base CX0 4 "is_deed" ["deed"] (conc K aIsDeed)) (O_is_name : Own P w K mg base CX0 1 "is_name" ["thing"] (conc K aIsName)) (O_is_number : Own P w K mg base CX0 1 "is_number" ["thing"] (conc K aIsNum))
    (O__is_piece : Own P w K mg base CX0 2 "_is_piece" ["thing"] (conc K aIsPiece)) (O__is_list : Own P w K mg base CX0 2 "_is_list" ["thing"] (conc K aIsList)) : FnOk P w K mg base CX0 5 f fd ["thing"] (conc K aHas) := by
  refine a_ok F sc__has_line (fun ds s Q E h => ?_) (fun cdv A outer s0 H0 E hr => ?_)
  · obtain ⟨d, rfl, _⟩ := h
    rfl
  · have hu := hu_of hr
    refine ⟨_, (pss_cons (ps_if (pt_not (pt_val (own_call O_is_deed hr (by first | decide | omega) (pa_cons (pv 0) pa_nil)))) (pss_one (ps_ret pe_bl)) pss_nil)
      (pss_cons (ps_set (i := 1) sc__has_line.nd rfl (Or.inl rfl) (pe_ix (ixU K) (pv 0) pe_int (fun _ _ => rfl)))
      (pss_cons (ps_if (pt_cmpR (in_seq K) (pv 1) (pe_tup (pa_cons pe_str (pa_cons pe_str pa_nil))) (by rfl)) (pss_one (ps_ret (own_call O_is_number hr (by first | decide | omega) (pa_cons (pe_ix (ixU K) (pv 0) pe_int (fun _ _ => rfl)) pa_nil)))) pss_nil)
      (pss_cons (ps_if (pt_cmpR op_eq (pv 1) pe_str (nomark _)) (pss_one (ps_ret (pe_and (own_call O_is_number hr (by first | decide | omega) (pa_cons (pe_ix (ixU K) (pv 0) pe_int (fun _ _ => rfl)) pa_nil)) (pe_and (own_call O__is_piece hr (by first | decide | omega) (pa_cons (pe_ix (ixU K) (pv 0) pe_int (fun _ _ => rfl)) pa_nil)) (pe_one (own_call O__is_list hr (by first | decide | omega) (pa_cons (pe_ix (ixU K) (pv 0) pe_int (fun _ _ => rfl)) pa_nil))))))) pss_nil)
      (pss_cons (ps_if (PW.pt (pw_or (pt_not (pt_val (own_call O_is_name hr (by first | decide | omega) (pa_cons (pe_ix (ixU K) (pv 0) pe_int (fun _ _ => rfl)) pa_nil)))) (pw_or1 (pt_not (pt_val (own_call O_is_number hr (by first | decide | omega) (pa_cons (pe_ix (ixU K) (pv 0) pe_int (fun _ _ => rfl)) pa_nil))))))) (pss_one (ps_ret pe_bl)) pss_nil)
      (pss_cons (ps_if (pt_cmpR op_eq (pv 1) pe_str (nomark _)) (pss_one (ps_ret (pe_callB (cr_all rfl) (by rfl) T.m_all (by decide +kernel) (pa_cons (pe_lc (own := [("column", 2), ("owner", 3)]) (g := gSeq K 2 (gCons (gName 2) (gCons (gName 3) gNil))) (by rfl) sc__has_line.nd (pi_seq (pe_ix (ixU K) (pv 0) pe_int (fun _ _ => rfl))) (blkOk_by (own := [("column", 2), ("owner", 3)]) (N := N__has_line) (sc := defScope s__has_line) (by decide +kernel)) (fun _ _ _ _ _ => (pg_seq rfl (pgs_cons (pg_name (i := 2) sc__has_line.nd rfl (Or.inl rfl) (Or.inr rfl)) (pgs_cons (pg_name (i := 3) sc__has_line.nd rfl (Or.inl rfl) (Or.inr rfl)) pgs_nil)))) (fun _ _ _ _ _ => pts_nil) (fun _ _ _ _ _ => (own_call O_is_name hr (by first | decide | omega) (pa_cons (pv 2) pa_nil)))) pa_nil)))) pss_nil)
      (pss_one (ps_ret (pe_or (pe_cmpR op_eq (pv 1) pe_str (nomark _)) (pe_one (pe_and (own_call O_is_name hr (by first | decide | omega) (pa_cons (pe_ix (ixU K) (pv 0) pe_int (fun _ _ => rfl)) pa_nil)) (pe_one (pe_or (pe_cmpR op_isN (pe_ix (ixU K) (pv 0) pe_int (fun _ _ => rfl)) pe_non (nomark _)) (pe_one (own_call O_is_number hr (by first | decide | omega) (pa_cons (pe_ix (ixU K) (pv 0) pe_int (fun _ _ => rfl)) pa_nil)))))))))))))))), ?_⟩
    rintro ds s Q E ⟨d, rfl, hp, q⟩
    try simp only [nox_K, cx_K]
    walk_at "g"
    refine ⟨d, rfl, hp.down, ?_⟩
    walk_at "g"
    refine ⟨fun e => ?_, fun e => ?_⟩
    · walk_at "g"
      have : hasLineD d = false := by unfold hasLineD; rw [show deedD d = false by simpa using e]; rfl
      rw [this] at q
      exact q
    · have e0 : deedD d = true := by simpa using e
      obtain ⟨e1, l0, e2, lk, ow⟩ := deed_inv e0
      have hq : hasLineD d = (if strOf (itD d 0) = "do" ∨ strOf (itD d 0) = "stop" then numD (itD d 1) else if strOf (itD d 0) = "look" then numD (itD d 1) && (pieceD (itD d 2) && listD (itD d 3)) else
          (nameD (itD d 1) && numD (itD d 2)) && (if strOf (itD d 0) = "put" then (itemsD (itD d 3)).all (fun p => nameD (itD p 0)) else decide (strOf (itD d 0) = "strike") || (nameD (itD d 3) && (nonQ (itD d 4) || numD (itD d 4))))) := by
        unfold hasLineD
        rw [e0, Bool.true_and]
      rw [hq] at q
      generalize hz : strOf (itD d 0) = z at e2 lk ow q
      walk_at "g"
      refine ⟨_, _, _, row_seq e1, rfl, itD_at (i := 0) l0, ?_⟩
      rw [e2]
      walk_at "g"
      refine ⟨by decide, ?_⟩
      refine ⟨_, InD.strs (l := ["do", "stop"]) (.inr (.inl rfl)), ?_⟩
      walk_at "g"
      refine ⟨fun e3 => ?_, fun e3 => ?_⟩
      · have e4 : z = "do" ∨ z = "stop" := by simpa using e3
        rw [if_pos e4] at q
        have l2 : (itemsD d).length = 2 := by
          rcases look_mem lk with h | h | h | h | h
          · omega
          all_goals (rcases e4 with e4 | e4 <;> rw [e4] at h <;> exact absurd h.1 (by decide +kernel))
        walk_at "g"
        refine ⟨_, _, _, row_seq e1, rfl, itD_at (d := d) (i := 1) (by omega), ?_⟩
        walk_at "g"
        exact ⟨_, rfl, (hp.it (by omega)).p, q⟩
      · have e4 : ¬ (z = "do" ∨ z = "stop") := by simpa using e3
        rw [if_neg e4] at q
        walk_at "g"
        refine ⟨fun e5 => ?_, fun e5 => ?_⟩
        · have e6 : z = "look" := of_decide_eq_true e5
          rw [if_pos e6] at q
          have l4 : (itemsD d).length = 4 := by
            rw [e6, look_look] at lk
            have := Option.some.inj lk
            omega
          walk_at "g"
          refine g_and ?_
          walk_at "g"
          refine ⟨_, _, _, row_seq e1, rfl, itD_at (d := d) (i := 1) (by omega), ?_⟩
          walk_at "g"
          refine ⟨_, rfl, (hp.it (by omega)).p, ?_⟩
          walk_at "g"
          refine ⟨fun e7 => ?_, fun e7 => ?_⟩
          · rw [e7, Bool.true_and] at q
            refine g_and ?_
            walk_at "g"
            refine ⟨_, _, _, row_seq e1, rfl, itD_at (d := d) (i := 2) (by omega), ?_⟩
            walk_at "g"
            refine ⟨_, rfl, (hp.it (by omega)).down.down.down, ?_⟩
            walk_at "g"
            refine ⟨fun e8 => ?_, fun e8 => ?_⟩
            · rw [e8, Bool.true_and] at q
              walk_at "g"
              refine ⟨_, _, _, row_seq e1, rfl, itD_at (d := d) (i := 3) (by omega), ?_⟩
              walk_at "g"
              exact ⟨_, rfl, (hp.it (by omega)).down.down, q⟩
            · rw [e8] at q
              exact q
          · rw [e7] at q
            exact q
        · have e6 : ¬ z = "look" := of_decide_eq_false e5
          rw [if_neg e6] at q
          have l3 : 3 ≤ (itemsD d).length := by
            rcases look_mem lk with h | h | h | h | h
            · exact absurd h.1 e4
            · exact absurd h.1 e6
            all_goals omega
          walk_at "g"
          refine Tv.use (b := !(nameD (itD d 1) && numD (itD d 2))) ?_ ⟨fun e7 => ?_, fun e7 => ?_⟩
          · rw [Bool.not_and]
            refine t_or (t_not (t_B ?_)) fun _ => t_not (t_B ?_)
            · unfold Gv
              walk_at "g"
              refine ⟨_, _, _, row_seq e1, rfl, itD_at (d := d) (i := 1) (by omega), ?_⟩
              walk_at "g"
              exact ⟨_, rfl, (hp.it (by omega)).p, (hp.it (by omega)).s, rfl, rfl⟩
            · unfold Gv
              walk_at "g"
              refine ⟨_, _, _, row_seq e1, rfl, itD_at (d := d) (i := 2) (by omega), ?_⟩
              walk_at "g"
              exact ⟨_, rfl, (hp.it (by omega)).p, rfl, rfl⟩
          · rw [not_t e7] at q
            walk_at "g"
            exact q
          · rw [not_f e7, Bool.true_and] at q
            walk_at "g"
            refine ⟨fun e8 => ?_, fun e8 => ?_⟩
            · have e9 : z = "put" := of_decide_eq_true e8
              rw [if_pos e9] at q
              have ow2 := ow e9
              have l4 : (itemsD d).length = 4 := by
                rw [e9, put_four] at lk
                have := Option.some.inj lk
                omega
              have p3 := hp.it (i := 3) (by omega)
              have r3 : rowQ (itD d 3) = true := by
                unfold ownersD at ow2
                rw [Bool.and_eq_true] at ow2
                exact ow2.1
              have each : ∀ x ∈ itemsD (itD d 3), pairD x = true := by
                unfold ownersD at ow2
                rw [Bool.and_eq_true, Bool.and_eq_true] at ow2
                exact List.all_eq_true.mp ow2.2.1
              walk_at "g"
              refine ⟨_, _, _, row_seq e1, rfl, itD_at (d := d) (i := 3) (by omega), ?_⟩
              refine ⟨_, row_ref r3, ?_⟩
              refine LcW.map (itemsD (itD d 3)) id (fun x => .bl (nameD (itD x 0))) (List.map_id _).symm (Nat.lt_trans p3.2.1 (by decide)) trivial (fun x hx => ?_) ?_
              · obtain ⟨q1, q2, q3⟩ := pair_str (each x hx)
                have px := p3.2.2 x hx
                refine g_gseq (ds := [itD x 0, itD x 1]) (by rw [← items_two q2]; exact row_seq q1) rfl ?_
                walk_at "g"
                exact ⟨_, rfl, (px.it (by omega)).p, (px.it (by omega)).s, rfl, rfl⟩
              · walk_at "g"
                refine ⟨_, (itemsD (itD d 3)).map fun x => nameD (itD x 0), rfl, .inl (by rw [List.map_map]; rfl), ?_⟩
                rw [List.all_map]
                exact q
            · have e9 : ¬ z = "put" := of_decide_eq_false e8
              rw [if_neg e9] at q
              walk_at "g"
              refine g_or ?_
              walk_at "g"
              refine ⟨fun e10 => ?_, fun e10 => ?_⟩
              · rw [e10] at q
                exact q
              · rw [e10, Bool.false_or] at q
                have l5 : (itemsD d).length = 5 := by
                  rcases look_mem lk with h | h | h | h | h
                  · exact absurd h.1 e4
                  · exact absurd h.1 e6
                  · exact absurd h.1 e9
                  · omega
                  · exact absurd h.1 (of_decide_eq_false e10)
                refine g_and ?_
                walk_at "g"
                refine ⟨_, _, _, row_seq e1, rfl, itD_at (d := d) (i := 3) (by omega), ?_⟩
                walk_at "g"
                refine ⟨_, rfl, (hp.it (by omega)).p, (hp.it (by omega)).s, ?_⟩
                walk_at "g"
                refine ⟨fun e11 => ?_, fun e11 => ?_⟩
                · rw [e11, Bool.true_and] at q
                  refine g_or ?_
                  walk_at "g"
                  refine ⟨_, _, _, row_seq e1, rfl, itD_at (d := d) (i := 4) (by omega), ?_⟩
                  walk_at "g"
                  refine ⟨rfl, ?_⟩
                  rw [show isNon (itD d 4) = nonQ (itD d 4) by cases itD d 4 <;> rfl]
                  walk_at "g"
                  refine ⟨fun e12 => ?_, fun e12 => ?_⟩
                  · rw [e12] at q
                    exact q
                  · rw [e12, Bool.false_or] at q
                    walk_at "g"
                    refine ⟨_, _, _, row_seq e1, rfl, itD_at (d := d) (i := 4) (by omega), ?_⟩
                    walk_at "g"
                    exact ⟨_, rfl, (hp.it (by omega)).p, q⟩
                · rw [e11] at q
                  exact q
end
end AL
namespace AL
open PySem PySem.Spec PyProof.Rows L2 Ls
/-! ### short steps over data -/
local macro_rules | `(tactic| walk_at "gsq") => `(tactic| first
  | exact .inl rfl | exact .inr (.inl rfl) | exact .inr (.inr (.inl rfl)) | exact .inr (.inr (.inr ⟨_, rfl, by assumption⟩)) | exact .inr ⟨_, rfl, by assumption⟩ | exact .inr rfl)
local macro_rules | `(tactic| walk_at "g1") => `(tactic| first
  | with_reducible refine g_seq ?_
  | with_reducible refine g_ret ?_
  | with_reducible refine g_set ?_
  | with_reducible refine g_if ?_
  | with_reducible refine g_retN ?_
  | with_reducible refine g_drop ?_
  | with_reducible refine g_next ?_
  | with_reducible refine g_par ?_
  | with_reducible refine g_sfld ?_
  | with_reducible refine g_dput ?_
  | with_reducible refine g_ddel ?_
  | with_reducible refine g_setI ?_
  | with_reducible refine g_forW ?_
  | with_reducible refine g_asg ?_
  | with_reducible refine g_var (by with_unfolding_all exact rfl) ?_
  | with_reducible refine g_int ?_
  | with_reducible refine g_str ?_
  | with_reducible refine g_bl ?_
  | with_reducible refine g_non ?_
  | with_reducible refine g_ty ?_
  | with_reducible refine g_test ?_
  | with_reducible refine g_tB ?_
  | with_reducible refine g_tnot ?_
  | with_reducible refine g_cons ?_
  | with_reducible refine g_nil ?_
  | with_reducible refine g_op ro_eq ?_
  | with_reducible refine g_op ro_ne ?_
  | with_reducible refine g_op ro_ixL ?_
  | with_reducible refine g_op ro_ixT ?_
  | with_reducible refine g_op ro_ixS ?_
  | with_reducible refine g_op ro_in ?_
  | with_reducible refine g_op ro_notIn ?_
  | with_reducible refine g_op ro_addS ?_
  | with_reducible refine g_op ro_add ?_
  | with_reducible refine g_op ro_sub ?_
  | with_reducible refine g_op ro_lt ?_
  | with_reducible refine g_op ro_le ?_
  | with_reducible refine g_op ro_gt ?_
  | with_reducible refine g_op ro_ge ?_
  | with_reducible refine g_op ro_isN ?_
  | with_reducible refine g_op ro_notN ?_
  | with_reducible refine g_op ro_inSign ?_
  | with_reducible refine g_op ro_notInSign ?_
  | with_reducible refine g_op ro_leS ?_
  | with_reducible refine g_op ro_ltS ?_
  | with_reducible refine g_op ro_catA ?_
  | with_reducible refine g_op ro_catT ?_
  | with_reducible refine g_op ro_mul ?_
  | with_reducible refine g_op ro_pow ?_
  | with_reducible refine g_op ro_mod ?_
  | with_reducible refine g_op ro_div ?_
  | with_reducible refine g_un uo_neg ?_
  | with_reducible refine g_chain ro_le ro_le ?_
  | with_reducible refine g_chain ro_le ro_lt ?_
  | with_reducible refine g_cb co_len ?_
  | with_reducible refine g_cb co_lenS ?_
  | with_reducible refine g_cb co_lenD ?_
  | with_reducible refine g_cb co_isi ?_
  | with_reducible refine g_cb co_isiT ?_
  | with_reducible refine g_cb co_all ?_
  | with_reducible refine g_cb co_any ?_
  | with_reducible refine g_cb co_int1 ?_
  | with_reducible refine g_cb co_intS ?_
  | with_reducible refine g_cb co_strI ?_
  | with_reducible refine g_cb co_strS ?_
  | with_reducible refine g_cb co_tuple ?_
  | with_reducible refine g_cb co_strU ?_
  | with_reducible refine g_cb co_lenSetK ?_
  | with_reducible refine g_cb co_repr ?_
  | with_reducible refine g_op ro_ixU ?_
  | with_reducible refine g_op ro_eqE ?_
  | with_reducible refine g_op ro_neE ?_
  | with_reducible refine g_op ro_eqSm ?_
  | with_reducible refine g_op ro_neSm ?_
  | with_reducible refine g_op ro_eqSs ?_
  | with_reducible refine g_wseq ?_
  | with_reducible refine g_scW ?_
  | with_reducible refine g_kget ?_
  | with_reducible refine g_m0 mo_isdigit ?_
  | with_reducible refine g_m0 mo_isascii ?_
  | with_reducible refine g_star ?_
  | with_reducible refine g_cb co_sortedS ?_
  | with_reducible refine g_cb co_sortedI ?_
  | with_reducible refine g_fld ?_
  | with_reducible refine g_xf ?_
  | with_reducible refine g_tup ?_
  | with_reducible refine g_dget ?_
  | with_reducible refine g_din ?_
  | with_reducible refine g_dnotin ?_
  | with_reducible refine g_dget1 ?_
  | with_reducible refine g_dget2 ?_
  | with_reducible refine g_call ?_
  | with_reducible refine g_callS ?_
  | with_reducible refine g_meth ?_
  | with_reducible refine g_methR ?_
  | with_reducible refine g_m1 mo_split ?_
  | with_reducible refine g_m1 mo_join ?_
  | with_reducible refine g_bm mo_append ?_
  | with_reducible refine g_bm mo_extend ?_
  | with_reducible refine g_bm mo_popAt ?_
  | with_reducible refine g_bm0 mo_pop ?_
  | with_reducible refine g_sl so_list ?_
  | with_reducible refine g_sl so_str ?_
  | with_reducible refine g_sl so_tupA ?_
  | with_reducible refine g_sl so_tup ?_
  | with_reducible refine g_noPart ?_
  | with_reducible refine g_part ?_
  | with_reducible refine g_lcW ?_
  | with_reducible refine g_wlist ?_
  | with_reducible refine g_wtup ?_
  | with_reducible refine g_wstr ?_
  | with_reducible refine g_wenum ?_
  | with_reducible refine g_wrange1 ?_
  | with_reducible refine g_wrange2 ?_
  | with_reducible refine g_join ?_
  | with_reducible refine g_jcons ?_
  | with_reducible refine g_jnil ?_
  | with_reducible refine g_fmt ?_
  | with_reducible refine g_lenSet ?_
  | with_reducible refine g_raise1 ?_
  | with_reducible refine g_raise2 ?_
  | with_reducible refine g_raise0 ?_
  | with_reducible refine g_yes ?_
  | with_reducible refine g_gcons ?_
  | with_reducible refine g_gnil ?_
  | with_reducible refine g_name (by first | trivial | decide) ?_
  | with_reducible refine ⟨_, rfl, ?_⟩
  | with_reducible refine ⟨_, _, rfl, rfl, ?_⟩)
local macro_rules | `(tactic| walk_at "g") => `(tactic| repeat (walk_at "g1"))

local macro_rules | `(tactic| walk_at "ss") => `(tactic| (funext zz; simp only [supd, sdel]; (repeat' split) <;> first | rfl | (subst_vars; first | rfl | contradiction | (simp_all; done)) | (simp_all; done)))
local macro_rules | `(tactic| walk_at "sp") => `(tactic| first
  | with_reducible assumption
  | exact supd_same
  | exact sdel_same
  | exact Eq.trans (supd_ne (by walk_at "ls_ne")) (by walk_at "sp")
  | exact Eq.trans (sdel_ne (by walk_at "ls_ne")) (by walk_at "sp"))
local macro_rules | `(tactic| walk_at "ls_ne") => `(tactic| first | assumption | exact Ne.symm (by assumption) | exact sne (by assumption) (by assumption) | exact Ne.symm (sne (by assumption) (by assumption)))

/-- a line that can be looked at -/
structure LnOk (z : Str) : Prop where
  asc : ∀ c ∈ cs z, c < 128
  run : runB 30 0 (cs z) = true
  len : z.length ≤ 2900
theorem LnOk.words {z : Str} (h : LnOk z) : ∀ x ∈ Txt.split z " ", WOkS x := fun x hx => by
  obtain ⟨a, b, e⟩ := split_infix hx
  refine ⟨fun c hc => h.asc c ?_, ?_, Nat.le_trans (PyProof.Rows.part_short hx) (Nat.le_trans h.len (by decide))⟩
  · rw [e]
    exact List.mem_append_right _ (List.mem_append_left _ hc)
  · have := h.run
    rw [e] at this
    exact runB_left (runB_right this)
theorem LnOk.many {z : Str} (h : LnOk z) : (Txt.split z " ").length ≤ 3000 := by
  have h1 := (PyProof.Rows.fact_split z " ").2
  have h2 := h.len
  omega
/-- whether a line writes a deed -/
def lnB (z : Str) : Bool := lineOk (Txt.split z " ")
theorem LnOk.same {z : Str} (h : LnOk z) : hasLineD (deedOf (Txt.split z " ")) = lnB z := line_same (split_ne _ _) h.words fun x hx => sp_free hx
section
variable {P : Program} {w : World} {K : PySem.W.Frag} {mg : Str → Option Value} {base : Heap}
/-! ### read_weaving -/
abbrev s_read_weaving : Stmt := topS 18
theorem sc_read_weaving : FnScope ["text", "weaving", "index", "line", "deed"] ["text"] (defScope s_read_weaving) := ⟨rfl, rfl, rfl, by decide +kernel, rfl, by decide +kernel, by decide +kernel⟩
abbrev N_read_weaving : List Str := ["text", "weaving", "index", "line", "deed"]
def aRead (C : Addr) : ASp := fun ds s Q E => ∃ (z : Str) (ls : List Str), ds = [.str z] ∧ z.length ≤ 1000000 ∧ ls = Txt.split z "\n" ∧ ls.length ≤ 1000000 ∧ (∀ l ∈ ls, LnOk l) ∧ (z = "" → Q (.lst []) s) ∧
  (z ≠ "" → (∀ l ∈ ls, lnB l = true) → Q (.lst (ls.map fun l => deedOf (Txt.split l " "))) s) ∧
  (z ≠ "" → ∀ (i : Nat) l, ls[i]? = some l → lnB l = false → (∀ j l', j < i → ls[j]? = some l' → lnB l' = true) → E (.ref C) [("index", .int (i : Nat))] s)
theorem a_read {C : Addr} {f : Addr} {fd : FuncData} (F : Fun K "read_weaving" "read_weaving" s_read_weaving f fd) (T : Bt mg) (T2 : BtA mg) (O_BadLine : OwnX P w K mg base "BadLine" ["index"] (spI1 C "index") C) (O__deed_of : Own P w K mg base CX0 2 "_deed_of" ["words"] (conc K aDeedOf)) (O__has_line : Own P w K mg base CX0 5 "_has_line" ["thing"] (conc K aHas)) : FnOk P w K mg base (L2.CX P w) 6 f fd ["text"] (conc K (aRead C)) := by
  refine a_okX F sc_read_weaving (fun ds s Q E h => ?_) (fun cdv A outer s0 H0 E hr => ?_)
  · obtain ⟨z, ls, rfl, _⟩ := h
    rfl
  · have hu := hu_of hr
    refine ⟨_, (pss_cons (ps_if (pt_cmpR op_eq (pv 0) pe_str (nomark _)) (pss_one (ps_ret (pe_lst pa_nil))) pss_nil)
      (pss_cons (ps_set (i := 1) sc_read_weaving.nd rfl (Or.inl rfl) (pe_lst pa_nil))
      (pss_cons (ps_for own_def rfl (pi_enum (by rfl) T2.m_enumerate (pa_cons (pe_split (pv 0) pe_str) pa_nil)) (pg_tup rfl (pgs_cons (pg_name (i := 2) sc_read_weaving.nd rfl (Or.inl rfl)) (pgs_cons (pg_name (i := 3) sc_read_weaving.nd rfl (Or.inl rfl)) pgs_nil))) (pss_cons (ps_set (i := 4) sc_read_weaving.nd rfl (Or.inl rfl) (own_call O__deed_of hr (by first | decide | omega) (pa_cons (pe_split (pv 3) pe_str) pa_nil)))
      (pss_cons (ps_if (pt_not (pt_val (own_call O__has_line hr (by first | decide | omega) (pa_cons (pv 4) pa_nil)))) (pss_one (ps_err rfl takes_def (pmk_err1 O_BadLine (hr.mono (by decide)) (pa_cons (pv 2) pa_nil)))) pss_nil)
      (pss_one (ps_expr (pe_bm PySem.F.plainAttrs_list PySem.F.slot_list_append PySem.F.type_list_append mt_append (pv 1) (pa_cons (pv 4) pa_nil)))))))
      (pss_one (ps_ret (pv 1)))))), ?_⟩
    rintro ds s Q Ea ⟨z, ls, rfl, hz, el, hl, hw, q0, q1, q2⟩
    try simp only [nox_K, cx_K]
    walk_at "g"
    refine ⟨fun e => ?_, fun e => ?_⟩
    · walk_at "g"
      refine g_lst (g_nil ⟨by decide, ?_⟩)
      exact q0 (of_decide_eq_true e)
    · have ez : z ≠ "" := of_decide_eq_false e
      walk_at "g"
      refine g_lstM (g_nil ⟨by decide, fun p hp => ?_⟩)
      walk_at "g"
      refine ⟨⟨_, rfl⟩, ?_⟩
      walk_at "g"
      refine ⟨by decide, Nat.le_trans (Nat.add_le_add_right hz 2) (by decide), ?_⟩
      rw [← el]
      walk_at "g"
      refine ⟨_, _, rfl, .inl ⟨rfl, ?_⟩⟩
      let D : Str → Dat := fun l => deedOf (Txt.split l " ")
      refine ForW.mk (List.range ls.length) (fun i => .tup [.int (i : Nat), .str (ls.getD i "")]) (enum_strs ls) (fun i γ' s' => ∃ a b c, γ' = [some (.str z), some (.ref p), a, b, c] ∧ s' = supd s p (.raw (.lst ((ls.take i).map D))) ∧ ∀ j l', j < i → ls[j]? = some l' → lnB l' = true) ?_ (fun _ _ _ _ _ => trivial) ?_ ?_
      · exact ⟨none, none, none, rfl, rfl, fun j l' h => absurd h (Nat.not_lt_zero j)⟩
      · rintro i x γ' s' hx ⟨a, b, c, rfl, rfl, ok⟩
        obtain ⟨hi, rfl⟩ := rng_at hx
        have hg : ls[x]? = some (ls.getD x "") := by rw [List.getD_eq_getElem?_getD, List.getElem?_eq_getElem hi]; rfl
        have hm : ls.getD x "" ∈ ls := List.mem_of_getElem? hg
        generalize hline : ls.getD x "" = line at hg hm
        have hk := hw line hm
        refine g_gtup (.inl rfl) rfl ?_
        walk_at "g"
        refine ⟨⟨_, rfl⟩, ?_⟩
        walk_at "g"
        refine ⟨by decide, Nat.le_trans (Nat.add_le_add_right hk.len 2) (by decide), ?_⟩
        walk_at "g"
        refine ⟨_, rfl, split_ne _ _, hk.many, hk.words, ?_⟩
        walk_at "g"
        refine ⟨_, rfl, deed_pl hk.words hk.many, ?_⟩
        rw [hk.same]
        walk_at "g"
        refine ⟨fun e2 => ?_, fun e2 => ?_⟩
        · refine GS.drop (s' := s) ?_ fun a c h => by rw [supd_ne (sne h hp)]; exact h
          walk_at "g"
          exact q2 ez x line hg (not_t e2) ok
        · walk_at "g"
          refine ⟨.inl ⟨rfl, _, .inr ⟨p, rfl, supd_same⟩⟩, ?_⟩
          walk_at "g"
          refine ⟨p, _, _, rfl, rfl, supd_same, ?_, _, _, _, rfl, ?_, fun j l' hj hl' => ?_⟩
          · rw [List.length_map, List.length_take]
            exact Nat.lt_of_le_of_lt (Nat.le_trans (Nat.min_le_right _ _) hl) (by decide)
          · rw [supd_supd, List.take_add_one, hg, List.map_append]
            rfl
          · rcases Nat.lt_or_ge j x with h | h
            · exact ok j l' h hl'
            · have : j = x := by omega
              subst this
              rw [hg] at hl'
              cases hl'
              exact not_f e2
      · rintro γ' s' ⟨a, b, c, rfl, rfl, ok⟩
        rw [List.length_range] at ok ⊢
        rw [List.take_length]
        refine g_retF rfl supd_same ?_
        rw [sdel_supd hp]
        exact q1 ez fun l hl => by
          obtain ⟨j, hj, e⟩ := List.getElem_of_mem hl
          exact ok j l hj (by rw [List.getElem?_eq_getElem hj, e])
end
end AL
namespace AL
open PySem PySem.Spec PyProof.Rows L2 Ls
/-! ### short steps over data -/
local macro_rules | `(tactic| walk_at "gsq") => `(tactic| first
  | exact .inl rfl | exact .inr (.inl rfl) | exact .inr (.inr (.inl rfl)) | exact .inr (.inr (.inr ⟨_, rfl, by assumption⟩)) | exact .inr ⟨_, rfl, by assumption⟩ | exact .inr rfl)
local macro_rules | `(tactic| walk_at "g1") => `(tactic| first
  | with_reducible refine g_seq ?_
  | with_reducible refine g_ret ?_
  | with_reducible refine g_set ?_
  | with_reducible refine g_if ?_
  | with_reducible refine g_retN ?_
  | with_reducible refine g_drop ?_
  | with_reducible refine g_next ?_
  | with_reducible refine g_par ?_
  | with_reducible refine g_sfld ?_
  | with_reducible refine g_dput ?_
  | with_reducible refine g_ddel ?_
  | with_reducible refine g_setI ?_
  | with_reducible refine g_forW ?_
  | with_reducible refine g_asg ?_
  | with_reducible refine g_var (by with_unfolding_all exact rfl) ?_
  | with_reducible refine g_int ?_
  | with_reducible refine g_str ?_
  | with_reducible refine g_bl ?_
  | with_reducible refine g_non ?_
  | with_reducible refine g_ty ?_
  | with_reducible refine g_test ?_
  | with_reducible refine g_tB ?_
  | with_reducible refine g_tnot ?_
  | with_reducible refine g_cons ?_
  | with_reducible refine g_nil ?_
  | with_reducible refine g_op ro_eq ?_
  | with_reducible refine g_op ro_ne ?_
  | with_reducible refine g_op ro_ixL ?_
  | with_reducible refine g_op ro_ixT ?_
  | with_reducible refine g_op ro_ixS ?_
  | with_reducible refine g_op ro_in ?_
  | with_reducible refine g_op ro_notIn ?_
  | with_reducible refine g_op ro_addS ?_
  | with_reducible refine g_op ro_add ?_
  | with_reducible refine g_op ro_sub ?_
  | with_reducible refine g_op ro_lt ?_
  | with_reducible refine g_op ro_le ?_
  | with_reducible refine g_op ro_gt ?_
  | with_reducible refine g_op ro_ge ?_
  | with_reducible refine g_op ro_isN ?_
  | with_reducible refine g_op ro_notN ?_
  | with_reducible refine g_op ro_inSign ?_
  | with_reducible refine g_op ro_notInSign ?_
  | with_reducible refine g_op ro_leS ?_
  | with_reducible refine g_op ro_ltS ?_
  | with_reducible refine g_op ro_catA ?_
  | with_reducible refine g_op ro_catT ?_
  | with_reducible refine g_op ro_mul ?_
  | with_reducible refine g_op ro_pow ?_
  | with_reducible refine g_op ro_mod ?_
  | with_reducible refine g_op ro_div ?_
  | with_reducible refine g_un uo_neg ?_
  | with_reducible refine g_chain ro_le ro_le ?_
  | with_reducible refine g_chain ro_le ro_lt ?_
  | with_reducible refine g_cb co_len ?_
  | with_reducible refine g_cb co_lenS ?_
  | with_reducible refine g_cb co_lenD ?_
  | with_reducible refine g_cb co_isi ?_
  | with_reducible refine g_cb co_isiT ?_
  | with_reducible refine g_cb co_all ?_
  | with_reducible refine g_cb co_any ?_
  | with_reducible refine g_cb co_int1 ?_
  | with_reducible refine g_cb co_intS ?_
  | with_reducible refine g_cb co_strI ?_
  | with_reducible refine g_cb co_strS ?_
  | with_reducible refine g_cb co_tuple ?_
  | with_reducible refine g_cb co_strU ?_
  | with_reducible refine g_cb co_lenSetK ?_
  | with_reducible refine g_cb co_repr ?_
  | with_reducible refine g_op ro_ixU ?_
  | with_reducible refine g_op ro_eqE ?_
  | with_reducible refine g_op ro_neE ?_
  | with_reducible refine g_op ro_eqSm ?_
  | with_reducible refine g_op ro_neSm ?_
  | with_reducible refine g_op ro_eqSs ?_
  | with_reducible refine g_wseq ?_
  | with_reducible refine g_scW ?_
  | with_reducible refine g_kget ?_
  | with_reducible refine g_m0 mo_isdigit ?_
  | with_reducible refine g_m0 mo_isascii ?_
  | with_reducible refine g_star ?_
  | with_reducible refine g_cb co_sortedS ?_
  | with_reducible refine g_cb co_sortedI ?_
  | with_reducible refine g_fld ?_
  | with_reducible refine g_xf ?_
  | with_reducible refine g_tup ?_
  | with_reducible refine g_dget ?_
  | with_reducible refine g_din ?_
  | with_reducible refine g_dnotin ?_
  | with_reducible refine g_dget1 ?_
  | with_reducible refine g_dget2 ?_
  | with_reducible refine g_call ?_
  | with_reducible refine g_callS ?_
  | with_reducible refine g_meth ?_
  | with_reducible refine g_methR ?_
  | with_reducible refine g_m1 mo_split ?_
  | with_reducible refine g_m1 mo_join ?_
  | with_reducible refine g_bm mo_append ?_
  | with_reducible refine g_bm mo_extend ?_
  | with_reducible refine g_bm mo_popAt ?_
  | with_reducible refine g_bm0 mo_pop ?_
  | with_reducible refine g_sl so_list ?_
  | with_reducible refine g_sl so_str ?_
  | with_reducible refine g_sl so_tupA ?_
  | with_reducible refine g_sl so_tup ?_
  | with_reducible refine g_noPart ?_
  | with_reducible refine g_part ?_
  | with_reducible refine g_lcW ?_
  | with_reducible refine g_wlist ?_
  | with_reducible refine g_wtup ?_
  | with_reducible refine g_wstr ?_
  | with_reducible refine g_wenum ?_
  | with_reducible refine g_wrange1 ?_
  | with_reducible refine g_wrange2 ?_
  | with_reducible refine g_join ?_
  | with_reducible refine g_jcons ?_
  | with_reducible refine g_jnil ?_
  | with_reducible refine g_fmt ?_
  | with_reducible refine g_lenSet ?_
  | with_reducible refine g_raise1 ?_
  | with_reducible refine g_raise2 ?_
  | with_reducible refine g_raise0 ?_
  | with_reducible refine g_yes ?_
  | with_reducible refine g_gcons ?_
  | with_reducible refine g_gnil ?_
  | with_reducible refine g_name (by first | trivial | decide) ?_
  | with_reducible refine ⟨_, rfl, ?_⟩
  | with_reducible refine ⟨_, _, rfl, rfl, ?_⟩)
local macro_rules | `(tactic| walk_at "g") => `(tactic| repeat (walk_at "g1"))

local macro_rules | `(tactic| walk_at "ss") => `(tactic| (funext zz; simp only [supd, sdel]; (repeat' split) <;> first | rfl | (subst_vars; first | rfl | contradiction | (simp_all; done)) | (simp_all; done)))
local macro_rules | `(tactic| walk_at "sp") => `(tactic| first
  | with_reducible assumption
  | exact supd_same
  | exact sdel_same
  | exact Eq.trans (supd_ne (by walk_at "ls_ne")) (by walk_at "sp")
  | exact Eq.trans (sdel_ne (by walk_at "ls_ne")) (by walk_at "sp"))
local macro_rules | `(tactic| walk_at "ls_ne") => `(tactic| first | assumption | exact Ne.symm (by assumption) | exact sne (by assumption) (by assumption) | exact Ne.symm (sne (by assumption) (by assumption)))

theorem digs_cps : (("0123456789" : Str)).cps.toList = List.range' 48 10 := by decide +kernel
theorem dig_in (c : Nat) : decide (c ∈ (("0123456789" : Str)).cps.toList) = digB c := by
  rw [digs_cps]
  unfold digB
  rw [Bool.eq_iff_iff, decide_eq_true_eq, Bool.and_eq_true, decide_eq_true_eq, decide_eq_true_eq, List.mem_range'_1]
  omega
section
variable {P : Program} {w : World} {K : PySem.W.Frag} {mg : Str → Option Value} {base : Heap}
/-! ### _law_is_name -/
abbrev s__law_is_name : Stmt := topS 33
theorem sc__law_is_name : FnScope ["_law_word", "_law_sign"] ["_law_word"] (defScope s__law_is_name) := ⟨rfl, rfl, rfl, by decide +kernel, rfl, by decide +kernel, by decide +kernel⟩
abbrev N__law_is_name : List Str := ["_law_word", "_law_sign"]
def aLName : ASp := fun ds s Q _ => ∃ z, ds = [.str z] ∧ z.length ≤ 3000 ∧ Q (.bl (nmB z)) s
theorem a_lname {f : Addr} {fd : FuncData} (F : Fun K "_law_is_name" "_law_is_name" s__law_is_name f fd) (T : Bt mg) : FnOk P w K mg base CX0 1 f fd ["_law_word"] (conc K aLName) := by
  refine a_ok F sc__law_is_name (fun ds s Q E h => ?_) (fun cdv A outer s0 H0 E hr => ?_)
  · obtain ⟨z, rfl, _⟩ := h
    rfl
  · have hu := hu_of hr
    refine ⟨_, (pss_cons (ps_if (PW.pt (pw_or (pt_cmpR op_lt (pe_callB call_len_str (by rfl) T.m_len (by decide +kernel) (pa_cons (pv 0) pa_nil)) pe_int (nomark _)) (pw_or (pt_cmpR op_gt (pe_callB call_len_str (by rfl) T.m_len (by decide +kernel) (pa_cons (pv 0) pa_nil)) pe_int (nomark _)) (pw_or1 (pt_cmpR op_eq (pv 0) pe_str (nomark _)))))) (pss_one (ps_ret pe_bl)) pss_nil)
      (pss_one (ps_ret (pe_callB (cr_all rfl) (by rfl) T.m_all (by decide +kernel) (pa_cons (pe_lc (own := [("_law_sign", 1)]) (g := gName 1) (by rfl) sc__law_is_name.nd (pi_str (pv 0)) (blkOk_by (own := [("_law_sign", 1)]) (N := N__law_is_name) (sc := defScope s__law_is_name) (by decide +kernel)) (fun _ _ _ _ _ => (pg_name (i := 1) sc__law_is_name.nd rfl (Or.inl rfl) (Or.inr rfl))) (fun _ _ _ _ _ => pts_nil) (fun _ _ _ _ _ => (pe_cmpR op_in_sign (pv 1) pe_str (by rfl)))) pa_nil))))), ?_⟩
    rintro ds s Q E ⟨z, rfl, hz, q⟩
    try simp only [nox_K, cx_K]
    have hs : z.length ≤ sizeLine := Nat.le_trans hz (by decide)
    walk_at "g"
    refine Tv.use (b := !(decide (1 ≤ z.length) && (decide (z.length ≤ 8) && !decide (z = "strike")))) ?_ ⟨fun e => ?_, fun e => ?_⟩
    · rw [Bool.not_and, Bool.not_and, Bool.not_not]
      refine t_or (t_test ?_) fun _ => t_or (t_test ?_) fun _ => t_test ?_
      · unfold Gv
        walk_at "g"
        refine ⟨hs, ?_⟩
        walk_at "g"
        refine ⟨?_, rfl⟩
        congr 1
        rw [← decide_not]
        exact decide_eq_decide.mpr (by omega)
      · unfold Gv
        walk_at "g"
        refine ⟨hs, ?_⟩
        walk_at "g"
        refine ⟨?_, rfl⟩
        congr 1
        rw [← decide_not]
        exact decide_eq_decide.mpr (by omega)
      · unfold Gv
        walk_at "g"
        exact ⟨rfl, rfl⟩
    · have e2 := not_t e
      walk_at "g"
      have : nmB z = false := by
        unfold nmB
        cases h1 : decide (1 ≤ z.length) <;> cases h2 : decide (z.length ≤ 8) <;> cases h3 : decide (z = "strike") <;> rw [h1, h2, h3] at e2 <;> simp at e2 ⊢
      rw [this] at q
      exact q
    · have e2 := not_f e
      rw [Bool.and_eq_true, Bool.and_eq_true] at e2
      walk_at "g"
      refine LcW.map z.cps.toList (fun c => .str ⟨#[c]⟩) (fun c => .bl (letr c)) rfl ?_ trivial (fun c hc => ?_) ?_
      · rw [Array.length_toList]
        exact Nat.lt_of_le_of_lt hz (by decide)
      · walk_at "g"
        exact ⟨rfl, rfl⟩
      · walk_at "g"
        refine ⟨_, z.cps.toList.map letr, rfl, .inl (by rw [List.map_map]; rfl), ?_⟩
        have : nmB z = (z.cps.toList.map letr).all id := by
          unfold nmB
          rw [e2.1, e2.2.1, e2.2.2, List.all_map]
          rfl
        rw [this] at q
        exact q
/-! ### _law_is_number -/
abbrev s__law_is_number : Stmt := topS 34
theorem sc__law_is_number : FnScope ["_law_word", "_law_sign"] ["_law_word"] (defScope s__law_is_number) := ⟨rfl, rfl, rfl, by decide +kernel, rfl, by decide +kernel, by decide +kernel⟩
abbrev N__law_is_number : List Str := ["_law_word", "_law_sign"]
def aLNum : ASp := fun ds s Q _ => ∃ z, ds = [.str z] ∧ z.length ≤ 3000 ∧ Q (.bl (numS z)) s
theorem a_lnum {f : Addr} {fd : FuncData} (F : Fun K "_law_is_number" "_law_is_number" s__law_is_number f fd) (T : Bt mg) : FnOk P w K mg base CX0 1 f fd ["_law_word"] (conc K aLNum) := by
  refine a_ok F sc__law_is_number (fun ds s Q E h => ?_) (fun cdv A outer s0 H0 E hr => ?_)
  · obtain ⟨z, rfl, _⟩ := h
    rfl
  · have hu := hu_of hr
    refine ⟨_, (pss_cons (ps_if (PW.pt (pw_or (pt_cmpR op_eq (pv 0) pe_str (nomark _)) (pw_or1 (pt_cmpR (neE K hr) (pe_lc (own := [("_law_sign", 1)]) (g := gName 1) (by rfl) sc__law_is_number.nd (pi_str (pv 0)) (blkOk_by (own := [("_law_sign", 1)]) (N := N__law_is_number) (sc := defScope s__law_is_number) (by decide +kernel)) (fun _ _ _ _ _ => (pg_name (i := 1) sc__law_is_number.nd rfl (Or.inl rfl) (Or.inr rfl))) (fun _ _ _ _ _ => (pts_one (pt_cmpR op_notIn_sign (pv 1) pe_str (by rfl)))) (fun _ _ _ _ _ => (pv 1))) (pe_lst pa_nil) (nomark _))))) (pss_one (ps_ret pe_bl)) pss_nil)
      (pss_one (ps_ret (pe_or (pe_cmpR op_eq (pv 0) pe_str (nomark _)) (pe_one (pe_cmpR op_ne (pe_ix ix_str (pv 0) pe_int (fun _ _ => rfl)) pe_str (nomark _))))))), ?_⟩
    rintro ds s Q E ⟨z, rfl, hz, q⟩
    try simp only [nox_K, cx_K]
    have hs : z.length ≤ sizeLine := Nat.le_trans hz (by decide)
    walk_at "g"
    refine Tv.use (b := !(!decide (z = "") && (cs z).all digB)) ?_ ⟨fun e => ?_, fun e => ?_⟩
    · rw [Bool.not_and, Bool.not_not]
      refine t_or (t_test ?_) fun _ => t_test ?_
      · unfold Gv
        walk_at "g"
        exact ⟨rfl, rfl⟩
      · unfold Gv
        walk_at "g"
        refine LcW.pure z.cps.toList (fun c => .str ⟨#[c]⟩) (fun c => !digB c) (fun c => .str ⟨#[c]⟩) rfl ?_ trivial (fun c hc => ?_) ?_
        · rw [Array.length_toList]
          exact Nat.lt_of_le_of_lt hz (by decide)
        · walk_at "g"
          rw [dig_in]
          refine ⟨rfl, rfl, fun _ => ?_⟩
          walk_at "g"
          exact ⟨rfl, rfl⟩
        · refine g_lst (g_nil ⟨by decide, ?_⟩)
          refine ⟨_, .inl rfl, rfl, ?_, rfl⟩
          congr 1
          rw [Bool.eq_iff_iff]
          cases hd : (cs z).all digB with
          | true =>
            have : z.cps.toList.filter (fun c => !digB c) = [] := List.filter_eq_nil_iff.mpr fun c hc => by
              rw [List.all_eq_true.mp hd c hc]
              simp
            rw [this]
            simp
          | false =>
            have h2 : ¬ z.cps.toList.filter (fun c => !digB c) = [] := fun h => by
              rw [List.filter_eq_nil_iff] at h
              have : (cs z).all digB = true := List.all_eq_true.mpr fun c hc => by
                have := h c hc
                simpa using this
              rw [hd] at this
              cases this
            cases hf : z.cps.toList.filter (fun c => !digB c) with
            | nil => exact absurd hf h2
            | cons a b => simp
    · have e2 := not_t e
      walk_at "g"
      have : numS z = false := by
        unfold numS
        rw [← Bool.and_assoc, e2]
        rfl
      rw [this] at q
      exact q
    · have e2 := not_f e
      walk_at "g"
      refine g_or ?_
      walk_at "g"
      have hn : numS z = (decide (z = "0") || !decide ((cs z).head? = some 48)) := by
        unfold numS
        rw [← Bool.and_assoc, e2]
        rfl
      rw [hn] at q
      refine ⟨fun e3 => ?_, fun e3 => ?_⟩
      · rw [e3] at q
        exact q
      · rw [e3, Bool.false_or] at q
        walk_at "g"
        rw [Bool.and_eq_true] at e2
        cases e : cs z with
        | nil => exact absurd (cs_nil e) (by simpa using e2.1)
        | cons c r =>
          refine ⟨z, 0, c, rfl, rfl, hs, ?_, ?_⟩
          · show atI (cs z) 0 = _
            rw [e]
            exact atI_nat (j := 0) rfl
          · walk_at "g"
            have : decide ((⟨#[c]⟩ : Str) = "0") = decide ((c :: r).head? = some 48) := decide_eq_decide.mpr (zero_eq.trans ⟨fun h => by rw [h]; rfl, fun h => Option.some.inj h⟩)
            rw [this]
            rw [e] at q
            exact q
/-! ### _law_are_owners -/
abbrev s__law_are_owners : Stmt := topS 35
theorem sc__law_are_owners : FnScope ["_law_words", "_law_pairs", "_law_pair", "_law_word"] ["_law_words"] (defScope s__law_are_owners) := ⟨rfl, rfl, rfl, by decide +kernel, rfl, by decide +kernel, by decide +kernel⟩
abbrev N__law_are_owners : List Str := ["_law_words", "_law_pairs", "_law_pair", "_law_word"]
def aLOwn : ASp := fun ds s Q _ => ∃ ws : List Str, ds = [.lst (ws.map Dat.str)] ∧ ws.length ≤ 50 ∧ (∀ x ∈ ws, x.length ≤ 2900) ∧ Q (.bl (ownersOk ws)) s
theorem manyS_eq (xs : List Str) : decide ((manyS xs : Int) = (xs.length : Int)) = decide xs.Nodup := by
  have h1 := metS_nd xs xs.length (Nat.le_refl _)
  rw [List.take_length] at h1
  unfold manyS
  exact decide_eq_decide.mpr (by rw [← h1]; omega)
theorem a_lown {f : Addr} {fd : FuncData} (F : Fun K "_law_are_owners" "_law_are_owners" s__law_are_owners f fd) (T : Bt mg) (T4 : BtA mg) (O__law_is_name : Own P w K mg base CX0 1 "_law_is_name" ["_law_word"] (conc K aLName)) (O__law_is_number : Own P w K mg base CX0 1 "_law_is_number" ["_law_word"] (conc K aLNum)) : FnOk P w K mg base CX0 2 f fd ["_law_words"] (conc K aLOwn) := by
  refine a_ok F sc__law_are_owners (fun ds s Q E h => ?_) (fun cdv A outer s0 H0 E hr => ?_)
  · obtain ⟨z, rfl, _⟩ := h
    rfl
  · have hu := hu_of hr
    refine ⟨_, (pss_cons (ps_setLc (i := 1) (own := [("_law_word", 3)]) (g := gName 3) (by rfl) sc__law_are_owners.nd rfl rfl (sw_true rfl rfl rfl (by decide +kernel)) (pi_list (pv 0)) (blkOk_by (own := [("_law_word", 3)]) (N := N__law_are_owners) (sc := defScope s__law_are_owners) (by decide +kernel)) (fun _ _ _ _ _ => (pg_name (i := 3) sc__law_are_owners.nd rfl (Or.inl rfl) (Or.inr rfl))) (fun _ _ _ _ _ => pts_nil) (fun _ _ _ _ _ => (pe_split (pv 3) pe_str)))
      (pss_cons (ps_for PassesOwn.never rfl (pi_list (pv 1)) (pg_name (i := 2) sc__law_are_owners.nd rfl (Or.inl rfl)) (pss_one (ps_if (PW.pt (pw_or (pt_cmpR op_ne (pe_callB (len_seq K) (by rfl) T.m_len (by decide +kernel) (pa_cons (pv 2) pa_nil)) pe_int (nomark _)) (pw_or (pt_not (pt_val (own_call O__law_is_name hr (by first | decide | omega) (pa_cons (pe_ix (ixL K) (pv 2) pe_int (fun _ _ => rfl)) pa_nil)))) (pw_or1 (pt_not (pt_val (own_call O__law_is_number hr (by first | decide | omega) (pa_cons (pe_ix (ixL K) (pv 2) pe_int (fun _ _ => rfl)) pa_nil)))))))) (pss_one (ps_ret pe_bl)) pss_nil)))
      (pss_one (ps_ret (pe_cmpR op_eq (pe_lenSetS rfl (by rfl) T.m_len (by rfl) T4.m_set (pe_lc (own := [("_law_pair", 2)]) (g := gName 2) (by rfl) sc__law_are_owners.nd (pi_list (pv 1)) (blkOk_by (own := [("_law_pair", 2)]) (N := N__law_are_owners) (sc := defScope s__law_are_owners) (by decide +kernel)) (fun _ _ _ _ _ => (pg_name (i := 2) sc__law_are_owners.nd rfl (Or.inl rfl) (Or.inr rfl))) (fun _ _ _ _ _ => pts_nil) (fun _ _ _ _ _ => (pe_ix (ixL K) (pv 2) pe_int (fun _ _ => rfl))))) (pe_callB (len_seq K) (by rfl) T.m_len (by decide +kernel) (pa_cons (pv 1) pa_nil)) (nomark _)))))), ?_⟩
    rintro ds s Q E ⟨ws, rfl, hl, hw, q⟩
    try simp only [nox_K, cx_K]
    walk_at "g"
    refine ⟨_, .inl ⟨rfl, ?_⟩⟩
    refine LcW.map ws Dat.str (fun w => .lst ((Txt.split w "=").map Dat.str)) rfl (Nat.lt_of_le_of_lt hl (by decide)) trivial (fun x hx => ?_) ?_
    · walk_at "g"
      refine ⟨⟨_, rfl⟩, ?_⟩
      walk_at "g"
      exact ⟨by decide, Nat.le_trans (Nat.add_le_add_right (hw x hx) 2) (by decide), rfl, rfl⟩
    walk_at "g"
    refine ⟨_, .inl ⟨rfl, ?_⟩⟩
    refine ForW.mk ws (fun w => .lst ((Txt.split w "=").map Dat.str)) rfl (fun i γ' s' => ∃ a b, γ' = [some (.lst (ws.map Dat.str)), some (.lst (ws.map fun w => .lst ((Txt.split w "=").map Dat.str))), a, b] ∧ s' = s ∧ (ws.take i).all ownerS = true) ⟨none, none, rfl, rfl, rfl⟩ (fun _ _ _ _ _ => trivial) ?_ ?_
    · rintro i x γ' s' hx ⟨a, b, rfl, rfl, ok⟩
      have hm : x ∈ ws := List.mem_of_getElem? hx
      have hS : ownerS x = (decide ((Txt.split x "=").length = 2) && (nmB ((Txt.split x "=").getD 0 "") && numS ((Txt.split x "=").getD 1 ""))) := rfl
      have hl2 : ∀ y ∈ Txt.split x "=", y.length ≤ 3000 := fun y hy => Nat.le_trans (PyProof.Rows.part_short hy) (Nat.le_trans (hw x hm) (by decide))
      walk_at "g"
      refine Tv.use (b := !ownerS x) ?_ ⟨fun e => ?_, fun e => ?_⟩
      · rw [hS]
        generalize Txt.split x "=" = ps at hl2 ⊢
        rw [Bool.not_and, Bool.not_and]
        refine t_or (t_test ?_) fun h1 => t_or (t_not (t_B ?_)) fun _ => t_not (t_B ?_)
        · unfold Gv
          walk_at "g"
          refine ⟨_, _, rfl, .inl rfl, ?_⟩
          walk_at "g"
          rw [List.length_map]
          refine ⟨?_, rfl⟩
          congr 2
          exact decide_eq_decide.mpr (by omega)
        all_goals
          have h2 : ps.length = 2 := by simpa using h1
          match ps, h2, hl2 with
          | [a, b], _, hl2 =>
            unfold Gv
            walk_at "g"
            refine ⟨_, _, _, .inl rfl, rfl, rfl, ?_⟩
            walk_at "g"
            first
              | exact ⟨_, rfl, hl2 a (by simp), rfl, rfl⟩
              | exact ⟨_, rfl, hl2 b (by simp), rfl, rfl⟩
      · walk_at "g"
        have : ownersOk ws = false := by
          unfold ownersOk
          have h2 : ws.all ownerS = false := by
            rw [List.all_eq_false]
            exact ⟨x, hm, by rw [not_t e]; simp⟩
          rw [h2]
          rfl
        rw [this] at q
        exact q
      · walk_at "g"
        rw [List.take_add_one, hx, List.all_append, ok, Bool.true_and]
        show (ownerS x && true) = true
        rw [not_f e]
        rfl
    · rintro γ' s' ⟨a, b, rfl, rfl, ok⟩
      rw [List.take_length] at ok
      walk_at "g"
      refine ⟨_, .inl ⟨rfl, ?_⟩⟩
      refine LcW.map ws (fun w => .lst ((Txt.split w "=").map Dat.str)) (fun w => .str ((Txt.split w "=").getD 0 "")) rfl (Nat.lt_of_le_of_lt hl (by decide)) trivial (fun x hx => ?_) ?_
      · walk_at "g"
        have hn := split_ne x "="
        refine ⟨_, _, _, .inl rfl, rfl, atI_nat (j := 0) ?_, rfl, rfl⟩
        generalize Txt.split x "=" = ps at hn
        cases ps with
        | nil => exact absurd rfl hn
        | cons a r => rfl
      · refine ⟨ws.map fun w => (Txt.split w "=").getD 0 "", .inl (by rw [List.map_map]; rfl), by rw [List.length_map]; exact hl, ?_⟩
        walk_at "g"
        refine ⟨_, _, rfl, .inl rfl, ?_⟩
        rw [List.length_map]
        have h3 := manyS_eq (ws.map fun w => (Txt.split w "=").getD 0 "")
        rw [List.length_map] at h3
        refine ⟨_, rfl, ?_⟩
        have : ownersOk ws = decide ((manyS (ws.map fun w => (Txt.split w "=").getD 0 "") : Int) = (ws.length : Int)) := by
          unfold ownersOk
          rw [ok, h3]
          rfl
        rw [this] at q
        exact q
/-! ### _law_is_line -/
abbrev s__law_is_line : Stmt := topS 36
theorem sc__law_is_line : FnScope ["_law_line_here", "_law_words", "_law_word"] ["_law_line_here"] (defScope s__law_is_line) := ⟨rfl, rfl, rfl, by decide +kernel, rfl, by decide +kernel, by decide +kernel⟩
abbrev N__law_is_line : List Str := ["_law_line_here", "_law_words", "_law_word"]
def aLLine : ASp := fun ds s Q _ => ∃ z, ds = [.str z] ∧ LnOk z ∧ (Txt.split z " ").length ≤ 50 ∧ Q (.bl (lnB z)) s
theorem a_lline {f : Addr} {fd : FuncData} (F : Fun K "_law_is_line" "_law_is_line" s__law_is_line f fd) (T : Bt mg) (O__law_is_name : Own P w K mg base CX0 1 "_law_is_name" ["_law_word"] (conc K aLName)) (O__law_is_number : Own P w K mg base CX0 1 "_law_is_number" ["_law_word"] (conc K aLNum))
    (O__law_are_owners : Own P w K mg base CX0 2 "_law_are_owners" ["_law_words"] (conc K aLOwn)) : FnOk P w K mg base CX0 3 f fd ["_law_line_here"] (conc K aLLine) := by
  refine a_ok F sc__law_is_line (fun ds s Q E h => ?_) (fun cdv A outer s0 H0 E hr => ?_)
  · obtain ⟨z, rfl, _⟩ := h
    rfl
  · have hu := hu_of hr
    refine ⟨_, (pss_cons (ps_set (i := 1) sc__law_is_line.nd rfl (Or.inl rfl) (pe_split (pv 0) pe_str))
      (pss_cons (ps_if (pt_cmpR (in_seq K) (pe_ix (ixL K) (pv 1) pe_int (fun _ _ => rfl)) (pe_lst (pa_cons pe_str (pa_cons pe_str pa_nil))) (by rfl)) (pss_one (ps_ret (pe_and (pe_cmpR op_eq (pe_callB (len_seq K) (by rfl) T.m_len (by decide +kernel) (pa_cons (pv 1) pa_nil)) pe_int (nomark _)) (pe_one (own_call O__law_is_number hr (by first | decide | omega) (pa_cons (pe_ix (ixL K) (pv 1) pe_int (fun _ _ => rfl)) pa_nil)))))) pss_nil)
      (pss_cons (ps_if (pt_cmpR op_eq (pe_ix (ixL K) (pv 1) pe_int (fun _ _ => rfl)) pe_str (nomark _)) (pss_cons (ps_if (PW.pt (pw_or (pt_cmpR op_lt (pe_callB (len_seq K) (by rfl) T.m_len (by decide +kernel) (pa_cons (pv 1) pa_nil)) pe_int (nomark _)) (pw_or (pt_cmpR (notIn_seq K) (pe_ix (ixL K) (pv 1) pe_int (fun _ _ => rfl)) (pe_lst (pa_cons pe_str (pa_cons pe_str (pa_cons pe_str pa_nil)))) (by rfl)) (pw_or1 (pt_not (pt_val (own_call O__law_is_name hr (by first | decide | omega) (pa_cons (pe_ix (ixL K) (pv 1) pe_int (fun _ _ => rfl)) pa_nil)))))))) (pss_one (ps_ret pe_bl)) pss_nil)
      (pss_one (ps_ret (pe_callB (cr_all rfl) (by rfl) T.m_all (by decide +kernel) (pa_cons (pe_lc (own := [("_law_word", 2)]) (g := gName 2) (by rfl) sc__law_is_line.nd (pi_list (pe_op op_cat (pe_lst (pa_cons (pe_ix (ixL K) (pv 1) pe_int (fun _ _ => rfl)) pa_nil)) (pe_slice sl_list (pv 1) (po_some pe_int) po_none))) (blkOk_by (own := [("_law_word", 2)]) (N := N__law_is_line) (sc := defScope s__law_is_line) (by decide +kernel)) (fun _ _ _ _ _ => (pg_name (i := 2) sc__law_is_line.nd rfl (Or.inl rfl) (Or.inr rfl))) (fun _ _ _ _ _ => pts_nil) (fun _ _ _ _ _ => (own_call O__law_is_number hr (by first | decide | omega) (pa_cons (pv 2) pa_nil)))) pa_nil))))) pss_nil)
      (pss_cons (ps_if (PW.pt (pw_or (pt_cmpR op_lt (pe_callB (len_seq K) (by rfl) T.m_len (by decide +kernel) (pa_cons (pv 1) pa_nil)) pe_int (nomark _)) (pw_or (pt_not (pt_val (own_call O__law_is_name hr (by first | decide | omega) (pa_cons (pe_ix (ixL K) (pv 1) pe_int (fun _ _ => rfl)) pa_nil)))) (pw_or1 (pt_not (pt_val (own_call O__law_is_number hr (by first | decide | omega) (pa_cons (pe_ix (ixL K) (pv 1) pe_int (fun _ _ => rfl)) pa_nil)))))))) (pss_one (ps_ret pe_bl)) pss_nil)
      (pss_cons (ps_if (pt_cmpR op_eq (pe_ix (ixL K) (pv 1) pe_int (fun _ _ => rfl)) pe_str (nomark _)) (pss_one (ps_ret (own_call O__law_are_owners hr (by first | decide | omega) (pa_cons (pe_slice sl_list (pv 1) (po_some pe_int) po_none) pa_nil)))) pss_nil)
      (pss_cons (ps_if (pt_cmpR op_eq (pe_ix (ixL K) (pv 1) pe_int (fun _ _ => rfl)) pe_str (nomark _)) (pss_one (ps_ret (pe_and (pe_cmpR op_eq (pe_callB (len_seq K) (by rfl) T.m_len (by decide +kernel) (pa_cons (pv 1) pa_nil)) pe_int (nomark _)) (pe_and (own_call O__law_is_name hr (by first | decide | omega) (pa_cons (pe_ix (ixL K) (pv 1) pe_int (fun _ _ => rfl)) pa_nil)) (pe_one (pe_or (pe_cmpR op_eq (pe_ix (ixL K) (pv 1) pe_int (fun _ _ => rfl)) pe_str (nomark _)) (pe_one (own_call O__law_is_number hr (by first | decide | omega) (pa_cons (pe_ix (ixL K) (pv 1) pe_int (fun _ _ => rfl)) pa_nil))))))))) pss_nil)
      (pss_one (ps_ret (pe_and (pe_cmpR op_eq (pe_ix (ixL K) (pv 1) pe_int (fun _ _ => rfl)) pe_str (nomark _)) (pe_one (pe_cmpR op_eq (pe_callB (len_seq K) (by rfl) T.m_len (by decide +kernel) (pa_cons (pv 1) pa_nil)) pe_int (nomark _)))))))))))), ?_⟩
    rintro ds s Q E ⟨z, rfl, hz, hc, q⟩
    try simp only [nox_K, cx_K]
    have hw : ∀ x ∈ Txt.split z " ", x.length ≤ 2900 := fun x hx => Nat.le_trans (PyProof.Rows.part_short hx) hz.len
    have hn := split_ne z " "
    walk_at "g"
    refine ⟨⟨_, rfl⟩, ?_⟩
    walk_at "g"
    refine ⟨by decide, Nat.le_trans (Nat.add_le_add_right hz.len 2) (by decide), ?_⟩
    unfold lnB at q
    generalize Txt.split z " " = ws at hw hn hc q ⊢
    have hq : lineOk ws = _ := lineOk.eq_def ws
    have at_ : ∀ {i : Nat}, i < ws.length → atI (ws.map Dat.str) (i : Nat) = some (.str (ws.getD i "")) := fun {i} hi => atI_nat (by rw [List.getElem?_map, List.getD_eq_getElem?_getD, List.getElem?_eq_getElem hi]; rfl)
    have sh : ∀ {i : Nat}, i < ws.length → (ws.getD i "").length ≤ 3000 := fun {i} hi => Nat.le_trans (hw _ (getD_lt hi)) (by decide)
    have l0 : 0 < ws.length := List.length_pos_iff.mpr hn
    walk_at "g"
    refine ⟨_, _, _, .inl rfl, rfl, at_ l0, ?_⟩
    refine g_lst ?_
    walk_at "g"
    refine ⟨by decide, ?_⟩
    refine ⟨_, InD.strs (l := ["do", "stop"]) (.inl rfl), ?_⟩
    walk_at "g"
    unfold lineOk at q
    refine ⟨fun e => ?_, fun e => ?_⟩
    · have e1 : ws.getD 0 "" = "do" ∨ ws.getD 0 "" = "stop" := by simpa using e
      rw [if_pos e1] at q
      walk_at "g"
      refine g_and ?_
      walk_at "g"
      refine ⟨_, _, rfl, .inl rfl, ?_⟩
      walk_at "g"
      rw [List.length_map]
      refine ⟨fun e2 => ?_, fun e2 => ?_⟩
      · have l2 : ws.length = 2 := by have := of_decide_eq_true e2; omega
        rw [decide_eq_true l2, Bool.true_and] at q
        walk_at "g"
        refine ⟨_, _, _, .inl rfl, rfl, at_ (i := 1) (by omega), ?_⟩
        walk_at "g"
        exact ⟨_, rfl, sh (by omega), q⟩
      · have l2 : ¬ ws.length = 2 := fun h => by have := of_decide_eq_false e2; omega
        rw [decide_eq_false l2, Bool.false_and] at q
        exact q
    · have e1 : ¬ (ws.getD 0 "" = "do" ∨ ws.getD 0 "" = "stop") := by simpa using e
      rw [if_neg e1] at q
      walk_at "g"
      refine ⟨_, _, _, .inl rfl, rfl, at_ l0, ?_⟩
      walk_at "g"
      refine ⟨fun e2 => ?_, fun e2 => ?_⟩
      · rw [if_pos (of_decide_eq_true e2)] at q
        walk_at "g"
        refine Tv.use (b := !(decide (5 ≤ ws.length) && (decide (ws.getD 2 "" ∈ pieces) && nmB (ws.getD 3 "")))) ?_ ⟨fun e3 => ?_, fun e3 => ?_⟩
        · rw [Bool.not_and, Bool.not_and]
          refine t_or (t_test ?_) fun h1 => t_or (t_test ?_) fun _ => t_not (t_B ?_)
          · unfold Gv
            walk_at "g"
            refine ⟨_, _, rfl, .inl rfl, ?_⟩
            walk_at "g"
            rw [List.length_map]
            refine ⟨?_, rfl⟩
            congr 1
            rw [← decide_not]
            exact decide_eq_decide.mpr (by omega)
          · have h5 : 5 ≤ ws.length := by simpa using h1
            unfold Gv
            walk_at "g"
            refine ⟨_, _, _, .inl rfl, rfl, at_ (i := 2) (by omega), ?_⟩
            refine g_lst ?_
            walk_at "g"
            refine ⟨by decide, ?_⟩
            exact ⟨_, InD.strs (l := pieces) (.inl rfl), rfl, rfl⟩
          · have h5 : 5 ≤ ws.length := by simpa using h1
            unfold Gv
            walk_at "g"
            refine ⟨_, _, _, .inl rfl, rfl, at_ (i := 3) (by omega), ?_⟩
            walk_at "g"
            exact ⟨_, rfl, sh (by omega), rfl, rfl⟩
        · rw [not_t e3, Bool.false_and] at q
          walk_at "g"
          exact q
        · have h5 := not_f e3
          rw [h5, Bool.true_and] at q
          rw [Bool.and_eq_true, decide_eq_true_eq] at h5
          walk_at "g"
          refine g_op ro_cat ?_
          refine g_lst ?_
          walk_at "g"
          refine ⟨_, _, _, .inl rfl, rfl, at_ (i := 1) (by omega), ?_⟩
          walk_at "g"
          refine ⟨(show 1 ≤ sizeLine by decide), ?_⟩
          walk_at "g"
          refine ⟨_, .inl rfl, ?_⟩
          rw [show (4 : Int) = ((4 : Nat) : Int) from rfl, cut_drop, ← List.map_drop]
          have hdl : (ws.drop 4).length ≤ 50 := by rw [List.length_drop]; omega
          refine ⟨_, _, .inl rfl, .inl rfl, by rw [List.length_map]; exact Nat.le_trans (Nat.add_le_add_left hdl 1) (by decide), ?_⟩
          refine ⟨_, .inl ⟨rfl, ?_⟩⟩
          refine LcW.map (ws.getD 1 "" :: ws.drop 4) Dat.str (fun x => .bl (numS x)) rfl (by rw [List.length_cons]; exact Nat.lt_of_le_of_lt (Nat.add_le_add_right hdl 1) (by decide)) trivial (fun x hx => ?_) ?_
          · have hx2 : x.length ≤ 3000 := by
              rcases List.mem_cons.mp hx with h | h
              · rw [h]
                exact sh (by omega)
              · exact Nat.le_trans (hw x (List.mem_of_mem_drop h)) (by decide)
            walk_at "g"
            exact ⟨_, rfl, hx2, rfl, rfl⟩
          · walk_at "g"
            refine ⟨_, (ws.getD 1 "" :: ws.drop 4).map numS, rfl, .inl (by rw [List.map_map]; rfl), ?_⟩
            rw [List.all_map]
            exact q
      · rw [if_neg (of_decide_eq_false e2)] at q
        walk_at "g"
        refine Tv.use (b := !(decide (3 ≤ ws.length) && (nmB (ws.getD 1 "") && numS (ws.getD 2 "")))) ?_ ⟨fun e3 => ?_, fun e3 => ?_⟩
        · rw [Bool.not_and, Bool.not_and]
          refine t_or (t_test ?_) fun h1 => t_or (t_not (t_B ?_)) fun _ => t_not (t_B ?_)
          · unfold Gv
            walk_at "g"
            refine ⟨_, _, rfl, .inl rfl, ?_⟩
            walk_at "g"
            rw [List.length_map]
            refine ⟨?_, rfl⟩
            congr 1
            rw [← decide_not]
            exact decide_eq_decide.mpr (by omega)
          · have h5 : 3 ≤ ws.length := by simpa using h1
            unfold Gv
            walk_at "g"
            refine ⟨_, _, _, .inl rfl, rfl, at_ (i := 1) (by omega), ?_⟩
            walk_at "g"
            exact ⟨_, rfl, sh (by omega), rfl, rfl⟩
          · have h5 : 3 ≤ ws.length := by simpa using h1
            unfold Gv
            walk_at "g"
            refine ⟨_, _, _, .inl rfl, rfl, at_ (i := 2) (by omega), ?_⟩
            walk_at "g"
            exact ⟨_, rfl, sh (by omega), rfl, rfl⟩
        · rw [not_t e3, Bool.false_and] at q
          walk_at "g"
          exact q
        · have h3 := not_f e3
          rw [h3, Bool.true_and] at q
          rw [Bool.and_eq_true, decide_eq_true_eq] at h3
          walk_at "g"
          refine ⟨_, _, _, .inl rfl, rfl, at_ l0, ?_⟩
          walk_at "g"
          refine ⟨fun e4 => ?_, fun e4 => ?_⟩
          · rw [if_pos (of_decide_eq_true e4)] at q
            walk_at "g"
            refine ⟨_, .inl rfl, ?_⟩
            rw [show (3 : Int) = ((3 : Nat) : Int) from rfl, cut_drop, ← List.map_drop]
            walk_at "g"
            exact ⟨_, rfl, by rw [List.length_drop]; omega, fun x hx => hw x (List.mem_of_mem_drop hx), q⟩
          · rw [if_neg (of_decide_eq_false e4)] at q
            walk_at "g"
            refine ⟨_, _, _, .inl rfl, rfl, at_ l0, ?_⟩
            walk_at "g"
            refine ⟨fun e5 => ?_, fun e5 => ?_⟩
            · rw [if_pos (of_decide_eq_true e5)] at q
              walk_at "g"
              refine g_and ?_
              walk_at "g"
              refine ⟨_, _, rfl, .inl rfl, ?_⟩
              walk_at "g"
              rw [List.length_map]
              refine ⟨fun e6 => ?_, fun e6 => ?_⟩
              · have l5 : ws.length = 5 := by have := of_decide_eq_true e6; omega
                rw [decide_eq_true l5, Bool.true_and] at q
                refine g_and ?_
                walk_at "g"
                refine ⟨_, _, _, .inl rfl, rfl, at_ (i := 3) (by omega), ?_⟩
                walk_at "g"
                refine ⟨_, rfl, sh (by omega), ?_⟩
                walk_at "g"
                refine ⟨fun e7 => ?_, fun e7 => ?_⟩
                · rw [e7, Bool.true_and] at q
                  refine g_or ?_
                  walk_at "g"
                  refine ⟨_, _, _, .inl rfl, rfl, at_ (i := 4) (by omega), ?_⟩
                  walk_at "g"
                  refine ⟨fun e8 => ?_, fun e8 => ?_⟩
                  · rw [e8] at q
                    exact q
                  · rw [e8, Bool.false_or] at q
                    walk_at "g"
                    refine ⟨_, _, _, .inl rfl, rfl, at_ (i := 4) (by omega), ?_⟩
                    walk_at "g"
                    exact ⟨_, rfl, sh (by omega), q⟩
                · rw [e7] at q
                  exact q
              · have l5 : ¬ ws.length = 5 := fun h => by have := of_decide_eq_false e6; omega
                rw [decide_eq_false l5, Bool.false_and] at q
                exact q
            · rw [if_neg (of_decide_eq_false e5)] at q
              walk_at "g"
              refine g_and ?_
              walk_at "g"
              refine ⟨_, _, _, .inl rfl, rfl, at_ l0, ?_⟩
              walk_at "g"
              refine ⟨fun e6 => ?_, fun e6 => ?_⟩
              · rw [e6, Bool.true_and] at q
                walk_at "g"
                refine ⟨_, _, rfl, .inl rfl, ?_⟩
                walk_at "g"
                rw [List.length_map]
                have : decide (ws.length = 3) = decide ((ws.length : Int) = 3) := decide_eq_decide.mpr (by omega)
                rw [this] at q
                exact q
              · rw [e6] at q
                exact q
end
end AL
namespace AL
open PySem PySem.Spec PyProof.Rows L2 Ls
/-! ### lines that are spoilt -/
def bnd : Nat → Nat | 0 => 160 | k + 1 => 2 * bnd k + 12
structure LI (k : Nat) (z : Str) : Prop where
  chr : ∀ c ∈ cs z, c ≠ 10 ∧ c < 128
  run : runB (27 + k) 0 (cs z) = true
  len : z.length ≤ bnd k
  cnt : (cs z).count 32 ≤ 6 + k
theorem bnd_ge : ∀ k, 160 ≤ bnd k
  | 0 => Nat.le_refl _
  | k + 1 => by have := bnd_ge k; show 160 ≤ 2 * bnd k + 12; omega
theorem bnd_mono : ∀ {k m : Nat}, k ≤ m → bnd k ≤ bnd m
  | k, 0, h => by
    have : k = 0 := by omega
    rw [this]
    exact Nat.le_refl _
  | k, m + 1, h => by
    rcases Nat.lt_or_ge k (m + 1) with h2 | h2
    · have := bnd_mono (show k ≤ m by omega)
      show bnd k ≤ 2 * bnd m + 12
      omega
    · rw [show k = m + 1 by omega]
      exact Nat.le_refl _
theorem LI.up {k m : Nat} {z : Str} (h : LI k z) (hk : k ≤ m) : LI m z := ⟨h.chr, runB_mono (by omega) (Nat.le_refl _) h.run, Nat.le_trans h.len (bnd_mono hk), by have := h.cnt; omega⟩
theorem tot (ws : List Str) : (ws.map (·.length)).sum = ((ws.map cs).map (·.length)).sum := by
  induction ws with
  | nil => rfl
  | cons a r ih =>
    rw [List.map_cons, List.sum_cons, ih, cs_len]
    rfl
theorem cnt_free {ws : List Str} (h : ∀ x ∈ ws, 32 ∉ cs x) : ((ws.map cs).map (·.count 32)).sum = 0 := by
  induction ws with
  | nil => rfl
  | cons a r ih =>
    rw [List.map_cons, List.map_cons, List.sum_cons, ih fun x hx => h x (.tail _ hx), List.count_eq_zero.mpr (h a (.head _))]
/-- words of a line, one of them changed, joined again -/
theorem li_join {k : Nat} {ws : List Str} (h1 : ∀ x ∈ ws, 32 ∉ cs x) (h2 : ∀ x ∈ ws, ∀ c ∈ cs x, c ≠ 10 ∧ c < 128) (h3 : ∀ x ∈ ws, runB (27 + k) 0 (cs x) = true) (h4 : (ws.map (·.length)).sum + ws.length ≤ bnd k + 1) (h5 : ws.length ≤ 7 + k) : LI k (Txt.join " " ws) := by
  have e : cs (Txt.join " " ws) = TL.joinL [32] (ws.map cs) := by rw [cs_join, cs_sp]
  by_cases hn : ws = []
  · subst hn
    have e2 : cs (Txt.join " " []) = [] := e
    exact ⟨(by rw [e2]; exact fun c h => nomatch h), by rw [e2]; rfl, by rw [cs_len, e2]; exact Nat.zero_le _, by rw [e2]; exact Nat.zero_le _⟩
  · have hn2 : ws.map cs ≠ [] := fun z => hn (List.map_eq_nil_iff.mp z)
    refine ⟨?_, ?_, ?_, ?_⟩
    · rw [e]
      refine joinL_all (fun c hc => ?_) fun p hp => ?_
      · rw [List.mem_singleton.mp hc]
        decide
      · obtain ⟨x, hx, rfl⟩ := List.mem_map.mp hp
        exact h2 x hx
    · rw [e]
      refine runB_join fun p hp => ?_
      obtain ⟨x, hx, rfl⟩ := List.mem_map.mp hp
      exact h3 x hx
    · rw [cs_len, e]
      have := joinL_len hn2
      rw [← tot, List.length_map] at this
      omega
    · rw [e]
      have := joinL_cnt hn2
      rw [cnt_free h1, List.length_map] at this
      omega
theorem LI.parts {k : Nat} {z : Str} (h : LI k z) : (∀ x ∈ Txt.split z " ", 32 ∉ cs x ∧ (∀ c ∈ cs x, c ≠ 10 ∧ c < 128) ∧ runB (27 + k) 0 (cs x) = true) ∧ ((Txt.split z " ").map (·.length)).sum + (Txt.split z " ").length = z.length + 1 ∧ (Txt.split z " ").length ≤ 7 + k ∧ Txt.split z " " ≠ [] := by
  have hn := split_ne z " "
  have hn2 : (Txt.split z " ").map cs ≠ [] := fun e => hn (List.map_eq_nil_iff.mp e)
  have e : cs z = TL.joinL [32] ((Txt.split z " ").map cs) := by rw [← cs_sp, ← cs_join, split_sp]
  have free : ∀ x ∈ Txt.split z " ", 32 ∉ cs x := fun x hx => sp_free hx
  refine ⟨fun x hx => ⟨free x hx, ?_⟩, ?_, ?_, hn⟩
  · obtain ⟨a, b, e2⟩ := split_infix hx
    refine ⟨fun c hc => h.chr c ?_, ?_⟩
    · rw [e2]
      exact List.mem_append_right _ (List.mem_append_left _ hc)
    · have := h.run
      rw [e2] at this
      exact runB_left (runB_right this)
  · have := joinL_len hn2
    rw [← e, ← tot, List.length_map] at this
    rw [cs_len]
    omega
  · have := joinL_cnt hn2
    rw [← e, cnt_free free, List.length_map] at this
    have := h.cnt
    omega
theorem sum_set (ws : List Str) (i : Nat) (w : Str) : ((ws.set i w).map (·.length)).sum ≤ (ws.map (·.length)).sum + w.length := by
  induction ws generalizing i with
  | nil => simp
  | cons a r ih =>
    cases i with
    | zero => simp only [List.set_cons_zero, List.map_cons, List.sum_cons]; omega
    | succ i =>
      have := ih i
      simp only [List.set_cons_succ, List.map_cons, List.sum_cons]
      omega
theorem sum_td (ws : List Str) (i : Nat) : ((ws.take i).map (·.length)).sum + ((ws.drop i).map (·.length)).sum = (ws.map (·.length)).sum := by
  rw [← List.sum_append, ← List.map_append, List.take_append_drop]
theorem len_le_sum {ws : List Str} {x : Str} (h : x ∈ ws) : x.length ≤ (ws.map (·.length)).sum := by
  induction ws with
  | nil => cases h
  | cons a r ih =>
    rw [List.map_cons, List.sum_cons]
    rcases List.mem_cons.mp h with rfl | h
    · omega
    · have := ih h
      omega
theorem sum_take_le (ws : List Str) (i : Nat) : ((ws.take i).map (·.length)).sum ≤ (ws.map (·.length)).sum := by have := sum_td ws i; omega
theorem sum_drop_le (ws : List Str) (i : Nat) : ((ws.drop i).map (·.length)).sum ≤ (ws.map (·.length)).sum := by have := sum_td ws i; omega
section
variable {k : Nat} {z : Str} (h : LI k z)
include h
/-- a word left out -/
theorem LI.less (i : Nat) : LI (k + 1) (Txt.join " " ((Txt.split z " ").take i ++ (Txt.split z " ").drop (i + 1))) := by
  obtain ⟨h1, h2, h3, h4⟩ := h.parts
  have hm : ∀ x ∈ (Txt.split z " ").take i ++ (Txt.split z " ").drop (i + 1), x ∈ Txt.split z " " := fun x hx => (List.mem_append.mp hx).elim (List.mem_of_mem_take ·) (List.mem_of_mem_drop ·)
  refine li_join (fun x hx => (h1 x (hm x hx)).1) (fun x hx => (h1 x (hm x hx)).2.1) (fun x hx => runB_mono (by omega) (Nat.le_refl _) (h1 x (hm x hx)).2.2) ?_ ?_
  · have a := sum_td (Txt.split z " ") i
    have b := sum_drop_le ((Txt.split z " ").drop i) 1
    rw [List.drop_drop] at b
    have c := h.len
    rw [List.map_append, List.sum_append, List.length_append, List.length_take, List.length_drop]
    show _ ≤ 2 * bnd k + 12 + 1
    have e : min i (Txt.split z " ").length + ((Txt.split z " ").length - (i + 1)) ≤ (Txt.split z " ").length := by omega
    have e2 : (((Txt.split z " ").drop (i + 1)).map (·.length)).sum ≤ (((Txt.split z " ").drop i).map (·.length)).sum := b
    omega
  · rw [List.length_append, List.length_take, List.length_drop]
    omega
/-- a word doubled -/
theorem LI.more (i : Nat) : LI (k + 1) (Txt.join " " ((Txt.split z " ").take (i + 1) ++ (Txt.split z " ").drop i)) := by
  obtain ⟨h1, h2, h3, h4⟩ := h.parts
  have hm : ∀ x ∈ (Txt.split z " ").take (i + 1) ++ (Txt.split z " ").drop i, x ∈ Txt.split z " " := fun x hx => (List.mem_append.mp hx).elim (List.mem_of_mem_take ·) (List.mem_of_mem_drop ·)
  refine li_join (fun x hx => (h1 x (hm x hx)).1) (fun x hx => (h1 x (hm x hx)).2.1) (fun x hx => runB_mono (by omega) (Nat.le_refl _) (h1 x (hm x hx)).2.2) ?_ ?_
  · have a := sum_take_le (Txt.split z " ") (i + 1)
    have b := sum_drop_le (Txt.split z " ") i
    have c := h.len
    rw [List.map_append, List.sum_append, List.length_append, List.length_take, List.length_drop]
    show _ ≤ 2 * bnd k + 12 + 1
    have e : min (i + 1) (Txt.split z " ").length + ((Txt.split z " ").length - i) ≤ (Txt.split z " ").length + 1 := by omega
    omega
  · rw [List.length_append, List.length_take, List.length_drop]
    omega
/-- what can stand in for a word -/
theorem LI.other (i : Nat) {w : Str} (hw : (32 ∉ cs w ∧ (∀ c ∈ cs w, c ≠ 10 ∧ c < 128) ∧ runB 27 0 (cs w) = true ∧ w.length ≤ 9) ∨ w ∈ Txt.split z " ") : LI (k + 1) (Txt.join " " ((Txt.split z " ").set i w)) := by
  obtain ⟨h1, h2, h3, h4⟩ := h.parts
  have wp : 32 ∉ cs w ∧ (∀ c ∈ cs w, c ≠ 10 ∧ c < 128) ∧ runB (27 + (k + 1)) 0 (cs w) = true := by
    rcases hw with ⟨a, b, c, _⟩ | hw
    · exact ⟨a, b, runB_mono (by omega) (Nat.le_refl _) c⟩
    · exact ⟨(h1 w hw).1, (h1 w hw).2.1, runB_mono (by omega) (Nat.le_refl _) (h1 w hw).2.2⟩
  have all : ∀ x ∈ (Txt.split z " ").set i w, 32 ∉ cs x ∧ (∀ c ∈ cs x, c ≠ 10 ∧ c < 128) ∧ runB (27 + (k + 1)) 0 (cs x) = true := fun x hx => by
    rcases List.mem_or_eq_of_mem_set hx with hx | rfl
    · exact ⟨(h1 x hx).1, (h1 x hx).2.1, runB_mono (by omega) (Nat.le_refl _) (h1 x hx).2.2⟩
    · exact wp
  refine li_join (fun x hx => (all x hx).1) (fun x hx => (all x hx).2.1) (fun x hx => (all x hx).2.2) ?_ ?_
  · have a := sum_set (Txt.split z " ") i w
    have c := h.len
    have d : w.length ≤ z.length + 9 := by
      rcases hw with ⟨_, _, _, d⟩ | hw
      · omega
      · have := PyProof.Rows.part_short hw
        omega
    rw [List.length_set]
    show _ ≤ 2 * bnd k + 12 + 1
    omega
  · rw [List.length_set]
    omega
end
/-- a sign put in -/
theorem LI.ins {k x : Nat} {z y : Str} {a b : List Nat} (h : LI k z) (ez : cs z = a ++ b) (ey : cs y = a ++ x :: b) (hx : x ≠ 10 ∧ x < 128) : LI (k + 1) y := by
  refine ⟨fun c hc => ?_, ?_, ?_, ?_⟩
  · rw [ey] at hc
    rcases List.mem_append.mp hc with hc | hc
    · exact h.chr c (by rw [ez]; exact List.mem_append_left _ hc)
    · rcases List.mem_cons.mp hc with rfl | hc
      · exact hx
      · exact h.chr c (by rw [ez]; exact List.mem_append_right _ hc)
  · rw [ey]
    refine runB_ins (Nat.zero_le _) ?_
    rw [← ez]
    exact h.run
  · have := h.len
    rw [cs_len, ez, List.length_append] at this
    rw [cs_len, ey, List.length_append, List.length_cons]
    show _ ≤ 2 * bnd k + 12
    omega
  · have := h.cnt
    rw [ez, List.count_append] at this
    rw [ey, List.count_append]
    have e : (x :: b).count 32 ≤ b.count 32 + 1 := by
      rw [List.count_cons]
      split <;> omega
    omega
/-- more words behind -/
theorem LI.tail {k : Nat} {z : Str} (h : LI k z) {w y : Str} (ey : cs y = cs z ++ 32 :: cs w) (h1 : 32 ∉ cs w) (h2 : ∀ c ∈ cs w, c ≠ 10 ∧ c < 128) (h3 : runB 1 0 (cs w) = true) (h4 : w.length ≤ 3) : LI (k + 1) y := by
  refine ⟨fun c hc => ?_, ?_, ?_, ?_⟩
  · rw [ey] at hc
    rcases List.mem_append.mp hc with hc | hc
    · exact h.chr c hc
    · rcases List.mem_cons.mp hc with rfl | hc
      · decide
      · exact h2 c hc
  · rw [ey, runB_sep (by decide), Bool.and_eq_true]
    exact ⟨runB_mono (by omega) (Nat.le_refl _) h.run, runB_mono (by omega) (Nat.le_refl _) h3⟩
  · have := h.len
    rw [cs_len] at this h4
    rw [cs_len, ey, List.length_append, List.length_cons]
    show _ ≤ 2 * bnd k + 12
    omega
  · have := h.cnt
    rw [ey, List.count_append, List.count_cons_self, List.count_eq_zero.mpr h1]
    omega
/-! ### numbers as words -/
theorem num_cs {m : Nat} : cs (Str.ofString (toString ((m : Nat) : Int))) = (Nat.toDigits 10 m).map Char.toNat := PySem.W.KIN.signs_num m
theorem num_dig {m : Nat} : ∀ c ∈ cs (Str.ofString (toString ((m : Nat) : Int))), digB c = true := fun c hc => by
  rw [num_cs] at hc
  obtain ⟨d, hd, rfl⟩ := List.mem_map.mp hc
  have := Nat.isDigit_of_mem_toDigits (by decide) (by decide) hd
  unfold Char.isDigit at this
  rw [Bool.and_eq_true, decide_eq_true_eq, decide_eq_true_eq] at this
  unfold digB
  rw [Bool.and_eq_true, decide_eq_true_eq, decide_eq_true_eq]
  exact ⟨by have := this.1; exact this, by have := this.2; exact this⟩
theorem num_len {m n : Nat} (h : m < 10 ^ n) (hn : 0 < n) : (Str.ofString (toString ((m : Nat) : Int))).length ≤ n := by
  rw [cs_len, num_cs, List.length_map]
  exact (Nat.length_toDigits_le_iff (by decide) hn).mpr h
theorem runB_short {n : Nat} : ∀ {l : List Nat} {cur : Nat}, cur + l.length ≤ n → runB n cur l = true
  | [], _, _ => rfl
  | c :: r, cur, h => by
    rw [List.length_cons] at h
    rw [runB]
    split
    · rw [Bool.and_eq_true, decide_eq_true_eq]
      exact ⟨by omega, runB_short (by omega)⟩
    · exact runB_short (by omega)
/-- a word of a line that is fine -/
structure WI (z : Str) : Prop where
  chr : ∀ c ∈ cs z, c ≠ 10 ∧ c < 128
  run : runB 27 0 (cs z) = true
theorem WI.of_short {z : Str} (h : ∀ c ∈ cs z, c ≠ 10 ∧ c < 128) (hl : z.length ≤ 27) : WI z := ⟨h, runB_short (by rw [← cs_len]; omega)⟩
theorem dig_chr {c : Nat} (h : digB c = true) : c ≠ 10 ∧ c < 128 := by
  unfold digB at h
  rw [Bool.and_eq_true, decide_eq_true_eq, decide_eq_true_eq] at h
  omega
theorem num_wi {m : Nat} (h : m < 10 ^ 27) : WI (Str.ofString (toString ((m : Nat) : Int))) := .of_short (fun c hc => dig_chr (num_dig c hc)) (num_len h (by decide))
theorem dig_32 {c : Nat} (h : digB c = true) : c ≠ 32 := by
  unfold digB at h
  rw [Bool.and_eq_true, decide_eq_true_eq, decide_eq_true_eq] at h
  omega
/-- the words of a line as it is written -/
theorem li_words {ws : List Str} (h1 : ∀ x ∈ ws, WI x) (h2 : (ws.map (·.length)).sum + ws.length ≤ 161) (h3 : ((ws.map cs).map (·.count 32)).sum + ws.length ≤ 7) (hn : ws ≠ []) : LI 0 (Txt.join " " ws) := by
  have e : cs (Txt.join " " ws) = TL.joinL [32] (ws.map cs) := by rw [cs_join, cs_sp]
  have hn2 : ws.map cs ≠ [] := fun z => hn (List.map_eq_nil_iff.mp z)
  refine ⟨?_, ?_, ?_, ?_⟩
  · rw [e]
    refine joinL_all (fun c hc => ?_) fun p hp => ?_
    · rw [List.mem_singleton.mp hc]
      decide
    · obtain ⟨x, hx, rfl⟩ := List.mem_map.mp hp
      exact (h1 x hx).chr
  · rw [e]
    refine runB_join fun p hp => ?_
    obtain ⟨x, hx, rfl⟩ := List.mem_map.mp hp
    exact (h1 x hx).run
  · rw [cs_len, e]
    have := joinL_len hn2
    rw [← tot, List.length_map] at this
    show _ ≤ 160
    omega
  · rw [e]
    have := joinL_cnt hn2
    rw [List.length_map] at this
    omega
end AL
namespace AL
open PySem PySem.Spec PyProof.Rows L2 Ls
/-! ### short steps over data -/
local macro_rules | `(tactic| walk_at "gsq") => `(tactic| first
  | exact .inl rfl | exact .inr (.inl rfl) | exact .inr (.inr (.inl rfl)) | exact .inr (.inr (.inr ⟨_, rfl, by assumption⟩)) | exact .inr ⟨_, rfl, by assumption⟩ | exact .inr rfl)
local macro_rules | `(tactic| walk_at "g1") => `(tactic| first
  | with_reducible refine g_seq ?_
  | with_reducible refine g_ret ?_
  | with_reducible refine g_set ?_
  | with_reducible refine g_if ?_
  | with_reducible refine g_retN ?_
  | with_reducible refine g_drop ?_
  | with_reducible refine g_next ?_
  | with_reducible refine g_par ?_
  | with_reducible refine g_sfld ?_
  | with_reducible refine g_dput ?_
  | with_reducible refine g_ddel ?_
  | with_reducible refine g_setI ?_
  | with_reducible refine g_forW ?_
  | with_reducible refine g_asg ?_
  | with_reducible refine g_var (by with_unfolding_all exact rfl) ?_
  | with_reducible refine g_int ?_
  | with_reducible refine g_str ?_
  | with_reducible refine g_bl ?_
  | with_reducible refine g_non ?_
  | with_reducible refine g_ty ?_
  | with_reducible refine g_test ?_
  | with_reducible refine g_tB ?_
  | with_reducible refine g_tnot ?_
  | with_reducible refine g_cons ?_
  | with_reducible refine g_nil ?_
  | with_reducible refine g_op ro_eq ?_
  | with_reducible refine g_op ro_ne ?_
  | with_reducible refine g_op ro_ixL ?_
  | with_reducible refine g_op ro_ixT ?_
  | with_reducible refine g_op ro_ixS ?_
  | with_reducible refine g_op ro_in ?_
  | with_reducible refine g_op ro_notIn ?_
  | with_reducible refine g_op ro_addS ?_
  | with_reducible refine g_op ro_add ?_
  | with_reducible refine g_op ro_sub ?_
  | with_reducible refine g_op ro_lt ?_
  | with_reducible refine g_op ro_le ?_
  | with_reducible refine g_op ro_gt ?_
  | with_reducible refine g_op ro_ge ?_
  | with_reducible refine g_op ro_isN ?_
  | with_reducible refine g_op ro_notN ?_
  | with_reducible refine g_op ro_inSign ?_
  | with_reducible refine g_op ro_notInSign ?_
  | with_reducible refine g_op ro_leS ?_
  | with_reducible refine g_op ro_ltS ?_
  | with_reducible refine g_op ro_catA ?_
  | with_reducible refine g_op ro_catT ?_
  | with_reducible refine g_op ro_mul ?_
  | with_reducible refine g_op ro_pow ?_
  | with_reducible refine g_op ro_mod ?_
  | with_reducible refine g_op ro_div ?_
  | with_reducible refine g_un uo_neg ?_
  | with_reducible refine g_chain ro_le ro_le ?_
  | with_reducible refine g_chain ro_le ro_lt ?_
  | with_reducible refine g_cb co_len ?_
  | with_reducible refine g_cb co_lenS ?_
  | with_reducible refine g_cb co_lenD ?_
  | with_reducible refine g_cb co_isi ?_
  | with_reducible refine g_cb co_isiT ?_
  | with_reducible refine g_cb co_all ?_
  | with_reducible refine g_cb co_any ?_
  | with_reducible refine g_cb co_int1 ?_
  | with_reducible refine g_cb co_intS ?_
  | with_reducible refine g_cb co_strI ?_
  | with_reducible refine g_cb co_strS ?_
  | with_reducible refine g_cb co_tuple ?_
  | with_reducible refine g_cb co_strU ?_
  | with_reducible refine g_cb co_lenSetK ?_
  | with_reducible refine g_cb co_repr ?_
  | with_reducible refine g_op ro_ixU ?_
  | with_reducible refine g_op ro_eqE ?_
  | with_reducible refine g_op ro_neE ?_
  | with_reducible refine g_op ro_eqSm ?_
  | with_reducible refine g_op ro_neSm ?_
  | with_reducible refine g_op ro_eqSs ?_
  | with_reducible refine g_wseq ?_
  | with_reducible refine g_scW ?_
  | with_reducible refine g_kget ?_
  | with_reducible refine g_m0 mo_isdigit ?_
  | with_reducible refine g_m0 mo_isascii ?_
  | with_reducible refine g_star ?_
  | with_reducible refine g_cb co_sortedS ?_
  | with_reducible refine g_cb co_sortedI ?_
  | with_reducible refine g_fld ?_
  | with_reducible refine g_xf ?_
  | with_reducible refine g_tup ?_
  | with_reducible refine g_dget ?_
  | with_reducible refine g_din ?_
  | with_reducible refine g_dnotin ?_
  | with_reducible refine g_dget1 ?_
  | with_reducible refine g_dget2 ?_
  | with_reducible refine g_call ?_
  | with_reducible refine g_callS ?_
  | with_reducible refine g_meth ?_
  | with_reducible refine g_methR ?_
  | with_reducible refine g_m1 mo_split ?_
  | with_reducible refine g_m1 mo_join ?_
  | with_reducible refine g_bm mo_append ?_
  | with_reducible refine g_bm mo_extend ?_
  | with_reducible refine g_bm mo_popAt ?_
  | with_reducible refine g_bm0 mo_pop ?_
  | with_reducible refine g_sl so_list ?_
  | with_reducible refine g_sl so_str ?_
  | with_reducible refine g_sl so_tupA ?_
  | with_reducible refine g_sl so_tup ?_
  | with_reducible refine g_noPart ?_
  | with_reducible refine g_part ?_
  | with_reducible refine g_lcW ?_
  | with_reducible refine g_wlist ?_
  | with_reducible refine g_wtup ?_
  | with_reducible refine g_wstr ?_
  | with_reducible refine g_wenum ?_
  | with_reducible refine g_wrange1 ?_
  | with_reducible refine g_wrange2 ?_
  | with_reducible refine g_join ?_
  | with_reducible refine g_jcons ?_
  | with_reducible refine g_jnil ?_
  | with_reducible refine g_fmt ?_
  | with_reducible refine g_lenSet ?_
  | with_reducible refine g_raise1 ?_
  | with_reducible refine g_raise2 ?_
  | with_reducible refine g_raise0 ?_
  | with_reducible refine g_yes ?_
  | with_reducible refine g_gcons ?_
  | with_reducible refine g_gnil ?_
  | with_reducible refine g_name (by first | trivial | decide) ?_
  | with_reducible refine ⟨_, rfl, ?_⟩
  | with_reducible refine ⟨_, _, rfl, rfl, ?_⟩)
local macro_rules | `(tactic| walk_at "g") => `(tactic| repeat (walk_at "g1"))

local macro_rules | `(tactic| walk_at "ss") => `(tactic| (funext zz; simp only [supd, sdel]; (repeat' split) <;> first | rfl | (subst_vars; first | rfl | contradiction | (simp_all; done)) | (simp_all; done)))
local macro_rules | `(tactic| walk_at "sp") => `(tactic| first
  | with_reducible assumption
  | exact supd_same
  | exact sdel_same
  | exact Eq.trans (supd_ne (by walk_at "ls_ne")) (by walk_at "sp")
  | exact Eq.trans (sdel_ne (by walk_at "ls_ne")) (by walk_at "sp"))
local macro_rules | `(tactic| walk_at "ls_ne") => `(tactic| first | assumption | exact Ne.symm (by assumption) | exact sne (by assumption) (by assumption) | exact Ne.symm (sne (by assumption) (by assumption)))

def oD : Option Nat → Dat | none => .non | some n => .int (n : Nat)
/-- a deed of the told form -/
inductive DdOk : Dat → Prop
  | put {a : Str} {n : Nat} {os : List (Str × Nat)} : Nm a → n < 10 ^ 27 → os.length ≤ 3 → (∀ x ∈ os, Nm x.1 ∧ x.2 < 10 ^ 27) → DdOk (.tup [.str "put", .str a, .int (n : Nat), .tup (os.map fun x => .tup [.str x.1, .int (x.2 : Nat)])])
  | turn {a b : Str} {n : Nat} {o : Option Nat} : Nm a → Nm b → n < 10 ^ 27 → (∀ m, o = some m → m < 10 ^ 27) → DdOk (.tup [.str "turn", .str a, .int (n : Nat), .str b, oD o])
  | strike {a : Str} {n : Nat} : Nm a → n < 10 ^ 27 → DdOk (.tup [.str "strike", .str a, .int (n : Nat)])
  | look {a w : Str} {n : Nat} {ns : List Nat} : Nm a → w ∈ (["spread ", "clear ", "fell "] : List Str) → n < 10 ^ 27 → ns.length ≤ 3 → (∀ x ∈ ns, x < 10 ^ 27) → DdOk (.tup [.str "look", .int (n : Nat), .str (w ++ a), .tup (ns.map fun x => .int (x : Nat))])
  | one {w : Str} {n : Nat} : w ∈ (["do", "stop"] : List Str) → n < 10 ^ 27 → DdOk (.tup [.str w, .int (n : Nat)])
section
variable {P : Program} {w : World} {K : PySem.W.Frag} {mg : Str → Option Value} {base : Heap}
/-! ### _law_number -/
abbrev s__law_number : Stmt := topS 31
theorem sc__law_number : FnScope ["_law_stream"] ["_law_stream"] (defScope s__law_number) := ⟨rfl, rfl, rfl, by decide +kernel, rfl, by decide +kernel, by decide +kernel⟩
abbrev N__law_number : List Str := ["_law_stream"]
def aLNo : ASp := fun ds s Q _ => ∃ (S L : Addr) (n : Nat), ds = [.ref S] ∧ s S = some (StrmB S L n) ∧ n ≤ 9999000 ∧ ∀ m : Nat, m < 10 ^ 27 → Q (.int (m : Nat)) (supd s S (StrmB S L (n + 2)))
theorem a_lno {f : Addr} {fd : FuncData} (F : Fun K "_law_number" "_law_number" s__law_number f fd) (O__law_draw : Own P w K mg base CX0 1 "_law_draw" ["_law_stream", "_law_many"] (conc K aDraw)) : FnOk P w K mg base CX0 2 f fd ["_law_stream"] (conc K aLNo) := by
  refine a_ok F sc__law_number (fun ds s Q E h => ?_) (fun cdv A outer s0 H0 E hr => ?_)
  · obtain ⟨S, L, n, rfl, _⟩ := h
    rfl
  · have hu := hu_of hr
    refine ⟨_, (pss_one (ps_ret (pe_ifExp (pt_cmpR op_gt (own_call O__law_draw hr (by first | decide | omega) (pa_cons (pv 0) (pa_cons pe_int pa_nil))) pe_int (nomark _)) (own_call O__law_draw hr (by first | decide | omega) (pa_cons (pv 0) (pa_cons pe_int pa_nil))) (pe_op op_sub (pe_op op_sub (pe_op op_pow pe_int pe_int) pe_int) (own_call O__law_draw hr (by first | decide | omega) (pa_cons (pv 0) (pa_cons pe_int pa_nil))))))), ?_⟩
    rintro ds s Q E ⟨S, L, n, rfl, hS, hn, q⟩
    try simp only [nox_K, cx_K]
    walk_at "g"
    refine g_ifE ?_
    walk_at "g"
    refine ⟨S, L, n, 6, rfl, hS, by omega, by decide, by decide, fun r r0 r1 => ?_⟩
    walk_at "g"
    refine ⟨fun e => ?_, fun e => ?_⟩
    · walk_at "g"
      refine ⟨S, L, n + 1, 12, rfl, supd_same, by omega, by decide, by decide, fun r r0 r1 => ?_⟩
      obtain ⟨m, rfl⟩ := Int.eq_ofNat_of_zero_le r0
      rw [supd_supd]
      exact q m (Nat.lt_of_lt_of_le (show m < 12 by omega) (by decide))
    · walk_at "g"
      refine ⟨⟨by decide, by decide, by decide⟩, ?_⟩
      walk_at "g"
      refine ⟨S, L, n + 1, 99, rfl, supd_same, by omega, by decide, by decide, fun r r0 r1 => ?_⟩
      refine ⟨_, _, rfl, rfl, ?_⟩
      obtain ⟨m, rfl⟩ := Int.eq_ofNat_of_zero_le r0
      rw [supd_supd]
      have hm : m < 99 := by omega
      have e1 : ((10 : Int) ^ Int.toNat 27 - 1 - (m : Nat)) = ((10 ^ 27 - 1 - m : Nat) : Int) := by
        have : (10 : Int) ^ Int.toNat 27 = ((10 ^ 27 : Nat) : Int) := by norm_cast
        rw [this]
        omega
      have := q (10 ^ 27 - 1 - m) (by omega)
      rw [← e1] at this
      exact this
/-! ### _law_any -/
abbrev s__law_any : Stmt := topS 32
theorem sc__law_any : FnScope ["_law_stream", "_law_word", "_law_names_here", "_law_owners", "_law_owner", "_law_numbers", "_law_piece", "_law_name", "_law_k"] ["_law_stream"] (defScope s__law_any) := ⟨rfl, rfl, rfl, by decide +kernel, rfl, by decide +kernel, by decide +kernel⟩
abbrev N__law_any : List Str := ["_law_stream", "_law_word", "_law_names_here", "_law_owners", "_law_owner", "_law_numbers", "_law_piece", "_law_name", "_law_k"]
def aLAny : ASp := fun ds s Q _ => ∃ (S L : Addr) (n : Nat), ds = [.ref S] ∧ s S = some (StrmB S L n) ∧ n ≤ 9990000 ∧ ∀ d m, DdOk d → m ≤ n + 100 → Q d (supd s S (StrmB S L m))
theorem a_lany {f : Addr} {fd : FuncData} (F : Fun K "_law_any" "_law_any" s__law_any f fd) (T : Bt mg) (O__law_draw : Own P w K mg base CX0 1 "_law_draw" ["_law_stream", "_law_many"] (conc K aDraw)) (O__law_pick : Own P w K mg base CX0 2 "_law_pick" ["_law_stream", "_law_things"] (conc K aPick))
    (O__law_names : Own P w K mg base CX0 3 "_law_names" ["_law_stream", "_law_many"] (conc K aNames)) (O__law_number : Own P w K mg base CX0 2 "_law_number" ["_law_stream"] (conc K aLNo)) : FnOk P w K mg base CX0 4 f fd ["_law_stream"] (conc K aLAny) := by
  refine a_ok F sc__law_any (fun ds s Q E h => ?_) (fun cdv A outer s0 H0 E hr => ?_)
  · obtain ⟨S, L, n, rfl, _⟩ := h
    rfl
  · have hu := hu_of hr
    refine ⟨_, (pss_cons (ps_set (i := 1) sc__law_any.nd rfl (Or.inl rfl) (own_call O__law_pick hr (by first | decide | omega) (pa_cons (pv 0) (pa_cons (pe_lst (pa_cons pe_str (pa_cons pe_str (pa_cons pe_str (pa_cons pe_str (pa_cons pe_str (pa_cons pe_str pa_nil))))))) pa_nil))))
      (pss_cons (ps_set (i := 2) sc__law_any.nd rfl (Or.inl rfl) (own_call O__law_names hr (by first | decide | omega) (pa_cons (pv 0) (pa_cons pe_int pa_nil))))
      (pss_cons (ps_if (pt_cmpR op_eq (pv 1) pe_str (nomark _)) (pss_cons (ps_setLc (i := 3) (own := [("_law_name", 7)]) (g := gName 7) (by rfl) sc__law_any.nd rfl rfl (sw_true rfl rfl rfl (by decide +kernel)) (pi_list (pe_slice sl_list (pv 2) (po_some pe_int) (po_some (pe_op op_add pe_int (own_call O__law_draw hr (by first | decide | omega) (pa_cons (pv 0) (pa_cons pe_int pa_nil))))))) (blkOk_by (own := [("_law_name", 7)]) (N := N__law_any) (sc := defScope s__law_any) (by decide +kernel)) (fun _ _ _ _ _ => (pg_name (i := 7) sc__law_any.nd rfl (Or.inl rfl) (Or.inr rfl))) (fun _ _ _ _ _ => pts_nil) (fun _ _ _ _ _ => (pe_tup (pa_cons (pv 7) (pa_cons (own_call O__law_number hr (by first | decide | omega) (pa_cons (pv 0) pa_nil)) pa_nil)))))
      (pss_one (ps_ret (pe_tup (pa_cons pe_str (pa_cons (pe_ix (ixL K) (pv 2) pe_int (fun _ _ => rfl)) (pa_cons (own_call O__law_number hr (by first | decide | omega) (pa_cons (pv 0) pa_nil)) (pa_cons (pe_callTy (tuple_of K) (by rfl) T.m_tuple (by decide +kernel) (pa_cons (pv 3) pa_nil)) pa_nil)))))))) pss_nil)
      (pss_cons (ps_if (pt_cmpR op_eq (pv 1) pe_str (nomark _)) (pss_cons (ps_set (i := 4) sc__law_any.nd rfl (Or.inl rfl) (pe_ifExp (pt_cmpR op_eq (own_call O__law_draw hr (by first | decide | omega) (pa_cons (pv 0) (pa_cons pe_int pa_nil))) pe_int (nomark _)) pe_non (own_call O__law_number hr (by first | decide | omega) (pa_cons (pv 0) pa_nil))))
      (pss_one (ps_ret (pe_tup (pa_cons pe_str (pa_cons (pe_ix (ixL K) (pv 2) pe_int (fun _ _ => rfl)) (pa_cons (own_call O__law_number hr (by first | decide | omega) (pa_cons (pv 0) pa_nil)) (pa_cons (pe_ix (ixL K) (pv 2) pe_int (fun _ _ => rfl)) (pa_cons (pv 4) pa_nil))))))))) pss_nil)
      (pss_cons (ps_if (pt_cmpR op_eq (pv 1) pe_str (nomark _)) (pss_one (ps_ret (pe_tup (pa_cons pe_str (pa_cons (pe_ix (ixL K) (pv 2) pe_int (fun _ _ => rfl)) (pa_cons (own_call O__law_number hr (by first | decide | omega) (pa_cons (pv 0) pa_nil)) pa_nil)))))) pss_nil)
      (pss_cons (ps_if (pt_cmpR op_eq (pv 1) pe_str (nomark _)) (pss_cons (ps_setLc (i := 5) (own := [("_law_k", 8)]) (g := gName 8) (by rfl) sc__law_any.nd rfl rfl (sw_true rfl rfl rfl (by decide +kernel)) (pi_range1 rfl T.m_range (pa_cons (pe_op op_add pe_int (own_call O__law_draw hr (by first | decide | omega) (pa_cons (pv 0) (pa_cons pe_int pa_nil)))) pa_nil)) (blkOk_by (own := [("_law_k", 8)]) (N := N__law_any) (sc := defScope s__law_any) (by decide +kernel)) (fun _ _ _ _ _ => (pg_name (i := 8) sc__law_any.nd rfl (Or.inl rfl) (Or.inr rfl))) (fun _ _ _ _ _ => pts_nil) (fun _ _ _ _ _ => (own_call O__law_number hr (by first | decide | omega) (pa_cons (pv 0) pa_nil))))
      (pss_cons (ps_set (i := 6) sc__law_any.nd rfl (Or.inl rfl) (pe_op op_add_str (own_call O__law_pick hr (by first | decide | omega) (pa_cons (pv 0) (pa_cons (pe_lst (pa_cons pe_str (pa_cons pe_str (pa_cons pe_str pa_nil)))) pa_nil))) (pe_ix (ixL K) (pv 2) pe_int (fun _ _ => rfl))))
      (pss_one (ps_ret (pe_tup (pa_cons pe_str (pa_cons (own_call O__law_number hr (by first | decide | omega) (pa_cons (pv 0) pa_nil)) (pa_cons (pv 6) (pa_cons (pe_callTy (tuple_of K) (by rfl) T.m_tuple (by decide +kernel) (pa_cons (pv 5) pa_nil)) pa_nil))))))))) pss_nil)
      (pss_one (ps_ret (pe_tup (pa_cons (pv 1) (pa_cons (own_call O__law_number hr (by first | decide | omega) (pa_cons (pv 0) pa_nil)) pa_nil))))))))))), ?_⟩
    rintro ds s Q E ⟨S, L, n, rfl, hS, hn, q⟩
    try simp only [nox_K, cx_K]
    walk_at "g"
    refine g_lst ?_
    walk_at "g"
    refine ⟨by decide, ?_⟩
    walk_at "g"
    refine ⟨S, L, n, _, [.str "put", .str "turn", .str "strike", .str "look", .str "do", .str "stop"], rfl, hS, by omega, .inl rfl, by decide, by decide, fun x hx => ?_⟩
    obtain ⟨wd, rfl, hwd⟩ : ∃ wd, x = .str wd ∧ wd ∈ (["put", "turn", "strike", "look", "do", "stop"] : List Str) := by
      have : x ∈ (["put", "turn", "strike", "look", "do", "stop"] : List Str).map Dat.str := hx
      obtain ⟨y, hy, rfl⟩ := List.mem_map.mp this
      exact ⟨y, rfl, hy⟩
    clear hx
    walk_at "g"
    refine ⟨S, L, n + 1, 4, rfl, supd_same, by omega, by decide, fun ts tl tok => ?_⟩
    rw [supd_supd]
    match ts, tl, tok with
    | [n0, n1, n2, n3], _, tok =>
      have k0 : Nm n0 := tok.2 n0 (by simp)
      have k1 : Nm n1 := tok.2 n1 (by simp)
      walk_at "g"
      refine ⟨fun e => ?_, fun e => ?_⟩
      · walk_at "g"
        refine ⟨S, L, n + 1 + 12 * 4, 4, rfl, supd_same, by omega, by decide, by decide, fun r r0 r1 => ?_⟩
        obtain ⟨m, rfl⟩ := Int.eq_ofNat_of_zero_le r0
        have hm : m < 4 := by omega
        refine ⟨_, _, rfl, rfl, _, rfl, _, .inl rfl, ?_⟩
        rw [supd_supd, show (1 : Int) + (m : Nat) = ((1 + m : Nat) : Int) from rfl, show (some (1 : Int)) = some ((1 : Nat) : Int) from rfl, cut_mid, ← List.map_drop, ← List.map_take, show 1 + m - 1 = m by omega]
        have hl3 : ([n1, n2, n3].take m).length ≤ 3 := by rw [List.length_take]; show min m 3 ≤ 3; omega
        refine ⟨_, .inl ⟨rfl, ?_⟩⟩
        refine LcW.mk ([n1, n2, n3].take m) Dat.str rfl (fun i acc s' => ∃ os : List (Str × Nat), acc = os.map (fun x => .tup [.str x.1, .int (x.2 : Nat)]) ∧ os.length = i ∧ (∀ x ∈ os, Nm x.1 ∧ x.2 < 10 ^ 27) ∧ s' = supd s S (StrmB S L (n + 1 + 12 * 4 + 1 + 2 * i))) (Nat.lt_of_le_of_lt hl3 (by decide)) ⟨[], rfl, rfl, (fun x h => nomatch h), rfl⟩ (fun _ _ _ _ _ => trivial) ?_ ?_
        · rintro i x acc s' hx ⟨os, rfl, hl, hok, rfl⟩
          have hi : i < ([n1, n2, n3].take m).length := (List.getElem?_eq_some_iff.mp hx).1
          have hxm : Nm x := by
            have := List.mem_of_mem_take (List.mem_of_getElem? hx)
            exact tok.2 x (List.mem_cons_of_mem _ this)
          walk_at "g"
          refine ⟨fun _ => ?_, fun z => nomatch z⟩
          walk_at "g"
          refine ⟨S, L, _, rfl, supd_same, by omega, fun k hk => ?_⟩
          walk_at "g"
          refine ⟨(show 2 ≤ sizeLine by decide), os ++ [(x, k)], by rw [List.map_append]; rfl, by rw [List.length_append, hl]; rfl, fun y hy => ?_, ?_⟩
          · rcases List.mem_append.mp hy with hy | hy
            · exact hok y hy
            · rw [List.mem_singleton.mp hy]
              exact ⟨hxm, hk⟩
          · rw [supd_supd, Nat.mul_add, ← Nat.add_assoc]
        · rintro acc s' ⟨os, rfl, hl, hok, rfl⟩
          walk_at "g"
          refine ⟨_, 0, _, .inl rfl, rfl, atI_nat (j := 0) rfl, ?_⟩
          walk_at "g"
          refine ⟨S, L, _, rfl, supd_same, by omega, fun k hk => ?_⟩
          walk_at "g"
          refine ⟨_, _, rfl, .inl (.inl rfl), ?_⟩
          walk_at "g"
          refine ⟨(show 4 ≤ sizeLine by decide), ?_⟩
          rw [supd_supd]
          exact q _ _ (.put k0 hk (by omega) hok) (by omega)
      · walk_at "g"
        refine ⟨fun e2 => ?_, fun e2 => ?_⟩
        · walk_at "g"
          refine g_ifE ?_
          walk_at "g"
          refine ⟨S, L, _, 3, rfl, supd_same, by omega, by decide, by decide, fun r r0 r1 => ?_⟩
          rw [supd_supd]
          have fin : ∀ (nx : Ga → AS → Prop) (o : Option Nat) (m : Nat), (∀ k, o = some k → k < 10 ^ 27) → m ≤ n + 1 + 12 * 4 + 3 → GS (ec0 K) (tRet (tTup (tCons (tC (V.str "turn")) (tCons (tOp (rIxL K) (tVar 2) (tC (V.int 0))) (tCons (tCall (conc K aLNo) [] E0 (tCons (tVar 0) tNil)) (tCons (tOp (rIxL K) (tVar 2) (tC (V.int 1))) (tCons (tVar 4) tNil))))))) [some (.ref S), some (.str wd), some (.lst ([n0, n1, n2, n3].map Dat.str)), none, some (oD o), none, none, none, none] (supd s S (StrmB S L m)) { nx := nx, rt := Q } := fun nx o m ho hm => by
            walk_at "g"
            refine ⟨_, 0, _, .inl rfl, rfl, atI_nat (j := 0) rfl, ?_⟩
            walk_at "g"
            refine ⟨S, L, _, rfl, supd_same, by omega, fun k hk => ?_⟩
            walk_at "g"
            refine ⟨_, 1, _, .inl rfl, rfl, atI_nat (j := 1) rfl, ?_⟩
            walk_at "g"
            refine ⟨(show 5 ≤ sizeLine by decide), ?_⟩
            rw [supd_supd]
            exact q _ _ (.turn k0 k1 hk ho) (by omega)
          walk_at "g"
          refine ⟨fun e3 => ?_, fun e3 => ?_⟩
          · refine g_non ?_
            exact fin _ none (n + 1 + 12 * 4 + 1) (fun k h => nomatch h) (by omega)
          · walk_at "g"
            refine ⟨S, L, _, rfl, supd_same, by omega, fun k hk => ?_⟩
            rw [supd_supd]
            exact fin _ (some k) (n + 1 + 12 * 4 + 1 + 2) (fun j h => by cases h; exact hk) (by omega)
        · walk_at "g"
          refine ⟨fun e3 => ?_, fun e3 => ?_⟩
          · walk_at "g"
            refine ⟨_, 0, _, .inl rfl, rfl, atI_nat (j := 0) rfl, ?_⟩
            walk_at "g"
            refine ⟨S, L, _, rfl, supd_same, by omega, fun k hk => ?_⟩
            walk_at "g"
            refine ⟨(show 3 ≤ sizeLine by decide), ?_⟩
            rw [supd_supd]
            exact q _ _ (.strike k0 hk) (by omega)
          · walk_at "g"
            refine ⟨fun e4 => ?_, fun e4 => ?_⟩
            · walk_at "g"
              refine ⟨S, L, _, 3, rfl, supd_same, by omega, by decide, by decide, fun r r0 r1 => ?_⟩
              obtain ⟨m, rfl⟩ := Int.eq_ofNat_of_zero_le r0
              have hm : m < 3 := by omega
              refine ⟨_, _, rfl, rfl, ?_⟩
              walk_at "g"
              refine ⟨by omega, by omega, ?_⟩
              rw [supd_supd, show ((1 : Int) + (m : Nat)).toNat = 1 + m by omega]
              refine LcW.mk (List.range (1 + m)) (fun i : Nat => .int (0 + (i : Nat))) (by rw [rng_map]) (fun i acc s' => ∃ ns : List Nat, acc = ns.map (fun x => .int (x : Nat)) ∧ ns.length = i ∧ (∀ x ∈ ns, x < 10 ^ 27) ∧ s' = supd s S (StrmB S L (n + 1 + 12 * 4 + 1 + 2 * i))) (by rw [List.length_range]; exact Nat.lt_of_le_of_lt (show 1 + m ≤ 3 by omega) (by decide)) ⟨[], rfl, rfl, (fun x h => nomatch h), rfl⟩ (fun _ _ _ _ _ => trivial) ?_ ?_
              · rintro i x acc s' hx ⟨ns, rfl, hl, hok, rfl⟩
                obtain ⟨hi, _⟩ := rng_at hx
                walk_at "g"
                refine ⟨fun _ => ?_, fun z => nomatch z⟩
                walk_at "g"
                refine ⟨S, L, _, rfl, supd_same, by omega, fun k hk => ?_⟩
                refine ⟨ns ++ [k], by rw [List.map_append]; rfl, by rw [List.length_append, hl]; rfl, fun y hy => ?_, ?_⟩
                · rcases List.mem_append.mp hy with hy | hy
                  · exact hok y hy
                  · rw [List.mem_singleton.mp hy]
                    exact hk
                · rw [supd_supd, Nat.mul_add, ← Nat.add_assoc]
              · rintro acc s' ⟨ns, rfl, hl, hok, rfl⟩
                rw [List.length_range] at hl ⊢
                walk_at "g"
                refine g_lst ?_
                walk_at "g"
                refine ⟨by decide, ?_⟩
                walk_at "g"
                refine ⟨S, L, _, _, [.str "spread ", .str "clear ", .str "fell "], rfl, supd_same, by omega, .inl rfl, by decide, by decide, fun x hx => ?_⟩
                obtain ⟨pw, rfl, hpw⟩ : ∃ pw, x = .str pw ∧ pw ∈ (["spread ", "clear ", "fell "] : List Str) := by
                  have : x ∈ (["spread ", "clear ", "fell "] : List Str).map Dat.str := hx
                  obtain ⟨y, hy, rfl⟩ := List.mem_map.mp this
                  exact ⟨y, rfl, hy⟩
                walk_at "g"
                refine ⟨_, 0, _, .inl rfl, rfl, atI_nat (j := 0) rfl, ?_⟩
                have hpl : pw.length ≤ 7 := by
                  have h : ∀ y ∈ (["spread ", "clear ", "fell "] : List Str), y.length ≤ 7 := by decide +kernel
                  exact h pw hpw
                refine ⟨_, _, rfl, rfl, Nat.le_trans (Nat.add_le_add hpl k0.1.2.1) (by decide), ?_⟩
                walk_at "g"
                refine ⟨S, L, _, rfl, supd_same, by omega, fun k hk => ?_⟩
                walk_at "g"
                refine ⟨_, _, rfl, .inl (.inl rfl), ?_⟩
                walk_at "g"
                refine ⟨(show 4 ≤ sizeLine by decide), ?_⟩
                rw [supd_supd, supd_supd]
                exact q _ _ (.look k0 hpw hk (by omega) hok) (by omega)
            · walk_at "g"
              refine ⟨S, L, _, rfl, supd_same, by omega, fun k hk => ?_⟩
              walk_at "g"
              refine ⟨(show 2 ≤ sizeLine by decide), ?_⟩
              rw [supd_supd]
              refine q _ _ (.one ?_ hk) (by omega)
              have h1 : wd ≠ "put" := of_decide_eq_false e
              have h2 : wd ≠ "turn" := of_decide_eq_false e2
              have h3 : wd ≠ "strike" := of_decide_eq_false e3
              have h4 : wd ≠ "look" := of_decide_eq_false e4
              simpa [h1, h2, h3, h4] using hwd
end
end AL
namespace AL
open PySem PySem.Spec PyProof.Rows L2 Ls
/-! ### short steps over data -/
local macro_rules | `(tactic| walk_at "gsq") => `(tactic| first
  | exact .inl rfl | exact .inr (.inl rfl) | exact .inr (.inr (.inl rfl)) | exact .inr (.inr (.inr ⟨_, rfl, by assumption⟩)) | exact .inr ⟨_, rfl, by assumption⟩ | exact .inr rfl)
local macro_rules | `(tactic| walk_at "g1") => `(tactic| first
  | with_reducible refine g_seq ?_
  | with_reducible refine g_ret ?_
  | with_reducible refine g_set ?_
  | with_reducible refine g_if ?_
  | with_reducible refine g_retN ?_
  | with_reducible refine g_drop ?_
  | with_reducible refine g_next ?_
  | with_reducible refine g_par ?_
  | with_reducible refine g_sfld ?_
  | with_reducible refine g_dput ?_
  | with_reducible refine g_ddel ?_
  | with_reducible refine g_setI ?_
  | with_reducible refine g_forW ?_
  | with_reducible refine g_asg ?_
  | with_reducible refine g_var (by with_unfolding_all exact rfl) ?_
  | with_reducible refine g_int ?_
  | with_reducible refine g_str ?_
  | with_reducible refine g_bl ?_
  | with_reducible refine g_non ?_
  | with_reducible refine g_ty ?_
  | with_reducible refine g_test ?_
  | with_reducible refine g_tB ?_
  | with_reducible refine g_tnot ?_
  | with_reducible refine g_cons ?_
  | with_reducible refine g_nil ?_
  | with_reducible refine g_op ro_eq ?_
  | with_reducible refine g_op ro_ne ?_
  | with_reducible refine g_op ro_ixL ?_
  | with_reducible refine g_op ro_ixT ?_
  | with_reducible refine g_op ro_ixS ?_
  | with_reducible refine g_op ro_in ?_
  | with_reducible refine g_op ro_notIn ?_
  | with_reducible refine g_op ro_addS ?_
  | with_reducible refine g_op ro_add ?_
  | with_reducible refine g_op ro_sub ?_
  | with_reducible refine g_op ro_lt ?_
  | with_reducible refine g_op ro_le ?_
  | with_reducible refine g_op ro_gt ?_
  | with_reducible refine g_op ro_ge ?_
  | with_reducible refine g_op ro_isN ?_
  | with_reducible refine g_op ro_notN ?_
  | with_reducible refine g_op ro_inSign ?_
  | with_reducible refine g_op ro_notInSign ?_
  | with_reducible refine g_op ro_leS ?_
  | with_reducible refine g_op ro_ltS ?_
  | with_reducible refine g_op ro_catA ?_
  | with_reducible refine g_op ro_catT ?_
  | with_reducible refine g_op ro_mul ?_
  | with_reducible refine g_op ro_pow ?_
  | with_reducible refine g_op ro_mod ?_
  | with_reducible refine g_op ro_div ?_
  | with_reducible refine g_un uo_neg ?_
  | with_reducible refine g_chain ro_le ro_le ?_
  | with_reducible refine g_chain ro_le ro_lt ?_
  | with_reducible refine g_cb co_len ?_
  | with_reducible refine g_cb co_lenS ?_
  | with_reducible refine g_cb co_lenD ?_
  | with_reducible refine g_cb co_isi ?_
  | with_reducible refine g_cb co_isiT ?_
  | with_reducible refine g_cb co_all ?_
  | with_reducible refine g_cb co_any ?_
  | with_reducible refine g_cb co_int1 ?_
  | with_reducible refine g_cb co_intS ?_
  | with_reducible refine g_cb co_strI ?_
  | with_reducible refine g_cb co_strS ?_
  | with_reducible refine g_cb co_tuple ?_
  | with_reducible refine g_cb co_strU ?_
  | with_reducible refine g_cb co_lenSetK ?_
  | with_reducible refine g_cb co_repr ?_
  | with_reducible refine g_op ro_ixU ?_
  | with_reducible refine g_op ro_eqE ?_
  | with_reducible refine g_op ro_neE ?_
  | with_reducible refine g_op ro_eqSm ?_
  | with_reducible refine g_op ro_neSm ?_
  | with_reducible refine g_op ro_eqSs ?_
  | with_reducible refine g_wseq ?_
  | with_reducible refine g_scW ?_
  | with_reducible refine g_kget ?_
  | with_reducible refine g_m0 mo_isdigit ?_
  | with_reducible refine g_m0 mo_isascii ?_
  | with_reducible refine g_star ?_
  | with_reducible refine g_cb co_sortedS ?_
  | with_reducible refine g_cb co_sortedI ?_
  | with_reducible refine g_fld ?_
  | with_reducible refine g_xf ?_
  | with_reducible refine g_tup ?_
  | with_reducible refine g_dget ?_
  | with_reducible refine g_din ?_
  | with_reducible refine g_dnotin ?_
  | with_reducible refine g_dget1 ?_
  | with_reducible refine g_dget2 ?_
  | with_reducible refine g_call ?_
  | with_reducible refine g_callS ?_
  | with_reducible refine g_meth ?_
  | with_reducible refine g_methR ?_
  | with_reducible refine g_m1 mo_split ?_
  | with_reducible refine g_m1 mo_join ?_
  | with_reducible refine g_bm mo_append ?_
  | with_reducible refine g_bm mo_extend ?_
  | with_reducible refine g_bm mo_popAt ?_
  | with_reducible refine g_bm0 mo_pop ?_
  | with_reducible refine g_sl so_list ?_
  | with_reducible refine g_sl so_str ?_
  | with_reducible refine g_sl so_tupA ?_
  | with_reducible refine g_sl so_tup ?_
  | with_reducible refine g_noPart ?_
  | with_reducible refine g_part ?_
  | with_reducible refine g_lcW ?_
  | with_reducible refine g_wlist ?_
  | with_reducible refine g_wtup ?_
  | with_reducible refine g_wstr ?_
  | with_reducible refine g_wenum ?_
  | with_reducible refine g_wrange1 ?_
  | with_reducible refine g_wrange2 ?_
  | with_reducible refine g_join ?_
  | with_reducible refine g_jcons ?_
  | with_reducible refine g_jnil ?_
  | with_reducible refine g_fmt ?_
  | with_reducible refine g_lenSet ?_
  | with_reducible refine g_raise1 ?_
  | with_reducible refine g_raise2 ?_
  | with_reducible refine g_raise0 ?_
  | with_reducible refine g_yes ?_
  | with_reducible refine g_gcons ?_
  | with_reducible refine g_gnil ?_
  | with_reducible refine g_name (by first | trivial | decide) ?_
  | with_reducible refine ⟨_, rfl, ?_⟩
  | with_reducible refine ⟨_, _, rfl, rfl, ?_⟩)
local macro_rules | `(tactic| walk_at "g") => `(tactic| repeat (walk_at "g1"))

local macro_rules | `(tactic| walk_at "ss") => `(tactic| (funext zz; simp only [supd, sdel]; (repeat' split) <;> first | rfl | (subst_vars; first | rfl | contradiction | (simp_all; done)) | (simp_all; done)))
local macro_rules | `(tactic| walk_at "sp") => `(tactic| first
  | with_reducible assumption
  | exact supd_same
  | exact sdel_same
  | exact Eq.trans (supd_ne (by walk_at "ls_ne")) (by walk_at "sp")
  | exact Eq.trans (sdel_ne (by walk_at "ls_ne")) (by walk_at "sp"))
local macro_rules | `(tactic| walk_at "ls_ne") => `(tactic| first | assumption | exact Ne.symm (by assumption) | exact sne (by assumption) (by assumption) | exact Ne.symm (sne (by assumption) (by assumption)))

theorem nm_cs {z : Str} (h : Nm z) : ∀ c ∈ cs z, 97 ≤ c ∧ c ≤ 122 := h.1.2.2
theorem nm_wi {z : Str} (h : Nm z) : WI z := .of_short (fun c hc => by have := nm_cs h c hc; omega) (Nat.le_trans h.1.2.1 (by decide))
theorem nm_32 {z : Str} (h : Nm z) : (cs z).count 32 = 0 := List.count_eq_zero.mpr fun m => by have := nm_cs h 32 m; omega
theorem nm_len {z : Str} (h : Nm z) : z.length ≤ 8 := h.1.2.1
theorem num_32 {n : Nat} : (cs (Str.ofString (toString ((n : Nat) : Int)))).count 32 = 0 := List.count_eq_zero.mpr fun m => dig_32 (num_dig _ m) rfl
theorem lit_wi {z : Str} (h : ((cs z).all fun c => decide (c ≠ 10) && decide (c < 128)) = true) (hl : z.length ≤ 27) : WI z := .of_short (fun c hc => by
  have := List.all_eq_true.mp h c hc
  rw [Bool.and_eq_true, decide_eq_true_eq, decide_eq_true_eq] at this
  exact this) hl
abbrev numW (n : Nat) : Str := Str.ofString (toString ((n : Nat) : Int))
theorem len_app (a b : Str) : (a ++ b).length = a.length + b.length := by rw [cs_len, cs_app, List.length_append, ← cs_len, ← cs_len]
theorem small_log {n : Nat} (h : n < 10 ^ 27) : ((n : Nat) : Int).natAbs.log2 < 1920 := by
  have h2 : n < 2 ^ 1920 := Nat.lt_trans h (by decide +kernel)
  show n.log2 < 1920
  by_cases h0 : n = 0
  · subst h0
    decide +kernel
  · exact (Nat.log2_lt h0).mpr h2
theorem wi_app {a b : Str} {s : Nat} (ha : WI a) (hb : WI b) {y : Str} (e : cs y = cs a ++ s :: cs b) (hs : digB s = false) (hc : s ≠ 10 ∧ s < 128) : WI y := by
  refine ⟨fun c h => ?_, ?_⟩
  · rw [e] at h
    rcases List.mem_append.mp h with h | h
    · exact ha.chr c h
    · rcases List.mem_cons.mp h with rfl | h
      · exact hc
      · exact hb.chr c h
  · rw [e, runB_sep hs, ha.run, hb.run]
    rfl
def ownW (x : Str × Nat) : Str := x.1 ++ "=" ++ numW x.2
theorem ownW_cs (x : Str × Nat) : cs (ownW x) = cs x.1 ++ 61 :: cs (numW x.2) := by
  unfold ownW
  rw [cs_app, cs_app, cs_eq]
  simp [List.append_assoc]
theorem ownW_wi {x : Str × Nat} (h1 : Nm x.1) (h2 : x.2 < 10 ^ 27) : WI (ownW x) := wi_app (nm_wi h1) (num_wi h2) (ownW_cs x) (by decide) (by decide)
theorem ownW_len {x : Str × Nat} (h1 : Nm x.1) (h2 : x.2 < 10 ^ 27) : (ownW x).length ≤ 36 := by
  have a := nm_len h1
  have b : (numW x.2).length ≤ 27 := num_len h2 (by decide)
  rw [cs_len] at a b
  rw [cs_len, ownW_cs, List.length_append, List.length_cons]
  omega
theorem ownW_32 {x : Str × Nat} (h1 : Nm x.1) : (cs (ownW x)).count 32 = 0 := by
  rw [ownW_cs, List.count_append, List.count_cons, nm_32 h1, num_32]
  decide
theorem sum_cnt_zero {ws : List Str} (h : ∀ x ∈ ws, (cs x).count 32 = 0) : ((ws.map cs).map (·.count 32)).sum = 0 := cnt_free fun x hx m => by
  have := List.count_pos_iff.mpr m
  rw [h x hx] at this
  omega
theorem sum_le' {ws : List Str} {n : Nat} (h : ∀ z ∈ ws, z.length ≤ n) : (ws.map (·.length)).sum ≤ n * ws.length := sum_le h
/-- the words of a deed's line -/
theorem put_li {a : Str} {n : Nat} {os : List (Str × Nat)} (h1 : Nm a) (h2 : n < 10 ^ 27) (h3 : os.length ≤ 3) (h4 : ∀ x ∈ os, Nm x.1 ∧ x.2 < 10 ^ 27) : LI 0 (Txt.join " " ([("put" : Str), a, numW n] ++ os.map ownW)) := by
  refine li_words (fun x hx => ?_) ?_ ?_ (by simp)
  · simp only [List.mem_append, List.mem_cons, List.mem_map, List.not_mem_nil, or_false] at hx
    rcases hx with (rfl | rfl | rfl) | ⟨o, ho, rfl⟩
    · exact lit_wi (by decide +kernel) (by decide)
    · exact nm_wi h1
    · exact num_wi h2
    · exact ownW_wi (h4 o ho).1 (h4 o ho).2
  · have s1 := sum_le' (ws := os.map ownW) (n := 36) fun z hz => by
      obtain ⟨o, ho, rfl⟩ := List.mem_map.mp hz
      exact ownW_len (h4 o ho).1 (h4 o ho).2
    have a1 := nm_len h1
    have bn : (numW n).length ≤ 27 := num_len h2 (by decide)
    rw [List.length_map] at s1
    rw [List.map_append, List.sum_append, List.length_append, List.length_map]
    show (("put" : Str).length + (a.length + ((numW n).length + 0))) + _ + (3 + os.length) ≤ 161
    have c : ("put" : Str).length = 3 := by decide +kernel
    omega
  · rw [sum_cnt_zero fun x hx => ?_]
    · rw [List.length_append, List.length_map]
      show 0 + (3 + os.length) ≤ 7
      omega
    · simp only [List.mem_append, List.mem_cons, List.mem_map, List.not_mem_nil, or_false] at hx
      rcases hx with (rfl | rfl | rfl) | ⟨o, ho, rfl⟩
      · decide +kernel
      · exact nm_32 h1
      · exact num_32
      · exact ownW_32 (h4 o ho).1
theorem turn_li {a b z : Str} {n : Nat} (h1 : Nm a) (h2 : n < 10 ^ 27) (h3 : Nm b) (hz : z = "-" ∨ ∃ m, m < 10 ^ 27 ∧ z = numW m) : LI 0 (Txt.join " " [("turn" : Str), a, numW n, b, z]) := by
  have zw : WI z ∧ z.length ≤ 27 ∧ (cs z).count 32 = 0 := by
    rcases hz with rfl | ⟨m, hm, rfl⟩
    · exact ⟨lit_wi (by decide +kernel) (by decide), by decide, by decide +kernel⟩
    · exact ⟨num_wi hm, num_len hm (by decide), num_32⟩
  refine li_words (fun x hx => ?_) ?_ ?_ (by simp)
  · simp only [List.mem_cons, List.not_mem_nil, or_false] at hx
    rcases hx with rfl | rfl | rfl | rfl | rfl
    · exact lit_wi (by decide +kernel) (by decide)
    · exact nm_wi h1
    · exact num_wi h2
    · exact nm_wi h3
    · exact zw.1
  · have a1 := nm_len h1
    have b1 : b.length ≤ 8 := nm_len h3
    have bn : (numW n).length ≤ 27 := num_len h2 (by decide)
    have c := zw.2.1
    show (("turn" : Str).length + (a.length + ((numW n).length + (b.length + (z.length + 0))))) + 5 ≤ 161
    have c : ("turn" : Str).length = 4 := by decide +kernel
    omega
  · rw [sum_cnt_zero fun x hx => ?_]
    · simp
    · simp only [List.mem_cons, List.not_mem_nil, or_false] at hx
      rcases hx with rfl | rfl | rfl | rfl | rfl
      · decide +kernel
      · exact nm_32 h1
      · exact num_32
      · exact nm_32 h3
      · exact zw.2.2
theorem strike_li {a : Str} {n : Nat} (h1 : Nm a) (h2 : n < 10 ^ 27) : LI 0 (Txt.join " " [("strike" : Str), a, numW n]) := by
  refine li_words (fun x hx => ?_) ?_ ?_ (by simp)
  · simp only [List.mem_cons, List.not_mem_nil, or_false] at hx
    rcases hx with rfl | rfl | rfl
    · exact lit_wi (by decide +kernel) (by decide)
    · exact nm_wi h1
    · exact num_wi h2
  · have a1 := nm_len h1
    have bn : (numW n).length ≤ 27 := num_len h2 (by decide)
    show (("strike" : Str).length + (a.length + ((numW n).length + 0))) + 3 ≤ 161
    have c : ("strike" : Str).length = 6 := by decide +kernel
    omega
  · rw [sum_cnt_zero fun x hx => ?_]
    · simp
    · simp only [List.mem_cons, List.not_mem_nil, or_false] at hx
      rcases hx with rfl | rfl | rfl
      · decide +kernel
      · exact nm_32 h1
      · exact num_32
theorem one_li {w : Str} {n : Nat} (hw : w ∈ (["do", "stop"] : List Str)) (h2 : n < 10 ^ 27) : LI 0 (Txt.join " " [w, numW n]) := by
  have ww : WI w ∧ w.length ≤ 4 ∧ (cs w).count 32 = 0 := by
    simp only [List.mem_cons, List.not_mem_nil, or_false] at hw
    rcases hw with rfl | rfl
    · exact ⟨lit_wi (by decide +kernel) (by decide), by decide, by decide +kernel⟩
    · exact ⟨lit_wi (by decide +kernel) (by decide), by decide, by decide +kernel⟩
  refine li_words (fun x hx => ?_) ?_ ?_ (by simp)
  · simp only [List.mem_cons, List.not_mem_nil, or_false] at hx
    rcases hx with rfl | rfl
    · exact ww.1
    · exact num_wi h2
  · have bn : (numW n).length ≤ 27 := num_len h2 (by decide)
    have c := ww.2.1
    show (w.length + ((numW n).length + 0)) + 2 ≤ 161
    omega
  · rw [sum_cnt_zero fun x hx => ?_]
    · simp
    · simp only [List.mem_cons, List.not_mem_nil, or_false] at hx
      rcases hx with rfl | rfl
      · exact ww.2.2
      · exact num_32
theorem look_li {a w : Str} {n : Nat} {ns : List Nat} (h1 : Nm a) (hw : w ∈ (["spread ", "clear ", "fell "] : List Str)) (h2 : n < 10 ^ 27) (h3 : ns.length ≤ 3) (h4 : ∀ x ∈ ns, x < 10 ^ 27) : LI 0 (Txt.join " " ([("look" : Str), numW n, w ++ a] ++ ns.map numW)) := by
  have ww : (∀ c ∈ cs w, c ≠ 10 ∧ c < 128) ∧ w.length ≤ 7 ∧ (cs w).count 32 = 1 := by
    simp only [List.mem_cons, List.not_mem_nil, or_false] at hw
    rcases hw with rfl | rfl | rfl <;> exact ⟨(by decide +kernel), by decide +kernel, by decide +kernel⟩
  have wa : WI (w ++ a) := .of_short (fun c hc => by
    rw [cs_app] at hc
    rcases List.mem_append.mp hc with hc | hc
    · exact ww.1 c hc
    · exact (nm_wi h1).chr c hc) (by rw [len_app]; have := nm_len h1; omega)
  refine li_words (fun x hx => ?_) ?_ ?_ (by simp)
  · simp only [List.mem_append, List.mem_cons, List.mem_map, List.not_mem_nil, or_false] at hx
    rcases hx with (rfl | rfl | rfl) | ⟨o, ho, rfl⟩
    · exact lit_wi (by decide +kernel) (by decide)
    · exact num_wi h2
    · exact wa
    · exact num_wi (h4 o ho)
  · have s1 := sum_le' (ws := ns.map numW) (n := 27) fun z hz => by
      obtain ⟨o, ho, rfl⟩ := List.mem_map.mp hz
      exact num_len (h4 o ho) (by decide)
    have a1 := nm_len h1
    have bn : (numW n).length ≤ 27 := num_len h2 (by decide)
    rw [List.length_map] at s1
    rw [List.map_append, List.sum_append, List.length_append, List.length_map]
    show (("look" : Str).length + ((numW n).length + ((w ++ a).length + 0))) + _ + (3 + ns.length) ≤ 161
    rw [len_app]
    have c : ("look" : Str).length = 4 := by decide +kernel
    omega
  · rw [List.map_append, List.map_append, List.sum_append, sum_cnt_zero (ws := ns.map numW) fun x hx => ?_]
    · rw [List.length_append, List.length_map]
      show ((cs "look").count 32 + ((cs (numW n)).count 32 + ((cs (w ++ a)).count 32 + 0))) + 0 + (3 + ns.length) ≤ 7
      rw [cs_app, List.count_append, ww.2.2, nm_32 h1, num_32]
      have c : (cs "look").count 32 = 0 := by decide +kernel
      omega
    · obtain ⟨o, ho, rfl⟩ := List.mem_map.mp hx
      exact num_32
theorem li_sum {k : Nat} {ws : List Str} (h : LI k (Txt.join " " ws)) (hk : k ≤ 3) (hn : ws ≠ []) : (ws.map (·.length)).sum + ws.length * (" " : Str).length ≤ 16777216 := by
  have e : cs (Txt.join " " ws) = TL.joinL [32] (ws.map cs) := by rw [cs_join, cs_sp]
  have hn2 : ws.map cs ≠ [] := fun z => hn (List.map_eq_nil_iff.mp z)
  have a := joinL_len hn2
  have b := Nat.le_trans h.len (bnd_mono hk)
  have c : bnd 3 = 1364 := rfl
  rw [cs_len, e] at b
  rw [← tot, List.length_map] at a
  show _ + _ * 1 ≤ _
  omega
/-- str of a part -/
def strP : Dat → Dat | .int i => .str (Str.ofString (toString i)) | d => d
section
variable {P : Program} {w : World} {K : PySem.W.Frag} {mg : Str → Option Value} {base : Heap}
/-! ### _law_line -/
abbrev s__law_line : Stmt := topS 30
theorem sc__law_line : FnScope ["_law_deed", "_law_part", "_law_name", "_law_number_here"] ["_law_deed"] (defScope s__law_line) := ⟨rfl, rfl, rfl, by decide +kernel, rfl, by decide +kernel, by decide +kernel⟩
abbrev N__law_line : List Str := ["_law_deed", "_law_part", "_law_name", "_law_number_here"]
def aLLn : ASp := fun ds s Q _ => ∃ d, ds = [d] ∧ DdOk d ∧ ∀ z, LI 0 z → Q (.str z) s
theorem a_lln {f : Addr} {fd : FuncData} (F : Fun K "_law_line" "_law_line" s__law_line f fd) (T : Bt mg) : FnOk P w K mg base CX0 1 f fd ["_law_deed"] (conc K aLLn) := by
  refine a_ok F sc__law_line (fun ds s Q E h => ?_) (fun cdv A outer s0 H0 E hr => ?_)
  · obtain ⟨d, rfl, _⟩ := h
    rfl
  · have hu := hu_of hr
    refine ⟨_, (pss_cons (ps_if (pt_cmpR op_eq (pe_ix (ixT K) (pv 0) pe_int (fun _ _ => rfl)) pe_str (nomark _)) (pss_one (ps_ret (pe_join pe_str (pe_op op_cat (pe_lst (pa_cons pe_str (pa_cons (pe_ix (ixT K) (pv 0) pe_int (fun _ _ => rfl)) (pa_cons (pe_callTy call_strU (by rfl) T.m_str (by decide +kernel) (pa_cons (pe_ix (ixT K) (pv 0) pe_int (fun _ _ => rfl)) pa_nil)) pa_nil)))) (pe_lc (own := [("_law_name", 2), ("_law_number_here", 3)]) (g := gTup K 2 (gCons (gName 2) (gCons (gName 3) gNil))) (by rfl) sc__law_line.nd (pi_tup (pe_ix (ixT K) (pv 0) pe_int (fun _ _ => rfl))) (blkOk_by (own := [("_law_name", 2), ("_law_number_here", 3)]) (N := N__law_line) (sc := defScope s__law_line) (by decide +kernel)) (fun _ _ _ _ _ => (pg_tup rfl (pgs_cons (pg_name (i := 2) sc__law_line.nd rfl (Or.inl rfl) (Or.inr rfl)) (pgs_cons (pg_name (i := 3) sc__law_line.nd rfl (Or.inl rfl) (Or.inr rfl)) pgs_nil)))) (fun _ _ _ _ _ => pts_nil) (fun _ _ _ _ _ => (pe_op op_add_str (pe_op op_add_str (pv 2) pe_str) (pe_callTy call_strU (by rfl) T.m_str (by decide +kernel) (pa_cons (pv 3) pa_nil))))))))) pss_nil)
      (pss_cons (ps_if (pt_cmpR op_eq (pe_ix (ixT K) (pv 0) pe_int (fun _ _ => rfl)) pe_str (nomark _)) (pss_one (ps_ret (pe_join pe_str (pe_lst (pa_cons pe_str (pa_cons (pe_ix (ixT K) (pv 0) pe_int (fun _ _ => rfl)) (pa_cons (pe_callTy call_strU (by rfl) T.m_str (by decide +kernel) (pa_cons (pe_ix (ixT K) (pv 0) pe_int (fun _ _ => rfl)) pa_nil)) (pa_cons (pe_ix (ixT K) (pv 0) pe_int (fun _ _ => rfl)) (pa_cons (pe_ifExp (pt_cmpR op_isN (pe_ix (ixT K) (pv 0) pe_int (fun _ _ => rfl)) pe_non (nomark _)) pe_str (pe_callTy call_strU (by rfl) T.m_str (by decide +kernel) (pa_cons (pe_ix (ixT K) (pv 0) pe_int (fun _ _ => rfl)) pa_nil))) pa_nil))))))))) pss_nil)
      (pss_cons (ps_if (pt_cmpR op_eq (pe_ix (ixT K) (pv 0) pe_int (fun _ _ => rfl)) pe_str (nomark _)) (pss_one (ps_ret (pe_join pe_str (pe_op op_cat (pe_lst (pa_cons pe_str (pa_cons (pe_callTy call_strU (by rfl) T.m_str (by decide +kernel) (pa_cons (pe_ix (ixT K) (pv 0) pe_int (fun _ _ => rfl)) pa_nil)) (pa_cons (pe_ix (ixT K) (pv 0) pe_int (fun _ _ => rfl)) pa_nil)))) (pe_lc (own := [("_law_number_here", 3)]) (g := gName 3) (by rfl) sc__law_line.nd (pi_tup (pe_ix (ixT K) (pv 0) pe_int (fun _ _ => rfl))) (blkOk_by (own := [("_law_number_here", 3)]) (N := N__law_line) (sc := defScope s__law_line) (by decide +kernel)) (fun _ _ _ _ _ => (pg_name (i := 3) sc__law_line.nd rfl (Or.inl rfl) (Or.inr rfl))) (fun _ _ _ _ _ => pts_nil) (fun _ _ _ _ _ => (pe_callTy call_strU (by rfl) T.m_str (by decide +kernel) (pa_cons (pv 3) pa_nil)))))))) pss_nil)
      (pss_one (ps_ret (pe_join pe_str (pe_lc (own := [("_law_part", 1)]) (g := gName 1) (by rfl) sc__law_line.nd (pi_tup (pv 0)) (blkOk_by (own := [("_law_part", 1)]) (N := N__law_line) (sc := defScope s__law_line) (by decide +kernel)) (fun _ _ _ _ _ => (pg_name (i := 1) sc__law_line.nd rfl (Or.inl rfl) (Or.inr rfl))) (fun _ _ _ _ _ => pts_nil) (fun _ _ _ _ _ => (pe_callTy call_strU (by rfl) T.m_str (by decide +kernel) (pa_cons (pv 1) pa_nil)))))))))), ?_⟩
    rintro ds s Q E ⟨d, rfl, hd, q⟩
    try simp only [nox_K, cx_K]
    walk_at "g"
    cases hd with
    | @put a n os h1 h2 h3 h4 =>
      refine ⟨_, 0, _, .inl rfl, rfl, atI_nat (j := 0) rfl, ?_⟩
      walk_at "g"
      refine ⟨fun _ => ?_, fun z => nomatch z⟩
      walk_at "g"
      refine ⟨⟨_, rfl⟩, ?_⟩
      refine g_op ro_cat ?_
      refine g_lst ?_
      walk_at "g"
      refine ⟨_, 1, _, .inl rfl, rfl, atI_nat (j := 1) rfl, ?_⟩
      walk_at "g"
      refine ⟨_, 2, _, .inl rfl, rfl, atI_nat (j := 2) rfl, ?_⟩
      walk_at "g"
      refine .inl ⟨_, rfl, small_log h2, ?_⟩
      walk_at "g"
      refine ⟨(show 3 ≤ sizeLine by decide), ?_⟩
      walk_at "g"
      refine ⟨_, 3, _, .inl rfl, rfl, atI_nat (j := 3) rfl, ?_⟩
      refine ⟨_, .inl rfl, ?_⟩
      refine LcW.map os (fun x => .tup [.str x.1, .int (x.2 : Nat)]) (fun x => .str (ownW x)) rfl (Nat.lt_of_le_of_lt h3 (by decide)) trivial (fun x hx => ?_) ?_
      · obtain ⟨k1, k2⟩ := h4 x hx
        have l1 := nm_len k1
        have l2 : (numW x.2).length ≤ 27 := num_len k2 (by decide)
        refine g_gtup (.inl rfl) rfl ?_
        walk_at "g"
        refine ⟨Nat.le_trans (show x.1.length + 1 ≤ 9 by omega) (by decide), ?_⟩
        walk_at "g"
        refine .inl ⟨_, rfl, small_log k2, ?_⟩
        refine ⟨_, _, rfl, rfl, Nat.le_trans (show (x.1 ++ "=").length + (numW x.2).length ≤ 36 by rw [len_app]; have : ("=" : Str).length = 1 := rfl; omega) (by decide), rfl, rfl⟩
      · have li := put_li h1 h2 h3 h4
        refine ⟨_, _, .inl rfl, .inl rfl, by rw [List.length_map]; exact Nat.le_trans (show 3 + os.length ≤ 6 by omega) (by decide), ?_⟩
        exact ⟨" ", [("put" : Str), a, numW n] ++ os.map ownW, rfl, .inl (by rw [List.map_append, List.map_map]; rfl), li_sum li (by decide) (by simp), q _ li⟩
    | @turn a b n o h1 h2 h3 h4 =>
      refine ⟨_, 0, _, .inl rfl, rfl, atI_nat (j := 0) rfl, ?_⟩
      walk_at "g"
      refine ⟨(fun z => nomatch z), fun _ => ?_⟩
      walk_at "g"
      refine ⟨_, 0, _, .inl rfl, rfl, atI_nat (j := 0) rfl, ?_⟩
      walk_at "g"
      refine ⟨fun _ => ?_, fun z => nomatch z⟩
      walk_at "g"
      refine ⟨⟨_, rfl⟩, ?_⟩
      refine g_lst ?_
      walk_at "g"
      refine ⟨_, 1, _, .inl rfl, rfl, atI_nat (j := 1) rfl, ?_⟩
      walk_at "g"
      refine ⟨_, 2, _, .inl rfl, rfl, atI_nat (j := 2) rfl, ?_⟩
      walk_at "g"
      refine .inl ⟨_, rfl, small_log h3, ?_⟩
      walk_at "g"
      refine ⟨_, 3, _, .inl rfl, rfl, atI_nat (j := 3) rfl, ?_⟩
      walk_at "g"
      refine g_ifE ?_
      walk_at "g"
      refine ⟨_, 4, _, .inl rfl, rfl, atI_nat (j := 4) rfl, ?_⟩
      walk_at "g"
      refine ⟨rfl, ?_⟩
      cases o with
      | none =>
        refine ⟨_, rfl, fun _ => ?_, fun z => nomatch z⟩
        walk_at "g"
        refine ⟨(show 5 ≤ sizeLine by decide), ?_⟩
        have li := turn_li (z := "-") h1 h3 h2 (.inl rfl)
        exact ⟨" ", [("turn" : Str), a, numW n, b, "-"], rfl, .inl rfl, li_sum li (by decide) (by simp), q _ li⟩
      | some m =>
        refine ⟨_, rfl, (fun z => nomatch z), fun _ => ?_⟩
        walk_at "g"
        refine ⟨_, 4, _, .inl rfl, rfl, atI_nat (j := 4) rfl, ?_⟩
        walk_at "g"
        refine .inl ⟨_, rfl, small_log (h4 m rfl), ?_⟩
        walk_at "g"
        refine ⟨(show 5 ≤ sizeLine by decide), ?_⟩
        have li := turn_li (z := numW m) h1 h3 h2 (.inr ⟨m, h4 m rfl, rfl⟩)
        exact ⟨" ", [("turn" : Str), a, numW n, b, numW m], rfl, .inl rfl, li_sum li (by decide) (by simp), q _ li⟩
    | @strike a n h1 h2 =>
      refine ⟨_, 0, _, .inl rfl, rfl, atI_nat (j := 0) rfl, ?_⟩
      walk_at "g"
      refine ⟨(fun z => nomatch z), fun _ => ?_⟩
      walk_at "g"
      refine ⟨_, 0, _, .inl rfl, rfl, atI_nat (j := 0) rfl, ?_⟩
      walk_at "g"
      refine ⟨(fun z => nomatch z), fun _ => ?_⟩
      walk_at "g"
      refine ⟨_, 0, _, .inl rfl, rfl, atI_nat (j := 0) rfl, ?_⟩
      walk_at "g"
      refine ⟨(fun z => nomatch z), fun _ => ?_⟩
      walk_at "g"
      refine ⟨⟨_, rfl⟩, ?_⟩
      walk_at "g"
      refine ⟨_, .inl rfl, ?_⟩
      have li := strike_li h1 h2
      refine LcW.map [(.str "strike" : Dat), .str a, .int (n : Nat)] id strP (List.map_id _).symm (show 3 < sizeLine by decide) trivial (fun x hx => ?_) ?_
      · simp only [List.mem_cons, List.not_mem_nil, or_false] at hx
        walk_at "g"
        rcases hx with rfl | rfl | rfl
        · exact .inr ⟨_, rfl, rfl, rfl⟩
        · exact .inr ⟨_, rfl, rfl, rfl⟩
        · exact .inl ⟨_, rfl, small_log h2, rfl, rfl⟩
      · exact ⟨" ", [("strike" : Str), a, numW n], rfl, .inl rfl, li_sum li (by decide) (by simp), q _ li⟩
    | @look a w n ns h1 h2 h3 h4 h5 =>
      refine ⟨_, 0, _, .inl rfl, rfl, atI_nat (j := 0) rfl, ?_⟩
      walk_at "g"
      refine ⟨(fun z => nomatch z), fun _ => ?_⟩
      walk_at "g"
      refine ⟨_, 0, _, .inl rfl, rfl, atI_nat (j := 0) rfl, ?_⟩
      walk_at "g"
      refine ⟨(fun z => nomatch z), fun _ => ?_⟩
      walk_at "g"
      refine ⟨_, 0, _, .inl rfl, rfl, atI_nat (j := 0) rfl, ?_⟩
      walk_at "g"
      refine ⟨fun _ => ?_, fun z => nomatch z⟩
      walk_at "g"
      refine ⟨⟨_, rfl⟩, ?_⟩
      refine g_op ro_cat ?_
      refine g_lst ?_
      walk_at "g"
      refine ⟨_, 1, _, .inl rfl, rfl, atI_nat (j := 1) rfl, ?_⟩
      walk_at "g"
      refine .inl ⟨_, rfl, small_log h3, ?_⟩
      walk_at "g"
      refine ⟨_, 2, _, .inl rfl, rfl, atI_nat (j := 2) rfl, ?_⟩
      walk_at "g"
      refine ⟨(show 3 ≤ sizeLine by decide), ?_⟩
      walk_at "g"
      refine ⟨_, 3, _, .inl rfl, rfl, atI_nat (j := 3) rfl, ?_⟩
      refine ⟨_, .inl rfl, ?_⟩
      refine LcW.map ns (fun x => .int (x : Nat)) (fun x => .str (numW x)) rfl (Nat.lt_of_le_of_lt h4 (by decide)) trivial (fun x hx => ?_) ?_
      · walk_at "g"
        exact .inl ⟨_, rfl, small_log (h5 x hx), rfl, rfl⟩
      · have li := look_li h1 h2 h3 h4 h5
        refine ⟨_, _, .inl rfl, .inl rfl, by rw [List.length_map]; exact Nat.le_trans (show 3 + ns.length ≤ 6 by omega) (by decide), ?_⟩
        exact ⟨" ", [("look" : Str), numW n, w ++ a] ++ ns.map numW, rfl, .inl (by rw [List.map_append, List.map_map]; rfl), li_sum li (by decide) (by simp), q _ li⟩
    | @one w n h1 h2 =>
      have hw : w ≠ "put" ∧ w ≠ "turn" ∧ w ≠ "look" := by
        simp only [List.mem_cons, List.not_mem_nil, or_false] at h1
        rcases h1 with rfl | rfl <;> exact ⟨by decide +kernel, by decide +kernel, by decide +kernel⟩
      refine ⟨_, 0, _, .inl rfl, rfl, atI_nat (j := 0) rfl, ?_⟩
      walk_at "g"
      refine ⟨(fun z => absurd (of_decide_eq_true z) hw.1), fun _ => ?_⟩
      walk_at "g"
      refine ⟨_, 0, _, .inl rfl, rfl, atI_nat (j := 0) rfl, ?_⟩
      walk_at "g"
      refine ⟨(fun z => absurd (of_decide_eq_true z) hw.2.1), fun _ => ?_⟩
      walk_at "g"
      refine ⟨_, 0, _, .inl rfl, rfl, atI_nat (j := 0) rfl, ?_⟩
      walk_at "g"
      refine ⟨(fun z => absurd (of_decide_eq_true z) hw.2.2), fun _ => ?_⟩
      walk_at "g"
      refine ⟨⟨_, rfl⟩, ?_⟩
      walk_at "g"
      refine ⟨_, .inl rfl, ?_⟩
      have li := one_li h1 h2
      refine LcW.map [(.str w : Dat), .int (n : Nat)] id strP (List.map_id _).symm (show 2 < sizeLine by decide) trivial (fun x hx => ?_) ?_
      · simp only [List.mem_cons, List.not_mem_nil, or_false] at hx
        walk_at "g"
        rcases hx with rfl | rfl
        · exact .inr ⟨_, rfl, rfl, rfl⟩
        · exact .inl ⟨_, rfl, small_log h2, rfl, rfl⟩
      · exact ⟨" ", [w, numW n], rfl, .inl rfl, li_sum li (by decide) (by simp), q _ li⟩
end
end AL
namespace AL
open PySem PySem.Spec PyProof.Rows L2 Ls
/-! ### short steps over data -/
local macro_rules | `(tactic| walk_at "gsq") => `(tactic| first
  | exact .inl rfl | exact .inr (.inl rfl) | exact .inr (.inr (.inl rfl)) | exact .inr (.inr (.inr ⟨_, rfl, by assumption⟩)) | exact .inr ⟨_, rfl, by assumption⟩ | exact .inr rfl)
local macro_rules | `(tactic| walk_at "g1") => `(tactic| first
  | with_reducible refine g_seq ?_
  | with_reducible refine g_ret ?_
  | with_reducible refine g_set ?_
  | with_reducible refine g_if ?_
  | with_reducible refine g_retN ?_
  | with_reducible refine g_drop ?_
  | with_reducible refine g_next ?_
  | with_reducible refine g_par ?_
  | with_reducible refine g_sfld ?_
  | with_reducible refine g_dput ?_
  | with_reducible refine g_ddel ?_
  | with_reducible refine g_setI ?_
  | with_reducible refine g_forW ?_
  | with_reducible refine g_asg ?_
  | with_reducible refine g_var (by with_unfolding_all exact rfl) ?_
  | with_reducible refine g_int ?_
  | with_reducible refine g_str ?_
  | with_reducible refine g_bl ?_
  | with_reducible refine g_non ?_
  | with_reducible refine g_ty ?_
  | with_reducible refine g_test ?_
  | with_reducible refine g_tB ?_
  | with_reducible refine g_tnot ?_
  | with_reducible refine g_cons ?_
  | with_reducible refine g_nil ?_
  | with_reducible refine g_op ro_eq ?_
  | with_reducible refine g_op ro_ne ?_
  | with_reducible refine g_op ro_ixL ?_
  | with_reducible refine g_op ro_ixT ?_
  | with_reducible refine g_op ro_ixS ?_
  | with_reducible refine g_op ro_in ?_
  | with_reducible refine g_op ro_notIn ?_
  | with_reducible refine g_op ro_addS ?_
  | with_reducible refine g_op ro_add ?_
  | with_reducible refine g_op ro_sub ?_
  | with_reducible refine g_op ro_lt ?_
  | with_reducible refine g_op ro_le ?_
  | with_reducible refine g_op ro_gt ?_
  | with_reducible refine g_op ro_ge ?_
  | with_reducible refine g_op ro_isN ?_
  | with_reducible refine g_op ro_notN ?_
  | with_reducible refine g_op ro_inSign ?_
  | with_reducible refine g_op ro_notInSign ?_
  | with_reducible refine g_op ro_leS ?_
  | with_reducible refine g_op ro_ltS ?_
  | with_reducible refine g_op ro_catA ?_
  | with_reducible refine g_op ro_catT ?_
  | with_reducible refine g_op ro_mul ?_
  | with_reducible refine g_op ro_pow ?_
  | with_reducible refine g_op ro_mod ?_
  | with_reducible refine g_op ro_div ?_
  | with_reducible refine g_un uo_neg ?_
  | with_reducible refine g_chain ro_le ro_le ?_
  | with_reducible refine g_chain ro_le ro_lt ?_
  | with_reducible refine g_cb co_len ?_
  | with_reducible refine g_cb co_lenS ?_
  | with_reducible refine g_cb co_lenD ?_
  | with_reducible refine g_cb co_isi ?_
  | with_reducible refine g_cb co_isiT ?_
  | with_reducible refine g_cb co_all ?_
  | with_reducible refine g_cb co_any ?_
  | with_reducible refine g_cb co_int1 ?_
  | with_reducible refine g_cb co_intS ?_
  | with_reducible refine g_cb co_strI ?_
  | with_reducible refine g_cb co_strS ?_
  | with_reducible refine g_cb co_tuple ?_
  | with_reducible refine g_cb co_strU ?_
  | with_reducible refine g_cb co_lenSetK ?_
  | with_reducible refine g_cb co_repr ?_
  | with_reducible refine g_op ro_ixU ?_
  | with_reducible refine g_op ro_eqE ?_
  | with_reducible refine g_op ro_neE ?_
  | with_reducible refine g_op ro_eqSm ?_
  | with_reducible refine g_op ro_neSm ?_
  | with_reducible refine g_op ro_eqSs ?_
  | with_reducible refine g_wseq ?_
  | with_reducible refine g_scW ?_
  | with_reducible refine g_kget ?_
  | with_reducible refine g_m0 mo_isdigit ?_
  | with_reducible refine g_m0 mo_isascii ?_
  | with_reducible refine g_star ?_
  | with_reducible refine g_cb co_sortedS ?_
  | with_reducible refine g_cb co_sortedI ?_
  | with_reducible refine g_fld ?_
  | with_reducible refine g_xf ?_
  | with_reducible refine g_tup ?_
  | with_reducible refine g_dget ?_
  | with_reducible refine g_din ?_
  | with_reducible refine g_dnotin ?_
  | with_reducible refine g_dget1 ?_
  | with_reducible refine g_dget2 ?_
  | with_reducible refine g_call ?_
  | with_reducible refine g_callS ?_
  | with_reducible refine g_meth ?_
  | with_reducible refine g_methR ?_
  | with_reducible refine g_m1 mo_split ?_
  | with_reducible refine g_m1 mo_join ?_
  | with_reducible refine g_bm mo_append ?_
  | with_reducible refine g_bm mo_extend ?_
  | with_reducible refine g_bm mo_popAt ?_
  | with_reducible refine g_bm0 mo_pop ?_
  | with_reducible refine g_sl so_list ?_
  | with_reducible refine g_sl so_str ?_
  | with_reducible refine g_sl so_tupA ?_
  | with_reducible refine g_sl so_tup ?_
  | with_reducible refine g_noPart ?_
  | with_reducible refine g_part ?_
  | with_reducible refine g_lcW ?_
  | with_reducible refine g_wlist ?_
  | with_reducible refine g_wtup ?_
  | with_reducible refine g_wstr ?_
  | with_reducible refine g_wenum ?_
  | with_reducible refine g_wrange1 ?_
  | with_reducible refine g_wrange2 ?_
  | with_reducible refine g_join ?_
  | with_reducible refine g_jcons ?_
  | with_reducible refine g_jnil ?_
  | with_reducible refine g_fmt ?_
  | with_reducible refine g_lenSet ?_
  | with_reducible refine g_raise1 ?_
  | with_reducible refine g_raise2 ?_
  | with_reducible refine g_raise0 ?_
  | with_reducible refine g_yes ?_
  | with_reducible refine g_gcons ?_
  | with_reducible refine g_gnil ?_
  | with_reducible refine g_name (by first | trivial | decide) ?_
  | with_reducible refine ⟨_, rfl, ?_⟩
  | with_reducible refine ⟨_, _, rfl, rfl, ?_⟩)
local macro_rules | `(tactic| walk_at "g") => `(tactic| repeat (walk_at "g1"))

local macro_rules | `(tactic| walk_at "ss") => `(tactic| (funext zz; simp only [supd, sdel]; (repeat' split) <;> first | rfl | (subst_vars; first | rfl | contradiction | (simp_all; done)) | (simp_all; done)))
local macro_rules | `(tactic| walk_at "sp") => `(tactic| first
  | with_reducible assumption
  | exact supd_same
  | exact sdel_same
  | exact Eq.trans (supd_ne (by walk_at "ls_ne")) (by walk_at "sp")
  | exact Eq.trans (sdel_ne (by walk_at "ls_ne")) (by walk_at "sp"))
local macro_rules | `(tactic| walk_at "ls_ne") => `(tactic| first | assumption | exact Ne.symm (by assumption) | exact sne (by assumption) (by assumption) | exact Ne.symm (sne (by assumption) (by assumption)))

def tails : List Str := [" ", "0", " 7", " a=1", "s"]
def putIns : List Str := [" ", "=", "-", "0", "a", "A", "\t", ","]
def spare : List Str := ["-", "00", "07", "a=1", "a=", "=1", "a=1=2", "strike", "put", "do", "fell", "-1", "", "1", "+1", "1.0"]
theorem bnd_le {k : Nat} (h : k ≤ 3) : bnd k ≤ 1364 := Nat.le_trans (bnd_mono h) (Nat.le_refl _)
theorem cs_cutS_take (z : Str) (n : Nat) : cs (cutS z none (some (n : Int))) = (cs z).take n := by
  unfold cutS cs
  rw [HT.sIx_nat, HT.sIx_none, List.drop_zero, Nat.sub_zero, List.toList_toArray]
  rcases Nat.le_total n z.length with h | h
  · rw [Nat.min_eq_left h]
  · rw [Nat.min_eq_right h, List.take_of_length_le (by rw [Array.length_toList]; exact Nat.le_refl _), List.take_of_length_le (by rw [Array.length_toList]; exact h)]
theorem cs_cutS_drop (z : Str) (n : Nat) : cs (cutS z (some (n : Int)) none) = (cs z).drop n := by
  unfold cutS cs
  rw [HT.sIx_nat, HT.sIx_none, List.toList_toArray]
  rcases Nat.le_total n z.length with h | h
  · rw [Nat.min_eq_left h, List.take_of_length_le (by rw [List.length_drop, Array.length_toList]; exact Nat.le_refl _)]
  · rw [Nat.min_eq_right h, List.drop_eq_nil_of_le (by rw [Array.length_toList]; exact Nat.le_refl _), List.drop_eq_nil_of_le (by rw [Array.length_toList]; exact h), List.take_nil]
theorem put_one {w : Str} (h : w ∈ putIns) : ∃ x, cs w = [x] ∧ x ≠ 10 ∧ x < 128 := by
  have k : putIns.all (fun w => match cs w with | [x] => decide (x ≠ 10) && decide (x < 128) | _ => false) = true := by decide +kernel
  have := List.all_eq_true.mp k w h
  match e : cs w, this with
  | [x], this =>
    simp only [Bool.and_eq_true, decide_eq_true_eq] at this
    exact ⟨x, rfl, this⟩
theorem li_tail {k : Nat} {z w : Str} (h : LI k z) (hw : w ∈ tails) : LI (k + 1) (z ++ w) := by
  unfold tails at hw
  simp only [List.mem_cons, List.not_mem_nil, or_false] at hw
  have one : ∀ {w : Str} {x : Nat}, cs w = [x] → x ≠ 10 ∧ x < 128 → LI (k + 1) (z ++ w) := fun {w x} e hx => h.ins (a := cs z) (b := []) (by simp) (by rw [cs_app, e]) hx
  have more : ∀ {w v : Str}, cs w = 32 :: cs v → 32 ∉ cs v → (∀ c ∈ cs v, c ≠ 10 ∧ c < 128) → runB 1 0 (cs v) = true → v.length ≤ 3 → LI (k + 1) (z ++ w) := fun {w v} e a b c d => h.tail (by rw [cs_app, e]) a b c d
  rcases hw with rfl | rfl | rfl | rfl | rfl
  · exact one (x := 32) (by decide +kernel) (by decide)
  · exact one (x := 48) (by decide +kernel) (by decide)
  · exact more (v := "7") (by decide +kernel) (by decide +kernel) (by decide +kernel) (by decide +kernel) (by decide +kernel)
  · exact more (v := "a=1") (by decide +kernel) (by decide +kernel) (by decide +kernel) (by decide +kernel) (by decide +kernel)
  · exact one (x := 115) (by decide +kernel) (by decide)
theorem spare_ok {w : Str} (h : w ∈ spare ++ [("ninewords" : Str)]) : 32 ∉ cs w ∧ (∀ c ∈ cs w, c ≠ 10 ∧ c < 128) ∧ runB 27 0 (cs w) = true ∧ w.length ≤ 9 := by
  have k : (spare ++ [("ninewords" : Str)]).all (fun w => decide (32 ∉ cs w) && ((cs w).all (fun c => decide (c ≠ 10) && decide (c < 128)) && (runB 27 0 (cs w) && decide (w.length ≤ 9)))) = true := by decide +kernel
  have := List.all_eq_true.mp k w h
  simp only [Bool.and_eq_true, decide_eq_true_eq, List.all_eq_true] at this
  exact this
theorem ixN_nat {n i : Nat} (h : i < n) : ixN n ((i : Nat) : Int) = some i := by
  unfold ixN
  rw [if_pos (by omega), if_pos (by omega)]
  rfl
theorem small40 {i : Int} (h : i ≤ 1000000) : i ≤ 10 ^ 40 := Int.le_trans h (by decide)
theorem gone1 {s : AS} {p S : Addr} {C B : Cell} (hp : s p = none) (pS : p ≠ S) : ∀ a c, supd s S B a = some c → supd (supd s p C) S B a = some c := fun a c h => by
  by_cases e : a = S
  · subst e
    rw [supd_same] at h ⊢
    exact h
  · rw [supd_ne e] at h ⊢
    rw [supd_ne (sne h hp)]
    exact h
theorem sum_bound {z : Str} {ws' : List Str} {A : Str → Prop} (h1 : ∀ x ∈ Txt.split z " ", A x) (h2 : ((Txt.split z " ").map (·.length)).sum + (Txt.split z " ").length = z.length + 1) (hz : z.length ≤ 1364) (hm : ∀ x ∈ ws', x ∈ Txt.split z " ") (hl : ws'.length ≤ 20) : (ws'.map (·.length)).sum + ws'.length * (" " : Str).length ≤ 16777216 := by
  have h3 := sum_le' (ws := ws') (n := 1364) fun x hx => Nat.le_trans (PyProof.Rows.part_short (hm x hx)) hz
  show _ + _ * 1 ≤ _
  omega
theorem gone2 {s : AS} {p S : Addr} {C B C' : Cell} (hp : s p = none) (pS : p ≠ S) : ∀ a c, supd s S B a = some c → supd (supd (supd s p C) S B) p C' a = some c := fun a c h => by
  have h2 := gone1 (C := C) hp pS a c h
  have ap : a ≠ p := fun e => by rw [e, supd_ne pS, hp] at h; cases h
  rw [supd_ne ap]
  exact h2
section
variable {P : Program} {w : World} {K : PySem.W.Frag} {mg : Str → Option Value} {base : Heap}
/-! ### _law_spoiled -/
abbrev s__law_spoiled : Stmt := topS 37
theorem sc__law_spoiled : FnScope ["_law_stream", "_law_line_here", "_law_words", "_law_way", "_law_at", "_law_sign", "_law_spare"] ["_law_stream", "_law_line_here"] (defScope s__law_spoiled) := ⟨rfl, rfl, rfl, by decide +kernel, rfl, by decide +kernel, by decide +kernel⟩
abbrev N__law_spoiled : List Str := ["_law_stream", "_law_line_here", "_law_words", "_law_way", "_law_at", "_law_sign", "_law_spare"]
def aLSp : ASp := fun ds s Q _ => ∃ (S L : Addr) (n k : Nat) (z : Str), ds = [.ref S, .str z] ∧ s S = some (StrmB S L n) ∧ n ≤ 9990000 ∧ LI k z ∧ k ≤ 2 ∧ ∀ y m, LI (k + 1) y → m ≤ n + 4 → Q (.str y) (supd s S (StrmB S L m))
theorem a_lsp {f : Addr} {fd : FuncData} (F : Fun K "_law_spoiled" "_law_spoiled" s__law_spoiled f fd) (T : Bt mg) (O__law_draw : Own P w K mg base CX0 1 "_law_draw" ["_law_stream", "_law_many"] (conc K aDraw)) (O__law_pick : Own P w K mg base CX0 2 "_law_pick" ["_law_stream", "_law_things"] (conc K aPick)) : FnOk P w K mg base CX0 3 f fd ["_law_stream", "_law_line_here"] (conc K aLSp) := by
  refine a_ok F sc__law_spoiled (fun ds s Q E h => ?_) (fun cdv A outer s0 H0 E hr => ?_)
  · obtain ⟨S, L, n, k, z, rfl, _⟩ := h
    rfl
  · have hu := hu_of hr
    refine ⟨_, (pss_cons (ps_par (i := 2) (j := 3) (by rfl) sc__law_spoiled.nd rfl rfl (by decide) rfl rfl (pa_cons (pe_split (pv 1) pe_str) (pa_cons (own_call O__law_draw hr (by first | decide | omega) (pa_cons (pv 0) (pa_cons pe_int pa_nil))) pa_nil)) (by rfl))
      (pss_cons (ps_set (i := 4) sc__law_spoiled.nd rfl (Or.inl rfl) (own_call O__law_draw hr (by first | decide | omega) (pa_cons (pv 0) (pa_cons (pe_callB (len_seq K) (by rfl) T.m_len (by decide +kernel) (pa_cons (pv 2) pa_nil)) pa_nil))))
      (pss_cons (ps_if (pt_cmpR op_eq (pv 3) pe_int (nomark _)) (pss_one (ps_ret (pe_join pe_str (pe_op op_cat (pe_slice sl_list (pv 2) po_none (po_some (pv 4))) (pe_slice sl_list (pv 2) (po_some (pe_op op_add (pv 4) pe_int)) po_none))))) pss_nil)
      (pss_cons (ps_if (pt_cmpR op_eq (pv 3) pe_int (nomark _)) (pss_one (ps_ret (pe_join pe_str (pe_op op_cat (pe_slice sl_list (pv 2) po_none (po_some (pe_op op_add (pv 4) pe_int))) (pe_slice sl_list (pv 2) (po_some (pv 4)) po_none))))) pss_nil)
      (pss_cons (ps_if (pt_cmpR op_eq (pv 3) pe_int (nomark _)) (pss_one (ps_ret (pe_op op_add_str (pv 1) (own_call O__law_pick hr (by first | decide | omega) (pa_cons (pv 0) (pa_cons (pe_lst (pa_cons pe_str (pa_cons pe_str (pa_cons pe_str (pa_cons pe_str (pa_cons pe_str pa_nil)))))) pa_nil)))))) pss_nil)
      (pss_cons (ps_if (pt_cmpR op_eq (pv 3) pe_int (nomark _)) (pss_cons (ps_set (i := 5) sc__law_spoiled.nd rfl (Or.inl rfl) (own_call O__law_draw hr (by first | decide | omega) (pa_cons (pv 0) (pa_cons (pe_op op_add (pe_callB call_len_str (by rfl) T.m_len (by decide +kernel) (pa_cons (pv 1) pa_nil)) pe_int) pa_nil))))
      (pss_one (ps_ret (pe_op op_add_str (pe_op op_add_str (pe_slice sl_str (pv 1) po_none (po_some (pv 5))) (own_call O__law_pick hr (by first | decide | omega) (pa_cons (pv 0) (pa_cons (pe_lst (pa_cons pe_str (pa_cons pe_str (pa_cons pe_str (pa_cons pe_str (pa_cons pe_str (pa_cons pe_str (pa_cons pe_str (pa_cons pe_str pa_nil))))))))) pa_nil)))) (pe_slice sl_str (pv 1) (po_some (pv 5)) po_none))))) pss_nil)
      (pss_cons (ps_set (i := 6) sc__law_spoiled.nd rfl (Or.inl rfl) (pe_lst (pa_cons pe_str (pa_cons pe_str (pa_cons pe_str (pa_cons pe_str (pa_cons pe_str (pa_cons pe_str (pa_cons pe_str (pa_cons pe_str (pa_cons pe_str (pa_cons pe_str (pa_cons pe_str (pa_cons pe_str (pa_cons pe_str (pa_cons pe_str (pa_cons pe_str (pa_cons pe_str pa_nil))))))))))))))))))
      (pss_cons (ps_asg (own_call O__law_pick hr (by first | decide | omega) (pa_cons (pv 0) (pa_cons (pe_op op_cat (pe_op op_cat (pv 6) (pe_lst (pa_cons pe_str pa_nil))) (pv 2)) pa_nil))) (pg_sub (pv 2) (pv 4) set_list))
      (pss_one (ps_ret (pe_join pe_str (pv 2)))))))))))), ?_⟩
    rintro ds s Q E ⟨S, L, n, k, z, rfl, hS, hn, li, hk, q⟩
    try simp only [nox_K, cx_K]
    have zl : z.length ≤ 1364 := Nat.le_trans li.len (bnd_le (by omega))
    obtain ⟨p1, p2, p3, p4⟩ := li.parts
    refine g_seq (g_par ?_)
    refine g_cons (g_m1 mo_splitM ?_)
    walk_at "g"
    refine ⟨⟨_, rfl⟩, ?_⟩
    walk_at "g"
    refine ⟨by decide, Nat.le_trans (Nat.add_le_add_right zl 2) (by decide), fun p hp => ?_⟩
    have pS : p ≠ S := fun e => by rw [e, hS] at hp; cases hp
    walk_at "g"
    refine ⟨S, L, n, 7, rfl, (by rw [supd_ne pS.symm]; exact hS), by omega, by decide, by decide, fun r r0 r1 => ?_⟩
    walk_at "g"
    refine ⟨_, _, rfl, ?_⟩
    have hws : ∀ {m : Nat}, supd (supd s p (.raw (.lst ((Txt.split z " ").map Dat.str)))) S (StrmB S L m) p = some (.raw (.lst ((Txt.split z " ").map Dat.str))) := fun {m} => by rw [supd_ne pS]; exact supd_same
    walk_at "g"
    refine ⟨_, _, rfl, .inr (.inr (.inr ⟨p, rfl, hws⟩)), ?_⟩
    have l0 : 0 < (Txt.split z " ").length := List.length_pos_iff.mpr p4
    have lm : (Txt.split z " ").length ≤ 9 := by omega
    walk_at "g"
    rw [List.length_map]
    refine ⟨S, L, _, _, rfl, supd_same, by omega, by omega, small40 (by omega), fun at_ a0 a1 => ?_⟩
    obtain ⟨i, rfl⟩ := Int.eq_ofNat_of_zero_le a0
    have hi : i < (Txt.split z " ").length := by omega
    rw [supd_supd]
    walk_at "g"
    refine ⟨fun e => ?_, fun e => ?_⟩
    · refine g_ret (GE.gone ?_)
      walk_at "g"
      refine ⟨⟨_, rfl⟩, ?_⟩
      refine g_op ro_cat ?_
      walk_at "g"
      refine ⟨_, .inr ⟨p, rfl, hws⟩, ?_⟩
      walk_at "g"
      refine ⟨_, .inr ⟨p, rfl, hws⟩, ?_⟩
      rw [show ((i : Nat) : Int) + 1 = ((i + 1 : Nat) : Int) from rfl, cut_take, cut_drop, ← List.map_take, ← List.map_drop]
      have li2 := li.less i
      refine ⟨_, _, .inl rfl, .inl rfl, by rw [List.length_map, List.length_map, List.length_take, List.length_drop]; exact Nat.le_trans (show _ ≤ 20 by omega) (by decide), ?_⟩
      refine ⟨" ", (Txt.split z " ").take i ++ (Txt.split z " ").drop (i + 1), rfl, .inl (by rw [List.map_append]), ?_, _, gone1 hp pS, q _ _ li2 (by omega)⟩
      exact sum_bound p1 p2 zl (fun x hx => (List.mem_append.mp hx).elim (List.mem_of_mem_take ·) (List.mem_of_mem_drop ·)) (by rw [List.length_append, List.length_take, List.length_drop]; omega)
    · walk_at "g"
      refine ⟨fun e2 => ?_, fun e2 => ?_⟩
      · refine g_ret (GE.gone ?_)
        walk_at "g"
        refine ⟨⟨_, rfl⟩, ?_⟩
        refine g_op ro_cat ?_
        walk_at "g"
        refine ⟨_, .inr ⟨p, rfl, hws⟩, ?_⟩
        walk_at "g"
        refine ⟨_, .inr ⟨p, rfl, hws⟩, ?_⟩
        rw [show ((i : Nat) : Int) + 1 = ((i + 1 : Nat) : Int) from rfl, cut_take, cut_drop, ← List.map_take, ← List.map_drop]
        have li2 := li.more i
        refine ⟨_, _, .inl rfl, .inl rfl, by rw [List.length_map, List.length_map, List.length_take, List.length_drop]; exact Nat.le_trans (show _ ≤ 20 by omega) (by decide), ?_⟩
        refine ⟨" ", (Txt.split z " ").take (i + 1) ++ (Txt.split z " ").drop i, rfl, .inl (by rw [List.map_append]), ?_, _, gone1 hp pS, q _ _ li2 (by omega)⟩
        exact sum_bound p1 p2 zl (fun x hx => (List.mem_append.mp hx).elim (List.mem_of_mem_take ·) (List.mem_of_mem_drop ·)) (by rw [List.length_append, List.length_take, List.length_drop]; omega)
      · walk_at "g"
        refine ⟨fun e3 => ?_, fun e3 => ?_⟩
        · refine g_ret (GE.gone ?_)
          walk_at "g"
          refine g_lst ?_
          walk_at "g"
          refine ⟨by decide, ?_⟩
          walk_at "g"
          refine ⟨S, L, _, _, tails.map Dat.str, rfl, supd_same, by omega, .inl rfl, by decide, by decide, fun x hx => ?_⟩
          obtain ⟨w, hw, rfl⟩ := List.mem_map.mp hx
          have hwl : w.length ≤ 4 := by
            have h : ∀ y ∈ tails, y.length ≤ 4 := by decide +kernel
            exact h w hw
          rw [supd_supd]
          refine ⟨_, _, rfl, rfl, Nat.le_trans (Nat.add_le_add zl hwl) (by decide), _, gone1 hp pS, q _ _ (li_tail li hw) (by omega)⟩
        · walk_at "g"
          refine ⟨fun e4 => ?_, fun e4 => ?_⟩
          · walk_at "g"
            refine ⟨Nat.le_trans zl (by decide), ?_⟩
            walk_at "g"
            refine ⟨S, L, _, _, rfl, supd_same, by omega, by omega, small40 (by omega), fun sg s0 s1 => ?_⟩
            obtain ⟨j, rfl⟩ := Int.eq_ofNat_of_zero_le s0
            rw [supd_supd]
            refine g_ret (GE.gone ?_)
            walk_at "g"
            refine ⟨Nat.le_trans zl (by decide), ?_⟩
            walk_at "g"
            refine g_lst ?_
            walk_at "g"
            refine ⟨by decide, ?_⟩
            walk_at "g"
            refine ⟨S, L, _, _, putIns.map Dat.str, rfl, supd_same, by omega, .inl rfl, by decide, by decide, fun x hx => ?_⟩
            obtain ⟨w, hw, rfl⟩ := List.mem_map.mp hx
            obtain ⟨c, ec, hc⟩ := put_one hw
            have hwl : w.length = 1 := by rw [cs_len, ec]; rfl
            rw [supd_supd]
            have l1 : (cutS z none (some ((j : Nat) : Int))).length ≤ 1364 := by
              rw [cs_len, cs_cutS_take, List.length_take, ← cs_len]
              omega
            have l2 : (cutS z (some ((j : Nat) : Int)) none).length ≤ 1364 := by
              rw [cs_len, cs_cutS_drop, List.length_drop, ← cs_len]
              omega
            refine ⟨_, _, rfl, rfl, Nat.le_trans (show (cutS z none (some ((j : Nat) : Int))).length + w.length ≤ 1365 by omega) (by decide), ?_⟩
            walk_at "g"
            refine ⟨Nat.le_trans zl (by decide), ?_⟩
            have l3 : (cutS z none (some ((j : Nat) : Int)) ++ w).length + (cutS z (some ((j : Nat) : Int)) none).length ≤ 2729 := by rw [len_app]; omega
            refine ⟨_, _, rfl, rfl, Nat.le_trans l3 (by decide), ?_⟩
            refine ⟨_, gone1 hp pS, q _ (n + 1 + 1 + 1 + 1) (li.ins (x := c) (a := (cs z).take j) (b := (cs z).drop j) (by rw [List.take_append_drop]) ?_ hc) (by omega)⟩
            rw [cs_app, cs_app, cs_cutS_take, cs_cutS_drop, ec]
            simp
          · walk_at "g"
            refine g_lst ?_
            walk_at "g"
            refine ⟨by decide, ?_⟩
            walk_at "g"
            have lm17 : 17 + (Txt.split z " ").length ≤ 26 := by omega
            refine g_op ro_cat (g_op ro_cat ?_)
            walk_at "g"
            refine g_lst ?_
            walk_at "g"
            refine ⟨by decide, ?_⟩
            refine ⟨_, _, .inl rfl, .inl rfl, by decide, ?_⟩
            walk_at "g"
            refine ⟨_, _, .inl rfl, .inr ⟨p, rfl, hws⟩, by rw [List.length_map]; exact Nat.le_trans lm17 (by decide), ?_⟩
            walk_at "g"
            refine ⟨S, L, _, _, (spare ++ [("ninewords" : Str)] ++ Txt.split z " ").map Dat.str, rfl, supd_same, by omega, .inl (by rw [List.map_append]; rfl), by rw [List.length_map, List.length_append]; exact Nat.lt_of_lt_of_le (show 0 < 17 by decide) (Nat.le_add_right 17 _), by rw [List.length_map, List.length_append]; exact Nat.le_trans lm17 (by decide), fun x hx => ?_⟩
            obtain ⟨w, hw, rfl⟩ := List.mem_map.mp hx
            rw [supd_supd]
            walk_at "g"
            refine ⟨p, _, i, i, rfl, rfl, hws, (ixN_nat (by rw [List.length_map]; exact hi)), ?_⟩
            refine g_ret (GE.gone ?_)
            walk_at "g"
            refine ⟨⟨_, rfl⟩, ?_⟩
            walk_at "g"
            have li2 := li.other i (w := w) ((List.mem_append.mp hw).elim (fun h => .inl (spare_ok h)) .inr)
            have hz2 : ∀ x ∈ (Txt.split z " ").set i w, x.length ≤ 1373 := fun x hx => by
              rcases List.mem_or_eq_of_mem_set hx with hx | rfl
              · exact Nat.le_trans (PyProof.Rows.part_short hx) (by omega)
              · rcases List.mem_append.mp hw with h | h
                · have := (spare_ok h).2.2.2
                  omega
                · exact Nat.le_trans (PyProof.Rows.part_short h) (by omega)
            have hs3 := sum_le' hz2
            rw [List.length_set] at hs3
            refine ⟨" ", (Txt.split z " ").set i w, rfl, .inr (.inr (.inr ⟨p, rfl, by rw [supd_same, List.map_set]⟩)), ?_, supd s S (StrmB S L (n + 1 + 1 + 1)), gone2 hp pS, q _ _ li2 (by omega)⟩
            rw [List.length_set]
            show _ + _ * 1 ≤ _
            omega
end
end AL
namespace Ls
open PySem PySem.Spec PyProof.Rows L2
/-- classes apart, as one test -/
def exmB (K : PySem.W.Frag) (l : List Addr) : Bool := (l.all fun a => l.all fun b => decide (PySem.W.exmOne K (.ref a) (.ref b) = some (decide (a = b)))) && decide l.Nodup
theorem exmB_ok {K : PySem.W.Frag} {l : List Addr} (h : exmB K l = true) : (∀ a ∈ l, ∀ b ∈ l, PySem.W.exmOne K (.ref a) (.ref b) = some (decide (a = b))) ∧ l.Nodup := by
  unfold exmB at h
  obtain ⟨h1, h2⟩ := Bool.and_eq_true_iff.mp h
  exact ⟨fun a ha b hb => of_decide_eq_true (List.all_eq_true.mp (List.all_eq_true.mp h1 a ha) b hb), of_decide_eq_true h2⟩
theorem exm_self {K : PySem.W.Frag} {a : Addr} {l : List Addr} (h : exmB K l = true) (m : a ∈ l) : PySem.W.exmOne K (.ref a) (.ref a) = some true := by
  have := (exmB_ok h).1 a m a m
  rw [decide_eq_true rfl] at this
  exact this
end Ls
/-! Own work. The texts of lines, the first line that is wrong. -/
namespace AL
open PySem PySem.Spec PyProof.Rows L2 Ls
theorem split_nl {ls : List Str} (hn : ls ≠ []) (h : ∀ p ∈ ls, 10 ∉ cs p) : Txt.split (Txt.join "\n" ls) "\n" = ls := TL.split_join (s := 10) (S := []) (by decide +kernel) (by decide +kernel) hn h
theorem join_one (z : Str) : Txt.join "\n" [z] = z := by
  apply cs_inj
  rw [cs_join]
  rfl
theorem join_nil {ls : List Str} (hn : ls ≠ []) (h : ∀ p ∈ ls, 10 ∉ cs p) : Txt.join "\n" ls = "" ↔ ls = [("" : Str)] := by
  refine ⟨fun e => ?_, fun e => ?_⟩
  · have h1 := split_nl hn h
    have h2 := split_nl (ls := [("" : Str)]) (by simp) (fun p hp => by rw [List.mem_singleton.mp hp]; decide +kernel)
    rw [join_one] at h2
    rw [e, h2] at h1
    exact h1.symm
  · rw [e, join_one]
theorem joinL_len1 {x : Nat} : ∀ {ps : List (List Nat)}, ps ≠ [] → (TL.joinL [x] ps).length + 1 = (ps.map (·.length)).sum + ps.length
  | [], h => absurd rfl h
  | [p], _ => by simp [TL.joinL]
  | p :: q :: r, _ => by
    have ih := joinL_len1 (x := x) (ps := q :: r) (by simp)
    show (p ++ x :: TL.joinL [x] (q :: r)).length + 1 = _
    rw [List.length_append, List.length_cons, List.map_cons, List.sum_cons, List.length_cons]
    omega
theorem cs_nl : cs "\n" = [10] := by decide +kernel
theorem sum_leN {n : Nat} : ∀ {ws : List Str}, (∀ z ∈ ws, z.length ≤ n) → (ws.map (·.length)).sum ≤ n * ws.length
  | [], _ => Nat.zero_le _
  | z :: r, h => by
    have h1 := h z (.head _)
    have h2 := sum_leN (n := n) (ws := r) fun x hx => h x (.tail _ hx)
    rw [List.map_cons, List.sum_cons, List.length_cons, Nat.mul_succ]
    omega
theorem nl_len {ls : List Str} {n : Nat} (hn : ls ≠ []) (h : ∀ l ∈ ls, l.length ≤ n) : (Txt.join "\n" ls).length + 1 ≤ n * ls.length + ls.length := by
  have e : cs (Txt.join "\n" ls) = TL.joinL [10] (ls.map cs) := by rw [cs_join, cs_nl]
  have hn2 : ls.map cs ≠ [] := fun z => hn (List.map_eq_nil_iff.mp z)
  have a := joinL_len1 (x := 10) hn2
  have b := sum_leN h
  rw [← tot, List.length_map] at a
  rw [cs_len, e]
  omega
/-- what a list of lines gives that has a first wrong one, or none -/
theorem filter_first {c : Nat → Bool} {n i : Nat} {r : List Nat} (h : (List.range n).filter c = i :: r) : i < n ∧ c i = true ∧ ∀ j, j < i → c j = false := by
  have h1 : ((List.range n).filter c).head? = some i := by rw [h]; rfl
  rw [List.head?_filter, List.find?_range_eq_some] at h1
  obtain ⟨a, b, k⟩ := h1
  refine ⟨List.mem_range.mp b, a, fun j hj => ?_⟩
  have := k j hj
  revert this
  cases c j <;> simp
theorem filter_none {c : Nat → Bool} {n : Nat} (h : (List.range n).filter c = []) : ∀ j, j < n → c j = false := fun j hj => by
  have := List.filter_eq_nil_iff.mp h j (List.mem_range.mpr hj)
  revert this
  cases c j <;> simp
theorem dkD_pair {z : Str} {i : Int} (h1 : okB 1000 z = true) (h2 : i.natAbs < 10 ^ 60) : DkD 1 2002 (.tup [.str z, .int i]) := DkD.tup (k := 0) (m := 1000) (n := 2) (fun d hd => by
  simp only [List.mem_cons, List.not_mem_nil, or_false] at hd
  rcases hd with rfl | rfl
  · exact dkD_of (.str z) (DOk.str h1)
  · exact dkD_of (.int i) (DOk.int h2)) (Nat.le_refl 2)
end AL
namespace AL
open PySem PySem.Spec PyProof.Rows L2 Ls
/-! ### short steps over data -/
local macro_rules | `(tactic| walk_at "gsq") => `(tactic| first
  | exact .inl rfl | exact .inr (.inl rfl) | exact .inr (.inr (.inl rfl)) | exact .inr (.inr (.inr ⟨_, rfl, by assumption⟩)) | exact .inr ⟨_, rfl, by assumption⟩ | exact .inr rfl)
local macro_rules | `(tactic| walk_at "g1") => `(tactic| first
  | with_reducible refine g_seq ?_
  | with_reducible refine g_ret ?_
  | with_reducible refine g_set ?_
  | with_reducible refine g_if ?_
  | with_reducible refine g_retN ?_
  | with_reducible refine g_drop ?_
  | with_reducible refine g_next ?_
  | with_reducible refine g_par ?_
  | with_reducible refine g_sfld ?_
  | with_reducible refine g_dput ?_
  | with_reducible refine g_ddel ?_
  | with_reducible refine g_setI ?_
  | with_reducible refine g_forW ?_
  | with_reducible refine g_asg ?_
  | with_reducible refine g_var (by with_unfolding_all exact rfl) ?_
  | with_reducible refine g_int ?_
  | with_reducible refine g_str ?_
  | with_reducible refine g_bl ?_
  | with_reducible refine g_non ?_
  | with_reducible refine g_ty ?_
  | with_reducible refine g_test ?_
  | with_reducible refine g_tB ?_
  | with_reducible refine g_tnot ?_
  | with_reducible refine g_cons ?_
  | with_reducible refine g_nil ?_
  | with_reducible refine g_op ro_eq ?_
  | with_reducible refine g_op ro_ne ?_
  | with_reducible refine g_op ro_ixL ?_
  | with_reducible refine g_op ro_ixT ?_
  | with_reducible refine g_op ro_ixS ?_
  | with_reducible refine g_op ro_in ?_
  | with_reducible refine g_op ro_notIn ?_
  | with_reducible refine g_op ro_addS ?_
  | with_reducible refine g_op ro_add ?_
  | with_reducible refine g_op ro_sub ?_
  | with_reducible refine g_op ro_lt ?_
  | with_reducible refine g_op ro_le ?_
  | with_reducible refine g_op ro_gt ?_
  | with_reducible refine g_op ro_ge ?_
  | with_reducible refine g_op ro_isN ?_
  | with_reducible refine g_op ro_notN ?_
  | with_reducible refine g_op ro_inSign ?_
  | with_reducible refine g_op ro_notInSign ?_
  | with_reducible refine g_op ro_leS ?_
  | with_reducible refine g_op ro_ltS ?_
  | with_reducible refine g_op ro_catA ?_
  | with_reducible refine g_op ro_catT ?_
  | with_reducible refine g_op ro_mul ?_
  | with_reducible refine g_op ro_pow ?_
  | with_reducible refine g_op ro_mod ?_
  | with_reducible refine g_op ro_div ?_
  | with_reducible refine g_un uo_neg ?_
  | with_reducible refine g_chain ro_le ro_le ?_
  | with_reducible refine g_chain ro_le ro_lt ?_
  | with_reducible refine g_cb co_len ?_
  | with_reducible refine g_cb co_lenS ?_
  | with_reducible refine g_cb co_lenD ?_
  | with_reducible refine g_cb co_isi ?_
  | with_reducible refine g_cb co_isiT ?_
  | with_reducible refine g_cb co_all ?_
  | with_reducible refine g_cb co_any ?_
  | with_reducible refine g_cb co_int1 ?_
  | with_reducible refine g_cb co_intS ?_
  | with_reducible refine g_cb co_strI ?_
  | with_reducible refine g_cb co_strS ?_
  | with_reducible refine g_cb co_tuple ?_
  | with_reducible refine g_cb co_strU ?_
  | with_reducible refine g_cb co_lenSetK ?_
  | with_reducible refine g_cb co_repr ?_
  | with_reducible refine g_op ro_ixU ?_
  | with_reducible refine g_op ro_eqE ?_
  | with_reducible refine g_op ro_neE ?_
  | with_reducible refine g_op ro_eqSm ?_
  | with_reducible refine g_op ro_neSm ?_
  | with_reducible refine g_op ro_eqSs ?_
  | with_reducible refine g_wseq ?_
  | with_reducible refine g_scW ?_
  | with_reducible refine g_kget ?_
  | with_reducible refine g_m0 mo_isdigit ?_
  | with_reducible refine g_m0 mo_isascii ?_
  | with_reducible refine g_star ?_
  | with_reducible refine g_cb co_sortedS ?_
  | with_reducible refine g_cb co_sortedI ?_
  | with_reducible refine g_fld ?_
  | with_reducible refine g_xf ?_
  | with_reducible refine g_tup ?_
  | with_reducible refine g_dget ?_
  | with_reducible refine g_din ?_
  | with_reducible refine g_dnotin ?_
  | with_reducible refine g_dget1 ?_
  | with_reducible refine g_dget2 ?_
  | with_reducible refine g_call ?_
  | with_reducible refine g_callS ?_
  | with_reducible refine g_meth ?_
  | with_reducible refine g_methR ?_
  | with_reducible refine g_m1 mo_split ?_
  | with_reducible refine g_m1 mo_join ?_
  | with_reducible refine g_bm mo_append ?_
  | with_reducible refine g_bm mo_extend ?_
  | with_reducible refine g_bm mo_popAt ?_
  | with_reducible refine g_bm0 mo_pop ?_
  | with_reducible refine g_sl so_list ?_
  | with_reducible refine g_sl so_str ?_
  | with_reducible refine g_sl so_tupA ?_
  | with_reducible refine g_sl so_tup ?_
  | with_reducible refine g_noPart ?_
  | with_reducible refine g_part ?_
  | with_reducible refine g_lcW ?_
  | with_reducible refine g_wlist ?_
  | with_reducible refine g_wtup ?_
  | with_reducible refine g_wstr ?_
  | with_reducible refine g_wenum ?_
  | with_reducible refine g_wrange1 ?_
  | with_reducible refine g_wrange2 ?_
  | with_reducible refine g_join ?_
  | with_reducible refine g_jcons ?_
  | with_reducible refine g_jnil ?_
  | with_reducible refine g_fmt ?_
  | with_reducible refine g_lenSet ?_
  | with_reducible refine g_raise1 ?_
  | with_reducible refine g_raise2 ?_
  | with_reducible refine g_raise0 ?_
  | with_reducible refine g_yes ?_
  | with_reducible refine g_gcons ?_
  | with_reducible refine g_gnil ?_
  | with_reducible refine g_name (by first | trivial | decide) ?_
  | with_reducible refine ⟨_, rfl, ?_⟩
  | with_reducible refine ⟨_, _, rfl, rfl, ?_⟩)
local macro_rules | `(tactic| walk_at "g") => `(tactic| repeat (walk_at "g1"))

local macro_rules | `(tactic| walk_at "ss") => `(tactic| (funext zz; simp only [supd, sdel]; (repeat' split) <;> first | rfl | (subst_vars; first | rfl | contradiction | (simp_all; done)) | (simp_all; done)))
local macro_rules | `(tactic| walk_at "sp") => `(tactic| first
  | with_reducible assumption
  | exact supd_same
  | exact sdel_same
  | exact Eq.trans (supd_ne (by walk_at "ls_ne")) (by walk_at "sp")
  | exact Eq.trans (sdel_ne (by walk_at "ls_ne")) (by walk_at "sp"))
local macro_rules | `(tactic| walk_at "ls_ne") => `(tactic| first | assumption | exact Ne.symm (by assumption) | exact sne (by assumption) (by assumption) | exact Ne.symm (sne (by assumption) (by assumption)))

section
variable {P : Program} {w : World} {K : PySem.W.Frag} {mg : Str → Option Value} {base : Heap}
/-! ### _law_same -/
abbrev s__law_same : Stmt := topS 27
theorem sc__law_same : FnScope ["_law_found", "_law_due"] ["_law_found", "_law_due"] (defScope s__law_same) := ⟨rfl, rfl, rfl, by decide +kernel, rfl, by decide +kernel, by decide +kernel⟩
abbrev N__law_same : List Str := ["_law_found", "_law_due"]
theorem a_same {f : Addr} {fd : FuncData} (F : Fun K "_law_same" "_law_same" s__law_same f fd) (T : Bt mg) : FnG P w K mg base CX0 1 f fd ["_law_found", "_law_due"] (conc K aSame) := by
  refine a_okG F sc__law_same (fun ds s Q E h => ?_) (fun cdv A outer s0 H0 E hgd hr => ?_)
  · obtain ⟨d, k, m, rfl, _⟩ := h
    rfl
  · have hu := hu_of hr
    refine ⟨_, (pss_one (ps_ret (pe_cmpR op_eq (pe_callB (call_repr_E hgd hr) (by rfl) T.m_repr (by decide +kernel) (pa_cons (pv 0) pa_nil)) (pe_callB (call_repr_E hgd hr) (by rfl) T.m_repr (by decide +kernel) (pa_cons (pv 1) pa_nil)) (nomark _)))), ?_⟩
    rintro ds s Q E ⟨d, k, m, rfl, hr, ⟨p, h1, h2⟩, hk, hm, q⟩
    try simp only [nox_K, cx_K]
    obtain ⟨f1, f2, f3⟩ := h2.fits hk hm
    walk_at "g"
    refine ⟨d, p, rfl, hr, h1, f1, f2, f3, ?_⟩
    walk_at "g"
    refine ⟨d, p, rfl, hr, h1, f1, f2, f3, ?_⟩
    refine ⟨_, rfl, ?_⟩
    rw [decide_eq_true rfl]
    exact q
/-! ### _law_read -/
abbrev s__law_read : Stmt := topS 38
theorem sc__law_read : FnScope ["_law_text", "_law_found", "e"] ["_law_text"] (defScope s__law_read) := ⟨rfl, rfl, rfl, by decide +kernel, rfl, by decide +kernel, by decide +kernel⟩
abbrev N__law_read : List Str := ["_law_text", "_law_found", "e"]
def aLRead : ASp := fun ds s Q _ => ∃ (z : Str) (ls : List Str), ds = [.str z] ∧ z.length ≤ 1000000 ∧ ls = Txt.split z "\n" ∧ ls.length ≤ 1000000 ∧ (∀ l ∈ ls, LnOk l) ∧ (z = "" → Q (.tup [.str "read", .int 0]) s) ∧
  (z ≠ "" → (∀ l ∈ ls, lnB l = true) → Q (.tup [.str "read", .int (ls.length : Nat)]) s) ∧
  (z ≠ "" → ∀ (i : Nat) l, ls[i]? = some l → lnB l = false → (∀ j l', j < i → ls[j]? = some l' → lnB l' = true) → Q (.tup [.str "bad", .int (i : Nat)]) s)
theorem a_lread {C_BadLine : Addr} {f : Addr} {fd : FuncData} (F : Fun K "_law_read" "_law_read" s__law_read f fd) (T : Bt mg) (xE : exmB K [C_BadLine] = true) (O_BadLine : OwnX P w K mg base "BadLine" ["index"] (spI1 C_BadLine "index") C_BadLine) (O_read_weaving : OwnR P w K mg base 6 "read_weaving" ["text"] (conc K (aRead C_BadLine))) : FnOk P w K mg base CX0 7 f fd ["_law_text"] (conc K aLRead) := by
  refine a_ok F sc__law_read (fun ds s Q E h => ?_) (fun cdv A outer s0 H0 E hr => ?_)
  · obtain ⟨z, ls, rfl, _⟩ := h
    rfl
  · have hu := hu_of hr
    refine ⟨_, (pss_cons (ps_try_asA rfl rfl sc__law_read.nd L2.takes0 (fun W pn xe tk po => (pss_one (ps_set (i := 1) sc__law_read.nd rfl (Or.inl rfl) (pe_tup (pa_cons pe_str (pa_cons (pe_callB (len_seq K) (by rfl) T.m_len (by decide +kernel) (pa_cons (own_callR O_read_weaving hr (by first | decide | omega) tk (pa_cons (pv 0) pa_nil)) pa_nil)) pa_nil))))))
        (asOk_cons (c := .ref C_BadLine) (i := 2) rfl rfl ⟨rfl, by decide, .inl O_BadLine.gl⟩ (fun a oe cls d pn hz hf => (pss_one (ps_set (i := 1) sc__law_read.nd rfl (Or.inl rfl) (pe_tup (pa_cons pe_str (pa_cons (pe_xf O_BadLine.xf (O_BadLine.nof _ (.head _)) hz hf (pv 2)) pa_nil))))))
        .nil))
      (pss_one (ps_ret (pv 1)))), ?_⟩
    rintro ds s Q E ⟨z, ls, rfl, hz, el, hl', hw, q0, q1, q2⟩
    try simp only [nox_K, cx_K]
    refine g_seq (g_try0 (AxH := fun cls fs γ' s' => ∃ i : Nat, cls = .ref C_BadLine ∧ fs = [(("index" : Str), Dat.int (i : Nat))] ∧ γ' = gst N__law_read [.str z] ∧ s' = s ∧ Q (.tup [.str "bad", .int (i : Nat)]) s) (fun W => ?_) fun cls fs γ' s' ⟨i, e1, e2, e3, e4, q⟩ => ?_)
    · walk_at "g"
      by_cases e0 : z = ""
      · refine ⟨z, ls, rfl, hz, el, hl', hw, fun _ => ?_, fun h => absurd e0 h, fun h => absurd e0 h⟩
        refine g_nil ?_
        walk_at "g"
        refine ⟨_, [], rfl, .inl rfl, ?_⟩
        walk_at "g"
        refine ⟨by decide, ?_⟩
        walk_at "g"
        exact q0 e0
      · cases ef : (List.range ls.length).filter fun i => !lnB (ls.getD i "") with
        | nil =>
          have ok : ∀ l ∈ ls, lnB l = true := fun l hm => by
            obtain ⟨i, hi⟩ := List.getElem?_of_mem hm
            have hl := (List.getElem?_eq_some_iff.mp hi).1
            have := filter_none ef i hl
            rw [List.getD_eq_getElem?_getD, hi] at this
            simpa using this
          refine ⟨z, ls, rfl, hz, el, hl', hw, fun h => absurd h e0, fun _ _ => ?_, fun _ i l hi hb => ?_⟩
          · refine g_nil ?_
            walk_at "g"
            refine ⟨_, _, rfl, .inl rfl, ?_⟩
            walk_at "g"
            refine ⟨(show 2 ≤ sizeLine by decide), ?_⟩
            walk_at "g"
            rw [List.length_map]
            exact q1 e0 ok
          · rw [ok l (List.mem_of_getElem? hi)] at hb
            cases hb
        | cons i r =>
          obtain ⟨hi, hc, hb⟩ := filter_first ef
          have hl : ls[i]? = some (ls.getD i "") := by
            rw [List.getD_eq_getElem?_getD, List.getElem?_eq_getElem hi]
            rfl
          have hc2 : lnB (ls.getD i "") = false := by simpa using hc
          have hb2 : ∀ j l', j < i → ls[j]? = some l' → lnB l' = true := fun j l' hj h => by
            have := hb j hj
            rw [List.getD_eq_getElem?_getD, h] at this
            simpa using this
          refine ⟨z, ls, rfl, hz, el, hl', hw, fun h => absurd h e0, fun _ ha => ?_, fun _ i2 l h1 h2 h3 => ?_⟩
          · rw [ha _ (List.mem_of_getElem? hl)] at hc2
            cases hc2
          · exact ⟨i2, rfl, rfl, rfl, rfl, q2 e0 i2 l h1 h2 h3⟩
    · subst e1 e2 e3 e4
      refine ⟨true, exm_self xE (.head _), fun _ a d => ?_, fun z => nomatch z⟩
      walk_at "g"
      refine ⟨_, _, rfl, rfl, rfl, ?_⟩
      walk_at "g"
      refine ⟨(show 2 ≤ sizeLine by decide), ?_⟩
      refine g_ret (g_var rfl ?_)
      exact q
end
end AL
/-! Own work. Data: several ways that meet. -/
namespace AL
open PySem PySem.Spec PyProof.Rows L2 Ls
/-- all ways through ts end as I tells -/
theorem GS.nxI {e : Ec} {ts : TS} {γ : Ga} {s : AS} {D : AD} (I : Ga → AS → Prop) (h : GS e ts γ s { D with nx := I }) (k : ∀ γ' s', I γ' s' → D.nx γ' s') : GS e ts γ s D := fun F Hf H σ R S X Dc LL =>
  h F Hf H σ R S X Dc ⟨fun σ γ Hf' H' s' m R' S q => LL.1 σ γ Hf' H' s' m R' S (k _ _ q), LL.2, LL.3, LL.4⟩
end AL
namespace AL
open PySem PySem.Spec PyProof.Rows L2 Ls
/-! ### short steps over data -/
local macro_rules | `(tactic| walk_at "gsq") => `(tactic| first
  | exact .inl rfl | exact .inr (.inl rfl) | exact .inr (.inr (.inl rfl)) | exact .inr (.inr (.inr ⟨_, rfl, by assumption⟩)) | exact .inr ⟨_, rfl, by assumption⟩ | exact .inr rfl)
local macro_rules | `(tactic| walk_at "g1") => `(tactic| first
  | with_reducible refine g_seq ?_
  | with_reducible refine g_ret ?_
  | with_reducible refine g_set ?_
  | with_reducible refine g_if ?_
  | with_reducible refine g_retN ?_
  | with_reducible refine g_drop ?_
  | with_reducible refine g_next ?_
  | with_reducible refine g_par ?_
  | with_reducible refine g_sfld ?_
  | with_reducible refine g_dput ?_
  | with_reducible refine g_ddel ?_
  | with_reducible refine g_setI ?_
  | with_reducible refine g_forW ?_
  | with_reducible refine g_asg ?_
  | with_reducible refine g_var (by with_unfolding_all exact rfl) ?_
  | with_reducible refine g_int ?_
  | with_reducible refine g_str ?_
  | with_reducible refine g_bl ?_
  | with_reducible refine g_non ?_
  | with_reducible refine g_ty ?_
  | with_reducible refine g_test ?_
  | with_reducible refine g_tB ?_
  | with_reducible refine g_tnot ?_
  | with_reducible refine g_cons ?_
  | with_reducible refine g_nil ?_
  | with_reducible refine g_op ro_eq ?_
  | with_reducible refine g_op ro_ne ?_
  | with_reducible refine g_op ro_ixL ?_
  | with_reducible refine g_op ro_ixT ?_
  | with_reducible refine g_op ro_ixS ?_
  | with_reducible refine g_op ro_in ?_
  | with_reducible refine g_op ro_notIn ?_
  | with_reducible refine g_op ro_addS ?_
  | with_reducible refine g_op ro_add ?_
  | with_reducible refine g_op ro_sub ?_
  | with_reducible refine g_op ro_lt ?_
  | with_reducible refine g_op ro_le ?_
  | with_reducible refine g_op ro_gt ?_
  | with_reducible refine g_op ro_ge ?_
  | with_reducible refine g_op ro_isN ?_
  | with_reducible refine g_op ro_notN ?_
  | with_reducible refine g_op ro_inSign ?_
  | with_reducible refine g_op ro_notInSign ?_
  | with_reducible refine g_op ro_leS ?_
  | with_reducible refine g_op ro_ltS ?_
  | with_reducible refine g_op ro_catA ?_
  | with_reducible refine g_op ro_catT ?_
  | with_reducible refine g_op ro_mul ?_
  | with_reducible refine g_op ro_pow ?_
  | with_reducible refine g_op ro_mod ?_
  | with_reducible refine g_op ro_div ?_
  | with_reducible refine g_un uo_neg ?_
  | with_reducible refine g_chain ro_le ro_le ?_
  | with_reducible refine g_chain ro_le ro_lt ?_
  | with_reducible refine g_cb co_len ?_
  | with_reducible refine g_cb co_lenS ?_
  | with_reducible refine g_cb co_lenD ?_
  | with_reducible refine g_cb co_isi ?_
  | with_reducible refine g_cb co_isiT ?_
  | with_reducible refine g_cb co_all ?_
  | with_reducible refine g_cb co_any ?_
  | with_reducible refine g_cb co_int1 ?_
  | with_reducible refine g_cb co_intS ?_
  | with_reducible refine g_cb co_strI ?_
  | with_reducible refine g_cb co_strS ?_
  | with_reducible refine g_cb co_tuple ?_
  | with_reducible refine g_cb co_strU ?_
  | with_reducible refine g_cb co_lenSetK ?_
  | with_reducible refine g_cb co_repr ?_
  | with_reducible refine g_op ro_ixU ?_
  | with_reducible refine g_op ro_eqE ?_
  | with_reducible refine g_op ro_neE ?_
  | with_reducible refine g_op ro_eqSm ?_
  | with_reducible refine g_op ro_neSm ?_
  | with_reducible refine g_op ro_eqSs ?_
  | with_reducible refine g_wseq ?_
  | with_reducible refine g_scW ?_
  | with_reducible refine g_kget ?_
  | with_reducible refine g_m0 mo_isdigit ?_
  | with_reducible refine g_m0 mo_isascii ?_
  | with_reducible refine g_star ?_
  | with_reducible refine g_cb co_sortedS ?_
  | with_reducible refine g_cb co_sortedI ?_
  | with_reducible refine g_fld ?_
  | with_reducible refine g_xf ?_
  | with_reducible refine g_tup ?_
  | with_reducible refine g_dget ?_
  | with_reducible refine g_din ?_
  | with_reducible refine g_dnotin ?_
  | with_reducible refine g_dget1 ?_
  | with_reducible refine g_dget2 ?_
  | with_reducible refine g_call ?_
  | with_reducible refine g_callS ?_
  | with_reducible refine g_meth ?_
  | with_reducible refine g_methR ?_
  | with_reducible refine g_m1 mo_split ?_
  | with_reducible refine g_m1 mo_join ?_
  | with_reducible refine g_bm mo_append ?_
  | with_reducible refine g_bm mo_extend ?_
  | with_reducible refine g_bm mo_popAt ?_
  | with_reducible refine g_bm0 mo_pop ?_
  | with_reducible refine g_sl so_list ?_
  | with_reducible refine g_sl so_str ?_
  | with_reducible refine g_sl so_tupA ?_
  | with_reducible refine g_sl so_tup ?_
  | with_reducible refine g_noPart ?_
  | with_reducible refine g_part ?_
  | with_reducible refine g_lcW ?_
  | with_reducible refine g_wlist ?_
  | with_reducible refine g_wtup ?_
  | with_reducible refine g_wstr ?_
  | with_reducible refine g_wenum ?_
  | with_reducible refine g_wrange1 ?_
  | with_reducible refine g_wrange2 ?_
  | with_reducible refine g_join ?_
  | with_reducible refine g_jcons ?_
  | with_reducible refine g_jnil ?_
  | with_reducible refine g_fmt ?_
  | with_reducible refine g_lenSet ?_
  | with_reducible refine g_raise1 ?_
  | with_reducible refine g_raise2 ?_
  | with_reducible refine g_raise0 ?_
  | with_reducible refine g_yes ?_
  | with_reducible refine g_gcons ?_
  | with_reducible refine g_gnil ?_
  | with_reducible refine g_name (by first | trivial | decide) ?_
  | with_reducible refine ⟨_, rfl, ?_⟩
  | with_reducible refine ⟨_, _, rfl, rfl, ?_⟩)
local macro_rules | `(tactic| walk_at "g") => `(tactic| repeat (walk_at "g1"))

local macro_rules | `(tactic| walk_at "ss") => `(tactic| (funext zz; simp only [supd, sdel]; (repeat' split) <;> first | rfl | (subst_vars; first | rfl | contradiction | (simp_all; done)) | (simp_all; done)))
local macro_rules | `(tactic| walk_at "sp") => `(tactic| first
  | with_reducible assumption
  | exact supd_same
  | exact sdel_same
  | exact Eq.trans (supd_ne (by walk_at "ls_ne")) (by walk_at "sp")
  | exact Eq.trans (sdel_ne (by walk_at "ls_ne")) (by walk_at "sp"))
local macro_rules | `(tactic| walk_at "ls_ne") => `(tactic| first | assumption | exact Ne.symm (by assumption) | exact sne (by assumption) (by assumption) | exact Ne.symm (sne (by assumption) (by assumption)))

theorem li_lnok {k : Nat} {z : Str} (h : LI k z) (hk : k ≤ 3) : LnOk z := ⟨fun c hc => (h.chr c hc).2, runB_mono (by omega) (Nat.le_refl _) h.run, Nat.le_trans h.len (Nat.le_trans (bnd_mono hk) (by decide))⟩
theorem li_empty : LI 3 "" := ⟨fun c h => (by cases h), by decide +kernel, by decide, by decide +kernel⟩
theorem li_many {k : Nat} {z : Str} (h : LI k z) (hk : k ≤ 3) : (Txt.split z " ").length ≤ 50 := by
  obtain ⟨_, _, p3, _⟩ := h.parts
  omega
theorem li_strOk {k : Nat} {z : Str} (h : LI k z) : PyData.strOk z = true := okB_strOk (okB_of h.len fun c hc => by have := (h.chr c hc).2; omega)
/-- what reading lines is to give -/
def dueD (ls : List Str) : Dat := if ls = [("" : Str)] then .tup [.str "read", .int 0] else match (List.range ls.length).filter fun i => !lnB (ls.getD i "") with
  | [] => .tup [.str "read", .int (ls.length : Nat)]
  | i :: _ => .tup [.str "bad", .int (i : Nat)]
theorem dueD_ok (ls : List Str) (h : ls.length ≤ 5) : ∃ z i, dueD ls = .tup [.str z, .int i] ∧ okB 1000 z = true ∧ i.natAbs < 10 ^ 60 := by
  unfold dueD
  split
  · exact ⟨_, _, rfl, by decide +kernel, by decide +kernel⟩
  · cases e : (List.range ls.length).filter fun i => !lnB (ls.getD i "") with
    | nil => exact ⟨_, _, rfl, by decide +kernel, Nat.lt_of_le_of_lt (show ((ls.length : Nat) : Int).natAbs ≤ 5 by omega) (by decide +kernel)⟩
    | cons i r =>
      have := (filter_first e).1
      exact ⟨_, _, rfl, by decide +kernel, Nat.lt_of_le_of_lt (show ((i : Nat) : Int).natAbs ≤ 5 by omega) (by decide +kernel)⟩
theorem read_want {ls : List Str} (hn : ls ≠ []) (hl : ∀ l ∈ ls, LI 3 l) (hz : ls.length ≤ 5) {Q : Dat → AS → Prop} {E : Value → List (Str × Dat) → AS → Prop} {s : AS} (q : Q (dueD ls) s) : aLRead [.str (Txt.join "\n" ls)] s Q E := by
  have h10 : ∀ p ∈ ls, 10 ∉ cs p := fun p hp m => ((hl p hp).chr 10 m).1 rfl
  have hs := split_nl hn h10
  have len := nl_len (n := 1364) hn fun l h => Nat.le_trans (hl l h).len (bnd_mono (Nat.le_refl 3))
  refine ⟨_, ls, rfl, Nat.le_trans (show _ ≤ 7000 by omega) (by decide), hs.symm, Nat.le_trans hz (by decide), fun l h => li_lnok (hl l h) (Nat.le_refl _), fun e => ?_, fun e ha => ?_, fun e i l h1 h2 h3 => ?_⟩
  · have := (join_nil hn h10).mp e
    unfold dueD at q
    rw [if_pos this] at q
    exact q
  · have e2 : ¬ ls = [("" : Str)] := fun z => e ((join_nil hn h10).mpr z)
    have e3 : (List.range ls.length).filter (fun i => !lnB (ls.getD i "")) = [] := by
      refine List.filter_eq_nil_iff.mpr fun i hi => ?_
      have hi := List.mem_range.mp hi
      rw [List.getD_eq_getElem?_getD, List.getElem?_eq_getElem hi]
      have := ha _ (List.getElem_mem hi)
      simpa using this
    unfold dueD at q
    rw [if_neg e2, e3] at q
    exact q
  · have e2 : ¬ ls = [("" : Str)] := fun z => e ((join_nil hn h10).mpr z)
    have hi := (List.getElem?_eq_some_iff.mp h1).1
    unfold dueD at q
    rw [if_neg e2] at q
    cases e3 : (List.range ls.length).filter fun i => !lnB (ls.getD i "") with
    | nil =>
      have := filter_none e3 i hi
      rw [List.getD_eq_getElem?_getD, h1] at this
      simp [h2] at this
    | cons j r =>
      rw [e3] at q
      obtain ⟨k1, k2, k3⟩ := filter_first e3
      have : i = j := by
        rcases Nat.lt_trichotomy i j with h | h | h
        · have := k3 i h
          rw [List.getD_eq_getElem?_getD, h1] at this
          simp [h2] at this
        · exact h
        · have := h3 j _ h (List.getElem?_eq_getElem k1)
          rw [List.getD_eq_getElem?_getD, List.getElem?_eq_getElem k1] at k2
          simp [this] at k2
      subst this
      exact q
section
variable {P : Program} {w : World} {K : PySem.W.Frag} {mg : Str → Option Value} {base : Heap}
/-! ### law -/
abbrev s_law : Stmt := topS 39
theorem sc_law : FnScope ["_law_script", "_law_stream", "_law_turn", "_law_k", "_law_lines", "_law_at", "_law_some", "_law_wrong", "_law_due", "_law_index", "_law_line_here"] ["_law_script"] (defScope s_law) := ⟨rfl, rfl, rfl, by decide +kernel, rfl, by decide +kernel, by decide +kernel⟩
abbrev N_law : List Str := ["_law_script", "_law_stream", "_law_turn", "_law_k", "_law_lines", "_law_at", "_law_some", "_law_wrong", "_law_due", "_law_index", "_law_line_here"]
theorem a_law {f : Addr} {fd : FuncData} (F : Fun K "law" "law" s_law f fd) (T : Bt mg) (T2 : BtA mg) (O__law_draw : Own P w K mg base CX0 1 "_law_draw" ["_law_stream", "_law_many"] (conc K aDraw)) (O__law_any : Own P w K mg base CX0 4 "_law_any" ["_law_stream"] (conc K aLAny)) (O__law_line : Own P w K mg base CX0 1 "_law_line" ["_law_deed"] (conc K aLLn))
    (O__law_spoiled : Own P w K mg base CX0 3 "_law_spoiled" ["_law_stream", "_law_line_here"] (conc K aLSp)) (O__law_is_line : Own P w K mg base CX0 3 "_law_is_line" ["_law_line_here"] (conc K aLLine)) (O__law_read : Own P w K mg base CX0 7 "_law_read" ["_law_text"] (conc K aLRead)) (O__law_same : OwnG P w K mg base CX0 1 "_law_same" ["_law_found", "_law_due"] (conc K aSame)) :
    FnG P w K mg base CX0 8 f fd ["_law_script"] (conc K (aLaw K)) := by
  refine a_okG F sc_law (fun ds s Q E h => ?_) (fun cdv A outer s0 H0 E hgd hr => ?_)
  · obtain ⟨ns, _, rfl, _⟩ := h
    rfl
  · have hu := hu_of hr
    refine ⟨_, (pss_cons (ps_set (i := 1) sc_law.nd rfl (Or.inr rfl) (pe_lst (pa_cons (pe_callTy (list_of K) (by rfl) T.m_list (by decide +kernel) (pa_cons (pv 0) pa_nil)) (pa_cons pe_int (pa_cons pe_int (pa_cons pe_int pa_nil))))))
      (pss_cons (ps_for PassesOwn.never rfl (pi_range1 rfl T.m_range (pa_cons pe_int pa_nil)) (pg_name (i := 2) sc_law.nd rfl (Or.inl rfl)) (pss_cons (ps_setLc (i := 4) (own := [("_law_k", 3)]) (g := gName 3) (by rfl) sc_law.nd rfl rfl (sw_true rfl rfl rfl (by decide +kernel)) (pi_range1 rfl T.m_range (pa_cons (pe_op op_add pe_int (own_call O__law_draw hr (by first | decide | omega) (pa_cons (pv 1) (pa_cons pe_int pa_nil)))) pa_nil)) (blkOk_by (own := [("_law_k", 3)]) (N := N_law) (sc := defScope s_law) (by decide +kernel)) (fun _ _ _ _ _ => (pg_name (i := 3) sc_law.nd rfl (Or.inl rfl) (Or.inr rfl))) (fun _ _ _ _ _ => pts_nil) (fun _ _ _ _ _ => (own_call O__law_line hr (by first | decide | omega) (pa_cons (own_call O__law_any hr (by first | decide | omega) (pa_cons (pv 1) pa_nil)) pa_nil))))
      (pss_cons (ps_for PassesOwn.never rfl (pi_range1 rfl T.m_range (pa_cons (own_call O__law_draw hr (by first | decide | omega) (pa_cons (pv 1) (pa_cons pe_int pa_nil))) pa_nil)) (pg_name (i := 3) sc_law.nd rfl (Or.inl rfl)) (pss_cons (ps_set (i := 5) sc_law.nd rfl (Or.inl rfl) (own_call O__law_draw hr (by first | decide | omega) (pa_cons (pv 1) (pa_cons (pe_callB (len_seq K) (by rfl) T.m_len (by decide +kernel) (pa_cons (pv 4) pa_nil)) pa_nil))))
      (pss_one (ps_asg (own_call O__law_spoiled hr (by first | decide | omega) (pa_cons (pv 1) (pa_cons (pe_ix (ixL K) (pv 4) (pv 5) (fun _ _ => rfl)) pa_nil))) (pg_sub (pv 4) (pv 5) set_list)))))
      (pss_one (ps_for PassesOwn.never rfl (pi_list (pe_lst (pa_cons (pv 4) (pa_cons (pe_op op_cat (pv 4) (pe_lst (pa_cons pe_str pa_nil))) (pa_cons (pe_op op_cat (pe_lst (pa_cons pe_str pa_nil)) (pv 4)) pa_nil))))) (pg_name (i := 6) sc_law.nd rfl (Or.inl rfl)) (pss_cons (ps_setLc (i := 7) (own := [("_law_index", 9), ("_law_line_here", 10)]) (g := gTup K 2 (gCons (gName 9) (gCons (gName 10) gNil))) (by rfl) sc_law.nd rfl rfl (sw_true rfl rfl rfl (by decide +kernel)) (pi_enum (by rfl) T2.m_enumerate (pa_cons (pv 6) pa_nil)) (blkOk_by (own := [("_law_index", 9), ("_law_line_here", 10)]) (N := N_law) (sc := defScope s_law) (by decide +kernel)) (fun _ _ _ _ _ => (pg_tup rfl (pgs_cons (pg_name (i := 9) sc_law.nd rfl (Or.inl rfl) (Or.inr rfl)) (pgs_cons (pg_name (i := 10) sc_law.nd rfl (Or.inl rfl) (Or.inr rfl)) pgs_nil)))) (fun _ _ _ _ _ => (pts_one (pt_not (pt_val (own_call O__law_is_line hr (by first | decide | omega) (pa_cons (pv 10) pa_nil)))))) (fun _ _ _ _ _ => (pv 9)))
      (pss_cons (ps_set (i := 8) sc_law.nd rfl (Or.inl rfl) (pe_ifExp (pt_cmpR (eqE K hr) (pv 7) (pe_lst pa_nil) (nomark _)) (pe_tup (pa_cons pe_str (pa_cons (pe_callB (len_seq K) (by rfl) T.m_len (by decide +kernel) (pa_cons (pv 6) pa_nil)) pa_nil))) (pe_tup (pa_cons pe_str (pa_cons (pe_ix (ixL K) (pv 7) pe_int (fun _ _ => rfl)) pa_nil)))))
      (pss_cons (ps_if (pt_cmpR (eqD K hr) (pv 6) (pe_lst (pa_cons pe_str pa_nil)) (nomark _)) (pss_one (ps_set (i := 8) sc_law.nd rfl (Or.inl rfl) (pe_tup (pa_cons pe_str (pa_cons pe_int pa_nil))))) pss_nil)
      (pss_one (ps_if (pt_not (pt_val (own_callG O__law_same hgd hr (by first | decide | omega) (pa_cons (own_call O__law_read hr (by first | decide | omega) (pa_cons (pe_join pe_str (pv 6)) pa_nil)) (pa_cons (pv 8) pa_nil))))) (pss_one (ps_ret pe_bl)) pss_nil))))))))))
      (pss_one (ps_ret pe_bl)))), ?_⟩
    rintro ds s Q E ⟨ns, hns, rfl, rfl, q⟩
    try simp only [nox_K, cx_K]
    refine g_seq (g_set (g_lstM (g_cons (g_cb co_listO ?_))))
    walk_at "g"
    refine fun L hL => ?_
    refine g_cons ?_
    walk_at "g"
    refine ⟨(show 4 ≤ sizeLine by decide), fun S hS => ?_⟩
    have SL : S ≠ L := fun e => by rw [e, supd_same] at hS; cases hS
    refine GS.strmBox (S := S) (L := L) (n := 0) (ns := ns) supd_same (by rw [supd_ne SL.symm]; exact supd_same) SL (by decide) ?_
    refine g_seq (g_forW ?_)
    walk_at "g"
    refine ⟨by decide, by decide, ?_⟩
    refine ForW.mk (List.range 8) (fun i : Nat => .int (0 + (i : Nat))) (by rw [rng_map]; rfl) (fun i γ' s' => ∃ (n : Nat) (a b c d e f g h k : Option Dat), γ' = [some (scrD K ns), some (.ref S), a, b, c, d, e, f, g, h, k] ∧ s' S = some (StrmB S L n) ∧ n ≤ 600 * i) ?_ (fun _ _ _ _ _ => trivial) ?_ ?_
    · exact ⟨0, none, none, none, none, none, none, none, none, none, rfl, supd_same, by decide⟩
    · rintro i x γ' s' hx ⟨n, a, b, c, d, e, f, g, h, k, rfl, hS, hn⟩
      obtain ⟨hi, rfl⟩ := rng_at hx
      refine g_name (by first | trivial | decide) ?_
      refine g_seq (g_asg (g_lcM ?_))
      walk_at "g"
      refine ⟨S, L, n, 4, rfl, hS, by omega, by decide, by decide, fun r r0 r1 => ?_⟩
      obtain ⟨m, rfl⟩ := Int.eq_ofNat_of_zero_le r0
      refine ⟨1, ((m : Nat) : Int), rfl, rfl, ?_⟩
      walk_at "g"
      refine ⟨by omega, by omega, ?_⟩
      refine LcM.mk (List.range (1 + m)) (fun i : Nat => .int (0 + (i : Nat))) (by rw [rng_map]; congr) (fun i acc s' => ∃ (ls : List Str) (n' : Nat), acc = ls.map Dat.str ∧ ls.length = i ∧ (∀ l ∈ ls, LI 0 l) ∧ s' S = some (StrmB S L n') ∧ n' ≤ n + 1 + 100 * i) (Nat.lt_of_le_of_lt (show (List.range (1 + m)).length ≤ 4 by rw [List.length_range]; omega) (by decide)) ⟨[], n + 1, rfl, rfl, (fun _ h => nomatch h), supd_same, by omega⟩ (fun _ _ _ _ _ => trivial) ?_ ?_
      · rintro i y acc s2 hy ⟨ls, n', rfl, hl, hok, hS2, hn'⟩
        have hi := (rng_at hy).1
        walk_at "g"
        refine ⟨fun _ => ?_, fun z => nomatch z⟩
        walk_at "g"
        refine ⟨S, L, n', rfl, hS2, by omega, fun dd m' hd hm => ?_⟩
        walk_at "g"
        refine ⟨dd, rfl, hd, fun z hz => ?_⟩
        exact ⟨ls ++ [z], m', by rw [List.map_append]; rfl, by rw [List.length_append, hl]; rfl, all_snoc hok hz, supd_same, by omega⟩
      · rintro acc s2 ⟨ls, n', rfl, hl, hok, hS2, hn'⟩ p hp
        rw [List.length_range] at hl
        have pS : p ≠ S := fun e => by rw [e, hS2] at hp; cases hp
        refine g_name (by first | trivial | decide) ?_
        refine g_seq (g_forW ?_)
        walk_at "g"
        rw [List.length_range] at hn'
        refine ⟨S, L, n', 4, rfl, by rw [supd_ne pS.symm]; exact hS2, by omega, by decide, by decide, fun r r0 r1 => ?_⟩
        obtain ⟨k2, rfl⟩ := Int.eq_ofNat_of_zero_le r0
        walk_at "g"
        refine ⟨by omega, by omega, ?_⟩
        refine ForW.mk (List.range k2) (fun i : Nat => .int (0 + (i : Nat))) (by rw [rng_map]; congr) (fun i γ' s' => ∃ (ls : List Str) (n2 : Nat) (a2 b2 : Option Dat), γ' = [some (scrD K ns), some (.ref S), some (.int (0 + (x : Nat))), a2, some (.ref p), b2, e, f, g, h, k] ∧ s' p = some (.raw (.lst (ls.map Dat.str))) ∧ s' S = some (StrmB S L n2) ∧ ls.length = 1 + m ∧ (∀ l ∈ ls, LI i l) ∧ n2 ≤ n' + 1 + 5 * i) ?_ (fun _ _ _ _ _ => trivial) ?_ ?_
        · exact ⟨ls, n' + 1, _, _, rfl, by rw [supd_ne pS]; exact supd_same, supd_same, hl, hok, by omega⟩
        · rintro i y γ' s3 hy ⟨ls, n2, a2, b2, rfl, h3p, h3S, hl, hok, hn2⟩
          have hi := (rng_at hy).1
          walk_at "g"
          refine ⟨_, _, rfl, .inr (.inr (.inr ⟨p, rfl, h3p⟩)), ?_⟩
          walk_at "g"
          rw [List.length_map]
          refine ⟨S, L, n2, _, rfl, h3S, by omega, by omega, small40 (by omega), fun at_ a0 a1 => ?_⟩
          obtain ⟨j, rfl⟩ := Int.eq_ofNat_of_zero_le a0
          have hj : j < ls.length := by omega
          walk_at "g"
          refine ⟨_, ((j : Nat) : Int), .str ls[j], .inr ⟨p, rfl, by rw [supd_ne pS]; exact h3p⟩, rfl, atI_nat (by rw [List.getElem?_map, List.getElem?_eq_getElem hj]; rfl), ?_⟩
          walk_at "g"
          refine ⟨S, L, _, i, _, rfl, supd_same, by omega, hok _ (List.getElem_mem hj), by omega, fun z m' hz hm' => ?_⟩
          rw [supd_supd]
          walk_at "g"
          refine ⟨p, _, _, j, rfl, rfl, (by rw [supd_ne pS]; exact h3p), ixN_nat (by rw [List.length_map]; exact hj), ?_⟩
          refine ⟨ls.set j z, m', _, _, rfl, by rw [supd_same, List.map_set], by rw [supd_ne pS.symm]; exact supd_same, by rw [List.length_set]; exact hl, fun l hl' => ?_, by omega⟩
          rcases List.mem_or_eq_of_mem_set hl' with h' | rfl
          · exact (hok l h').up (by omega)
          · exact hz
        · rintro γ' s3 ⟨ls, n2, a2, b2, rfl, h3p, h3S, hl, hok, hn2⟩
          refine GS.freeze (i := 4) h3p rfl ?_
          have h4S : sdel s3 p S = some (StrmB S L n2) := by rw [sdel_ne pS.symm]; exact h3S
          have hne : ls ≠ [] := fun z => by
            rw [z] at hl
            have hl : 0 = 1 + m := hl
            omega
          walk_at "g"
          refine g_lst ?_
          walk_at "g"
          refine g_op ro_cat ?_
          walk_at "g"
          refine g_lst ?_
          walk_at "g"
          refine ⟨(show 1 ≤ sizeLine by decide), ?_⟩
          refine ⟨_, _, .inl rfl, .inl rfl, (by rw [List.length_map]; exact Nat.le_trans (show ls.length + 1 ≤ 5 by omega) (by decide)), ?_⟩
          walk_at "g"
          refine g_op ro_cat ?_
          refine g_lst ?_
          walk_at "g"
          refine ⟨(show 1 ≤ sizeLine by decide), ?_⟩
          walk_at "g"
          refine ⟨_, _, .inl rfl, .inl rfl, (by rw [List.length_map]; exact Nat.le_trans (show 1 + ls.length ≤ 5 by omega) (by decide)), ?_⟩
          walk_at "g"
          refine ⟨(show 3 ≤ sizeLine by decide), _, .inl ⟨rfl, ?_⟩⟩
          refine ForW.mk [ls, ls ++ [("" : Str)], [("" : Str)] ++ ls] (fun l => .lst (l.map Dat.str)) (by simp) (fun i γ' s' => ∃ (c2 d2 e2 f2 g2 : Option Dat), γ' = [some (scrD K ns), some (.ref S), some (.int (0 + (x : Nat))), a2, some (.lst (ls.map Dat.str)), b2, c2, d2, e2, f2, g2] ∧ s' S = some (StrmB S L n2)) ?_ (fun _ _ _ _ _ => trivial) ?_ ?_
          · exact ⟨_, _, _, _, _, rfl, h4S⟩
          · rintro i zs γ' s5 hz ⟨c2, d2, e2, f2, g2, rfl, h5S⟩
            have hk : ls ≠ [] ∧ ls.length ≤ 4 ∧ ∀ l ∈ ls, LI 3 l := ⟨hne, by omega, fun l h => (hok l h).up (by rw [List.length_range]; omega)⟩
            obtain ⟨z1, z2, z3⟩ : zs ≠ [] ∧ zs.length ≤ 5 ∧ ∀ l ∈ zs, LI 3 l := by
              have hm := List.mem_of_getElem? hz
              simp only [List.mem_cons, List.not_mem_nil, or_false] at hm
              rcases hm with rfl | rfl | rfl
              · exact ⟨hk.1, by omega, hk.2.2⟩
              · refine ⟨by simp, by rw [List.length_append]; show _ + 1 ≤ 5; omega, all_snoc hk.2.2 li_empty⟩
              · refine ⟨by simp, by show ls.length + 1 ≤ 5; omega, fun l h => ?_⟩
                rcases List.mem_cons.mp h with rfl | h
                · exact li_empty
                · exact hk.2.2 l h
            refine g_name (by first | trivial | decide) ?_
            walk_at "g"
            refine ⟨_, _, rfl, .inl ⟨rfl, ?_⟩⟩
            refine LcW.pure (List.range zs.length) (fun i => .tup [.int (i : Nat), .str (zs.getD i "")]) (fun i => !lnB (zs.getD i "")) (fun i => .int (i : Nat)) (enum_strs zs) (Nat.lt_of_le_of_lt (show (List.range zs.length).length ≤ 5 by rw [List.length_range]; exact z2) (by decide)) trivial (fun i hi => ?_) ?_
            · have hi := List.mem_range.mp hi
              have hm : zs.getD i "" ∈ zs := by
                rw [List.getD_eq_getElem?_getD, List.getElem?_eq_getElem hi]
                exact List.getElem_mem hi
              refine g_gtup (.inl rfl) rfl ?_
              walk_at "g"
              exact ⟨_, rfl, li_lnok (z3 _ hm) (Nat.le_refl _), li_many (z3 _ hm) (Nat.le_refl _), _, rfl, rfl, rfl, fun _ => g_var rfl ⟨rfl, rfl⟩⟩
            · refine g_seq (g_set (GE.imp (Q := fun d s' => (zs ≠ [("" : Str)] → d = dueD zs) ∧ s' = s5) ?_ fun d s' ⟨e1, e2⟩ => ?_))
              · refine g_ifE ?_
                walk_at "g"
                refine g_lst ?_
                refine g_nil ⟨by decide, ?_⟩
                refine ⟨_, .inl rfl, rfl, _, rfl, fun e => ?_, fun e => ?_⟩
                · have ew : ((List.range zs.length).filter fun i => !lnB (zs.getD i "")) = [] := List.map_eq_nil_iff.mp (List.isEmpty_iff.mp e)
                  walk_at "g"
                  refine ⟨_, _, rfl, .inl rfl, ?_⟩
                  walk_at "g"
                  refine ⟨(show 2 ≤ sizeLine by decide), fun hz1 => ?_, rfl⟩
                  unfold dueD
                  rw [if_neg hz1, ew, List.length_map]
                · cases ew : (List.range zs.length).filter fun i => !lnB (zs.getD i "") with
                  | nil =>
                    rw [ew] at e
                    cases e
                  | cons i r =>
                    walk_at "g"
                    refine ⟨_, 0, .int (i : Nat), .inl rfl, rfl, atI_nat (j := 0) rfl, ?_⟩
                    walk_at "g"
                    refine ⟨(show 2 ≤ sizeLine by decide), fun hz1 => ?_, rfl⟩
                    unfold dueD
                    rw [if_neg hz1, ew]
              · subst e2
                refine g_seq (GS.nxI (fun γ' s' => ∃ c3 e3 f3 : Option Dat, γ' = [some (scrD K ns), some (.ref S), some (.int (0 + (x : Nat))), a2, some (.lst (ls.map Dat.str)), b2, some (.lst (zs.map Dat.str)), c3, some (dueD zs), e3, f3] ∧ s' S = some (StrmB S L n2)) ?_ ?_)
                · walk_at "g"
                  refine g_lst ?_
                  walk_at "g"
                  refine ⟨by decide, ?_⟩
                  refine ⟨zs, [("" : Str)], .inl rfl, .inl rfl, (fun z h => li_strOk (z3 z h)), (fun z h => by rw [List.mem_singleton.mp h]; decide +kernel), ?_⟩
                  refine ⟨_, rfl, fun e => ?_, fun e => ?_⟩
                  · have e9 : dueD zs = .tup [.str "read", .int 0] := by
                      unfold dueD
                      rw [if_pos (of_decide_eq_true e)]
                    walk_at "g"
                    rw [e9]
                    exact ⟨(show 2 ≤ sizeLine by decide), _, _, _, rfl, h5S⟩
                  · have e9 := e1 (of_decide_eq_false e)
                    subst e9
                    walk_at "g"
                    exact ⟨_, _, _, rfl, h5S⟩
                · rintro γ' s' ⟨c3, e3, f3, rfl, h6S⟩
                  obtain ⟨zz, ii, eD, o1, o2⟩ := dueD_ok zs z2
                  walk_at "g"
                  refine ⟨⟨_, rfl⟩, ?_⟩
                  walk_at "g"
                  refine ⟨"\n", zs, rfl, .inl rfl, ?_, ?_⟩
                  · have := sum_leN (n := 1364) fun l h => Nat.le_trans (z3 l h).len (bnd_mono (Nat.le_refl 3))
                    show _ + _ * 1 ≤ _
                    omega
                  · walk_at "g"
                    refine read_want z1 z3 z2 ?_
                    walk_at "g"
                    refine ⟨_, 1, 2002, rfl, (by rw [eD]; rfl), (by rw [eD]; exact dkD_pair o1 o2), by decide, by decide, ?_⟩
                    refine ⟨_, rfl, (fun e => nomatch e), fun _ => ?_⟩
                    walk_at "g"
                    exact ⟨_, _, _, _, _, rfl, h6S⟩
          · rintro γ' s5 ⟨c2, d2, e2, f2, g2, rfl, h5S⟩
            rw [List.length_range] at hn2
            refine ⟨n2, _, _, _, _, _, _, _, _, _, rfl, h5S, by omega⟩
    · rintro γ' s' ⟨n, a, b, c, d, e, f, g, h, k, rfl, hS, hn⟩
      walk_at "g"
      exact q _
end
end AL
namespace Ls
open PySem PySem.Spec PyProof.Rows L2 NdefX
/-! ### the texts of the own errors -/
abbrev s_BadLine_init : Stmt := inClass (topS 2) 0
theorem tx_BadLine : ErrTx s_BadLine_init "BadLine.__init__" [("index" : Str)] where
  nsc := nscope_by (by decide +kernel)
  hsup := rfl
  par := ⟨_, rfl, rfl⟩
  body := ⟨_, _, _, _, _, _, _, _, _, rfl, ⟨⟨⟨_, _, _, _, rfl⟩, by decide, by decide⟩, trivial⟩, fun f cc cda L => ⟨_, rfl⟩⟩
  bind := fun cc cda doc pm ct us hl => match us, hl with | [_, _], _ => rfl
end Ls
namespace Ls
open PySem PySem.Spec PyProof.Rows L2 NdefX AL
/-! ### what the top has written -/
set_option maxHeartbeats 16000000 in
theorem all_mk {l : PySem.W.OpenLaw} {w : World} {K : PySem.W.Frag} {h : Heap} {mg : Str → Option Value} {fa : Addr} (X : K.In h) (G : h.Ns mainGlobals mg) (hfa : mg "law" = some (.ref fa))
    {f0 : Addr} {oc0 kV0 dc0 pm0 cd0 ct0 : Value} {od0 an0 : Option Addr} {sl0 : Array (Option Value)}
    {f1 : Addr} {oc1 kV1 dc1 pm1 cd1 ct1 : Value} {od1 an1 : Option Addr} {sl1 : Array (Option Value)}
    {f2 : Addr} {oc2 kV2 dc2 pm2 cd2 ct2 : Value} {od2 an2 : Option Addr} {sl2 : Array (Option Value)}
    {f3 : Addr} {oc3 kV3 dc3 pm3 cd3 ct3 : Value} {od3 an3 : Option Addr} {sl3 : Array (Option Value)}
    {f4 : Addr} {oc4 kV4 dc4 pm4 cd4 ct4 : Value} {od4 an4 : Option Addr} {sl4 : Array (Option Value)}
    {f5 : Addr} {oc5 kV5 dc5 pm5 cd5 ct5 : Value} {od5 an5 : Option Addr} {sl5 : Array (Option Value)}
    {f6 : Addr} {oc6 kV6 dc6 pm6 cd6 ct6 : Value} {od6 an6 : Option Addr} {sl6 : Array (Option Value)}
    {f7 : Addr} {oc7 kV7 dc7 pm7 cd7 ct7 : Value} {od7 an7 : Option Addr} {sl7 : Array (Option Value)}
    {f8 : Addr} {oc8 kV8 dc8 pm8 cd8 ct8 : Value} {od8 an8 : Option Addr} {sl8 : Array (Option Value)}
    {f9 : Addr} {oc9 kV9 dc9 pm9 cd9 ct9 : Value} {od9 an9 : Option Addr} {sl9 : Array (Option Value)}
    {f10 : Addr} {oc10 kV10 dc10 pm10 cd10 ct10 : Value} {od10 an10 : Option Addr} {sl10 : Array (Option Value)}
    {f11 : Addr} {oc11 kV11 dc11 pm11 cd11 ct11 : Value} {od11 an11 : Option Addr} {sl11 : Array (Option Value)}
    {f12 : Addr} {oc12 kV12 dc12 pm12 cd12 ct12 : Value} {od12 an12 : Option Addr} {sl12 : Array (Option Value)}
    {f13 : Addr} {oc13 kV13 dc13 pm13 cd13 ct13 : Value} {od13 an13 : Option Addr} {sl13 : Array (Option Value)}
    {f14 : Addr} {oc14 kV14 dc14 pm14 cd14 ct14 : Value} {od14 an14 : Option Addr} {sl14 : Array (Option Value)}
    {f15 : Addr} {oc15 kV15 dc15 pm15 cd15 ct15 : Value} {od15 an15 : Option Addr} {sl15 : Array (Option Value)}
    {f16 : Addr} {oc16 kV16 dc16 pm16 cd16 ct16 : Value} {od16 an16 : Option Addr} {sl16 : Array (Option Value)}
    {f17 : Addr} {oc17 kV17 dc17 pm17 cd17 ct17 : Value} {od17 an17 : Option Addr} {sl17 : Array (Option Value)}
    {f18 : Addr} {oc18 kV18 dc18 pm18 cd18 ct18 : Value} {od18 an18 : Option Addr} {sl18 : Array (Option Value)}
    {f19 : Addr} {oc19 kV19 dc19 pm19 cd19 ct19 : Value} {od19 an19 : Option Addr} {sl19 : Array (Option Value)}
    {f20 : Addr} {oc20 kV20 dc20 pm20 cd20 ct20 : Value} {od20 an20 : Option Addr} {sl20 : Array (Option Value)}
    {f21 : Addr} {oc21 kV21 dc21 pm21 cd21 ct21 : Value} {od21 an21 : Option Addr} {sl21 : Array (Option Value)}
    {f22 : Addr} {oc22 kV22 dc22 pm22 cd22 ct22 : Value} {od22 an22 : Option Addr} {sl22 : Array (Option Value)}
    {f23 : Addr} {oc23 kV23 dc23 pm23 cd23 ct23 : Value} {od23 an23 : Option Addr} {sl23 : Array (Option Value)}
    {f24 : Addr} {oc24 kV24 dc24 pm24 cd24 ct24 : Value} {od24 an24 : Option Addr} {sl24 : Array (Option Value)}
    {f25 : Addr} {oc25 kV25 dc25 pm25 cd25 ct25 : Value} {od25 an25 : Option Addr} {sl25 : Array (Option Value)}
    {f26 : Addr} {oc26 kV26 dc26 pm26 cd26 ct26 : Value} {od26 an26 : Option Addr} {sl26 : Array (Option Value)}
    {C_BadLine fIBadLine ccBadLine cdaBadLine : Addr} {ocBadLine dcBadLine pmBadLine ctBadLine : Value} {odBadLine : Option Addr} {slBadLine : Array (Option Value)}
    {tk_STRIKE : Tok}
    {tk_LETTERS : Tok}
    {tk_LONGEST_NAME : Tok}
    {ad_LENGTHS : Addr}
    {ad_PIECE_WORDS : Addr}
    {tk_NOTHING : Tok}
    (a0 : PySem.W.nsIn K mainGlobals "_law_draw" = some (some (.ref f0)))
    (l0 : K.lookup f0 = some ⟨oc0, od0, .func (PySem.W.fnOf "_law_draw" "_law_draw" (defArgs s__law_draw) (defBody s__law_draw) (defScope s__law_draw) .none kV0 dc0 pm0 an0 cd0 ct0), sl0⟩)
    (c0 : PySem.W.codeIn K cd0 "_law_draw" = true)
    (k0 : PySem.W.keepIn K (.ref f0) = true)
    (a1 : PySem.W.nsIn K mainGlobals "_law_pick" = some (some (.ref f1)))
    (l1 : K.lookup f1 = some ⟨oc1, od1, .func (PySem.W.fnOf "_law_pick" "_law_pick" (defArgs s__law_pick) (defBody s__law_pick) (defScope s__law_pick) .none kV1 dc1 pm1 an1 cd1 ct1), sl1⟩)
    (c1 : PySem.W.codeIn K cd1 "_law_pick" = true)
    (k1 : PySem.W.keepIn K (.ref f1) = true)
    (a2 : PySem.W.nsIn K mainGlobals "_law_same" = some (some (.ref f2)))
    (l2 : K.lookup f2 = some ⟨oc2, od2, .func (PySem.W.fnOf "_law_same" "_law_same" (defArgs s__law_same) (defBody s__law_same) (defScope s__law_same) .none kV2 dc2 pm2 an2 cd2 ct2), sl2⟩)
    (c2 : PySem.W.codeIn K cd2 "_law_same" = true)
    (k2 : PySem.W.keepIn K (.ref f2) = true)
    (a3 : PySem.W.nsIn K mainGlobals "_law_fresh" = some (some (.ref f3)))
    (l3 : K.lookup f3 = some ⟨oc3, od3, .func (PySem.W.fnOf "_law_fresh" "_law_fresh" (defArgs s__law_fresh) (defBody s__law_fresh) (defScope s__law_fresh) .none kV3 dc3 pm3 an3 cd3 ct3), sl3⟩)
    (c3 : PySem.W.codeIn K cd3 "_law_fresh" = true)
    (k3 : PySem.W.keepIn K (.ref f3) = true)
    (a4 : PySem.W.nsIn K mainGlobals "_law_names" = some (some (.ref f4)))
    (l4 : K.lookup f4 = some ⟨oc4, od4, .func (PySem.W.fnOf "_law_names" "_law_names" (defArgs s__law_names) (defBody s__law_names) (defScope s__law_names) .none kV4 dc4 pm4 an4 cd4 ct4), sl4⟩)
    (c4 : PySem.W.codeIn K cd4 "_law_names" = true)
    (k4 : PySem.W.keepIn K (.ref f4) = true)
    (a5 : PySem.W.nsIn K mainGlobals "_law_line" = some (some (.ref f5)))
    (l5 : K.lookup f5 = some ⟨oc5, od5, .func (PySem.W.fnOf "_law_line" "_law_line" (defArgs s__law_line) (defBody s__law_line) (defScope s__law_line) .none kV5 dc5 pm5 an5 cd5 ct5), sl5⟩)
    (c5 : PySem.W.codeIn K cd5 "_law_line" = true)
    (k5 : PySem.W.keepIn K (.ref f5) = true)
    (a6 : PySem.W.nsIn K mainGlobals "_law_number" = some (some (.ref f6)))
    (l6 : K.lookup f6 = some ⟨oc6, od6, .func (PySem.W.fnOf "_law_number" "_law_number" (defArgs s__law_number) (defBody s__law_number) (defScope s__law_number) .none kV6 dc6 pm6 an6 cd6 ct6), sl6⟩)
    (c6 : PySem.W.codeIn K cd6 "_law_number" = true)
    (k6 : PySem.W.keepIn K (.ref f6) = true)
    (a7 : PySem.W.nsIn K mainGlobals "_law_any" = some (some (.ref f7)))
    (l7 : K.lookup f7 = some ⟨oc7, od7, .func (PySem.W.fnOf "_law_any" "_law_any" (defArgs s__law_any) (defBody s__law_any) (defScope s__law_any) .none kV7 dc7 pm7 an7 cd7 ct7), sl7⟩)
    (c7 : PySem.W.codeIn K cd7 "_law_any" = true)
    (k7 : PySem.W.keepIn K (.ref f7) = true)
    (a8 : PySem.W.nsIn K mainGlobals "_law_is_name" = some (some (.ref f8)))
    (l8 : K.lookup f8 = some ⟨oc8, od8, .func (PySem.W.fnOf "_law_is_name" "_law_is_name" (defArgs s__law_is_name) (defBody s__law_is_name) (defScope s__law_is_name) .none kV8 dc8 pm8 an8 cd8 ct8), sl8⟩)
    (c8 : PySem.W.codeIn K cd8 "_law_is_name" = true)
    (k8 : PySem.W.keepIn K (.ref f8) = true)
    (a9 : PySem.W.nsIn K mainGlobals "_law_is_number" = some (some (.ref f9)))
    (l9 : K.lookup f9 = some ⟨oc9, od9, .func (PySem.W.fnOf "_law_is_number" "_law_is_number" (defArgs s__law_is_number) (defBody s__law_is_number) (defScope s__law_is_number) .none kV9 dc9 pm9 an9 cd9 ct9), sl9⟩)
    (c9 : PySem.W.codeIn K cd9 "_law_is_number" = true)
    (k9 : PySem.W.keepIn K (.ref f9) = true)
    (a10 : PySem.W.nsIn K mainGlobals "_law_are_owners" = some (some (.ref f10)))
    (l10 : K.lookup f10 = some ⟨oc10, od10, .func (PySem.W.fnOf "_law_are_owners" "_law_are_owners" (defArgs s__law_are_owners) (defBody s__law_are_owners) (defScope s__law_are_owners) .none kV10 dc10 pm10 an10 cd10 ct10), sl10⟩)
    (c10 : PySem.W.codeIn K cd10 "_law_are_owners" = true)
    (k10 : PySem.W.keepIn K (.ref f10) = true)
    (a11 : PySem.W.nsIn K mainGlobals "_law_is_line" = some (some (.ref f11)))
    (l11 : K.lookup f11 = some ⟨oc11, od11, .func (PySem.W.fnOf "_law_is_line" "_law_is_line" (defArgs s__law_is_line) (defBody s__law_is_line) (defScope s__law_is_line) .none kV11 dc11 pm11 an11 cd11 ct11), sl11⟩)
    (c11 : PySem.W.codeIn K cd11 "_law_is_line" = true)
    (k11 : PySem.W.keepIn K (.ref f11) = true)
    (a12 : PySem.W.nsIn K mainGlobals "_law_spoiled" = some (some (.ref f12)))
    (l12 : K.lookup f12 = some ⟨oc12, od12, .func (PySem.W.fnOf "_law_spoiled" "_law_spoiled" (defArgs s__law_spoiled) (defBody s__law_spoiled) (defScope s__law_spoiled) .none kV12 dc12 pm12 an12 cd12 ct12), sl12⟩)
    (c12 : PySem.W.codeIn K cd12 "_law_spoiled" = true)
    (k12 : PySem.W.keepIn K (.ref f12) = true)
    (a13 : PySem.W.nsIn K mainGlobals "_law_read" = some (some (.ref f13)))
    (l13 : K.lookup f13 = some ⟨oc13, od13, .func (PySem.W.fnOf "_law_read" "_law_read" (defArgs s__law_read) (defBody s__law_read) (defScope s__law_read) .none kV13 dc13 pm13 an13 cd13 ct13), sl13⟩)
    (c13 : PySem.W.codeIn K cd13 "_law_read" = true)
    (k13 : PySem.W.keepIn K (.ref f13) = true)
    (a14 : PySem.W.nsIn K mainGlobals "law" = some (some (.ref f14)))
    (l14 : K.lookup f14 = some ⟨oc14, od14, .func (PySem.W.fnOf "law" "law" (defArgs s_law) (defBody s_law) (defScope s_law) .none kV14 dc14 pm14 an14 cd14 ct14), sl14⟩)
    (c14 : PySem.W.codeIn K cd14 "law" = true)
    (k14 : PySem.W.keepIn K (.ref f14) = true)
    (a15 : PySem.W.nsIn K mainGlobals "is_name" = some (some (.ref f15)))
    (l15 : K.lookup f15 = some ⟨oc15, od15, .func (PySem.W.fnOf "is_name" "is_name" (defArgs s_is_name) (defBody s_is_name) (defScope s_is_name) .none kV15 dc15 pm15 an15 cd15 ct15), sl15⟩)
    (c15 : PySem.W.codeIn K cd15 "is_name" = true)
    (k15 : PySem.W.keepIn K (.ref f15) = true)
    (a16 : PySem.W.nsIn K mainGlobals "is_number" = some (some (.ref f16)))
    (l16 : K.lookup f16 = some ⟨oc16, od16, .func (PySem.W.fnOf "is_number" "is_number" (defArgs s_is_number) (defBody s_is_number) (defScope s_is_number) .none kV16 dc16 pm16 an16 cd16 ct16), sl16⟩)
    (c16 : PySem.W.codeIn K cd16 "is_number" = true)
    (k16 : PySem.W.keepIn K (.ref f16) = true)
    (a17 : PySem.W.nsIn K mainGlobals "is_row" = some (some (.ref f17)))
    (l17 : K.lookup f17 = some ⟨oc17, od17, .func (PySem.W.fnOf "is_row" "is_row" (defArgs s_is_row) (defBody s_is_row) (defScope s_is_row) .none kV17 dc17 pm17 an17 cd17 ct17), sl17⟩)
    (c17 : PySem.W.codeIn K cd17 "is_row" = true)
    (k17 : PySem.W.keepIn K (.ref f17) = true)
    (a18 : PySem.W.nsIn K mainGlobals "is_list_of_owners" = some (some (.ref f18)))
    (l18 : K.lookup f18 = some ⟨oc18, od18, .func (PySem.W.fnOf "is_list_of_owners" "is_list_of_owners" (defArgs s_is_list_of_owners) (defBody s_is_list_of_owners) (defScope s_is_list_of_owners) .none kV18 dc18 pm18 an18 cd18 ct18), sl18⟩)
    (c18 : PySem.W.codeIn K cd18 "is_list_of_owners" = true)
    (k18 : PySem.W.keepIn K (.ref f18) = true)
    (a19 : PySem.W.nsIn K mainGlobals "is_owner_pair" = some (some (.ref f19)))
    (l19 : K.lookup f19 = some ⟨oc19, od19, .func (PySem.W.fnOf "is_owner_pair" "is_owner_pair" (defArgs s_is_owner_pair) (defBody s_is_owner_pair) (defScope s_is_owner_pair) .none kV19 dc19 pm19 an19 cd19 ct19), sl19⟩)
    (c19 : PySem.W.codeIn K cd19 "is_owner_pair" = true)
    (k19 : PySem.W.keepIn K (.ref f19) = true)
    (a20 : PySem.W.nsIn K mainGlobals "is_deed" = some (some (.ref f20)))
    (l20 : K.lookup f20 = some ⟨oc20, od20, .func (PySem.W.fnOf "is_deed" "is_deed" (defArgs s_is_deed) (defBody s_is_deed) (defScope s_is_deed) .none kV20 dc20 pm20 an20 cd20 ct20), sl20⟩)
    (c20 : PySem.W.codeIn K cd20 "is_deed" = true)
    (k20 : PySem.W.keepIn K (.ref f20) = true)
    (a21 : PySem.W.nsIn K mainGlobals "read_weaving" = some (some (.ref f21)))
    (l21 : K.lookup f21 = some ⟨oc21, od21, .func (PySem.W.fnOf "read_weaving" "read_weaving" (defArgs s_read_weaving) (defBody s_read_weaving) (defScope s_read_weaving) .none kV21 dc21 pm21 an21 cd21 ct21), sl21⟩)
    (c21 : PySem.W.codeIn K cd21 "read_weaving" = true)
    (k21 : PySem.W.keepIn K (.ref f21) = true)
    (a22 : PySem.W.nsIn K mainGlobals "_has_line" = some (some (.ref f22)))
    (l22 : K.lookup f22 = some ⟨oc22, od22, .func (PySem.W.fnOf "_has_line" "_has_line" (defArgs s__has_line) (defBody s__has_line) (defScope s__has_line) .none kV22 dc22 pm22 an22 cd22 ct22), sl22⟩)
    (c22 : PySem.W.codeIn K cd22 "_has_line" = true)
    (k22 : PySem.W.keepIn K (.ref f22) = true)
    (a23 : PySem.W.nsIn K mainGlobals "_is_piece" = some (some (.ref f23)))
    (l23 : K.lookup f23 = some ⟨oc23, od23, .func (PySem.W.fnOf "_is_piece" "_is_piece" (defArgs s__is_piece) (defBody s__is_piece) (defScope s__is_piece) .none kV23 dc23 pm23 an23 cd23 ct23), sl23⟩)
    (c23 : PySem.W.codeIn K cd23 "_is_piece" = true)
    (k23 : PySem.W.keepIn K (.ref f23) = true)
    (a24 : PySem.W.nsIn K mainGlobals "_is_list" = some (some (.ref f24)))
    (l24 : K.lookup f24 = some ⟨oc24, od24, .func (PySem.W.fnOf "_is_list" "_is_list" (defArgs s__is_list) (defBody s__is_list) (defScope s__is_list) .none kV24 dc24 pm24 an24 cd24 ct24), sl24⟩)
    (c24 : PySem.W.codeIn K cd24 "_is_list" = true)
    (k24 : PySem.W.keepIn K (.ref f24) = true)
    (a25 : PySem.W.nsIn K mainGlobals "_deed_of" = some (some (.ref f25)))
    (l25 : K.lookup f25 = some ⟨oc25, od25, .func (PySem.W.fnOf "_deed_of" "_deed_of" (defArgs s__deed_of) (defBody s__deed_of) (defScope s__deed_of) .none kV25 dc25 pm25 an25 cd25 ct25), sl25⟩)
    (c25 : PySem.W.codeIn K cd25 "_deed_of" = true)
    (k25 : PySem.W.keepIn K (.ref f25) = true)
    (a26 : PySem.W.nsIn K mainGlobals "_thing_of" = some (some (.ref f26)))
    (l26 : K.lookup f26 = some ⟨oc26, od26, .func (PySem.W.fnOf "_thing_of" "_thing_of" (defArgs s__thing_of) (defBody s__thing_of) (defScope s__thing_of) .none kV26 dc26 pm26 an26 cd26 ct26), sl26⟩)
    (c26 : PySem.W.codeIn K cd26 "_thing_of" = true)
    (k26 : PySem.W.keepIn K (.ref f26) = true)
    (aE_BadLine : PySem.W.nsIn K mainGlobals "BadLine" = some (some (.ref C_BadLine)))
    (iE_BadLine : PySem.W.findIn K (.ref C_BadLine) "__init__" = some (some (.ref fIBadLine)))
    (lE_BadLine : K.lookup fIBadLine = some ⟨ocBadLine, odBadLine, .func (PySem.W.fnX "__init__" "BadLine.__init__" (defArgs s_BadLine_init) (defBody s_BadLine_init) (defScope s_BadLine_init) [("__class__", ccBadLine)] .none .none dcBadLine pmBadLine none (.ref cdaBadLine) ctBadLine), slBadLine⟩)
    (cE_BadLine : PySem.W.codeIn K (.ref cdaBadLine) "BadLine.__init__" = true)
    (bE_BadLine : errB l.prog K C_BadLine fIBadLine ccBadLine cdaBadLine ["index"] = true)
    (xE : exmB K [C_BadLine] = true)
    (z_int : PySem.W.nsIn K mainGlobals "int" = some none)
    (z_len : PySem.W.nsIn K mainGlobals "len" = some none)
    (z_range : PySem.W.nsIn K mainGlobals "range" = some none)
    (z_list : PySem.W.nsIn K mainGlobals "list" = some none)
    (z_tuple : PySem.W.nsIn K mainGlobals "tuple" = some none)
    (z_dict : PySem.W.nsIn K mainGlobals "dict" = some none)
    (z_isinstance : PySem.W.nsIn K mainGlobals "isinstance" = some none)
    (z_all : PySem.W.nsIn K mainGlobals "all" = some none)
    (z_any : PySem.W.nsIn K mainGlobals "any" = some none)
    (z_repr : PySem.W.nsIn K mainGlobals "repr" = some none)
    (z_str : PySem.W.nsIn K mainGlobals "str" = some none)
    (z_enumerate : PySem.W.nsIn K mainGlobals "enumerate" = some none)
    (z_zip : PySem.W.nsIn K mainGlobals "zip" = some none)
    (z_bool : PySem.W.nsIn K mainGlobals "bool" = some none)
    (z_set : PySem.W.nsIn K mainGlobals "set" = some none)
    (z_sorted : PySem.W.nsIn K mainGlobals "sorted" = some none)
    (g_STRIKE : PySem.W.nsIn K mainGlobals "STRIKE" = some (some (.str "strike" tk_STRIKE)))
    (g_LETTERS : PySem.W.nsIn K mainGlobals "LETTERS" = some (some (.str "abcdefghijklmnopqrstuvwxyz" tk_LETTERS)))
    (g_LONGEST_NAME : PySem.W.nsIn K mainGlobals "LONGEST_NAME" = some (some (.int 8 tk_LONGEST_NAME)))
    (g_LENGTHS : PySem.W.nsIn K mainGlobals "LENGTHS" = some (some (.ref ad_LENGTHS)))
    (kd_LENGTHS : KDI K w ad_LENGTHS [("put", 4), ("turn", 5), ("strike", 3), ("look", 4), ("do", 2), ("stop", 2)])
    (g_PIECE_WORDS : PySem.W.nsIn K mainGlobals "PIECE_WORDS" = some (some (.ref ad_PIECE_WORDS)))
    (kt_PIECE_WORDS : KTup K ad_PIECE_WORDS ([.str "spread", .str "clear", .str "fell"] : List V))
    (g_NOTHING : PySem.W.nsIn K mainGlobals "NOTHING" = some (some (.str "-" tk_NOTHING))) :
    ∃ fd : FuncData, (∀ (s : Shared) (v : Value), BindsTo s fd ⟨[v], []⟩ [("_law_script", v)]) ∧ ∀ base : Heap, K.In base → base.Ns mainGlobals mg → FnG l.prog w K mg base CX0 8 fa fd ["_law_script"] (AL.conc K (AL.aLaw K)) := by
  have e := hfa.symm.trans (PySem.W.mg_of X G a14)
  cases e
  have F0 := fun_mk (st := s__law_draw) l0 c0 k0
  have b0 := F0.binds (ps := ["_law_stream", "_law_many"]) fun _ _ _ _ _ _ us hl => match us, hl with | [_, _], _ => rfl
  have F1 := fun_mk (st := s__law_pick) l1 c1 k1
  have b1 := F1.binds (ps := ["_law_stream", "_law_things"]) fun _ _ _ _ _ _ us hl => match us, hl with | [_, _], _ => rfl
  have F2 := fun_mk (st := s__law_same) l2 c2 k2
  have b2 := F2.binds (ps := ["_law_found", "_law_due"]) fun _ _ _ _ _ _ us hl => match us, hl with | [_, _], _ => rfl
  have F3 := fun_mk (st := s__law_fresh) l3 c3 k3
  have b3 := F3.binds (ps := ["_law_stream", "_law_taken"]) fun _ _ _ _ _ _ us hl => match us, hl with | [_, _], _ => rfl
  have F4 := fun_mk (st := s__law_names) l4 c4 k4
  have b4 := F4.binds (ps := ["_law_stream", "_law_many"]) fun _ _ _ _ _ _ us hl => match us, hl with | [_, _], _ => rfl
  have F5 := fun_mk (st := s__law_line) l5 c5 k5
  have b5 := F5.binds (ps := ["_law_deed"]) fun _ _ _ _ _ _ us hl => match us, hl with | [_], _ => rfl
  have F6 := fun_mk (st := s__law_number) l6 c6 k6
  have b6 := F6.binds (ps := ["_law_stream"]) fun _ _ _ _ _ _ us hl => match us, hl with | [_], _ => rfl
  have F7 := fun_mk (st := s__law_any) l7 c7 k7
  have b7 := F7.binds (ps := ["_law_stream"]) fun _ _ _ _ _ _ us hl => match us, hl with | [_], _ => rfl
  have F8 := fun_mk (st := s__law_is_name) l8 c8 k8
  have b8 := F8.binds (ps := ["_law_word"]) fun _ _ _ _ _ _ us hl => match us, hl with | [_], _ => rfl
  have F9 := fun_mk (st := s__law_is_number) l9 c9 k9
  have b9 := F9.binds (ps := ["_law_word"]) fun _ _ _ _ _ _ us hl => match us, hl with | [_], _ => rfl
  have F10 := fun_mk (st := s__law_are_owners) l10 c10 k10
  have b10 := F10.binds (ps := ["_law_words"]) fun _ _ _ _ _ _ us hl => match us, hl with | [_], _ => rfl
  have F11 := fun_mk (st := s__law_is_line) l11 c11 k11
  have b11 := F11.binds (ps := ["_law_line_here"]) fun _ _ _ _ _ _ us hl => match us, hl with | [_], _ => rfl
  have F12 := fun_mk (st := s__law_spoiled) l12 c12 k12
  have b12 := F12.binds (ps := ["_law_stream", "_law_line_here"]) fun _ _ _ _ _ _ us hl => match us, hl with | [_, _], _ => rfl
  have F13 := fun_mk (st := s__law_read) l13 c13 k13
  have b13 := F13.binds (ps := ["_law_text"]) fun _ _ _ _ _ _ us hl => match us, hl with | [_], _ => rfl
  have F14 := fun_mk (st := s_law) l14 c14 k14
  have b14 := F14.binds (ps := ["_law_script"]) fun _ _ _ _ _ _ us hl => match us, hl with | [_], _ => rfl
  have F15 := fun_mk (st := s_is_name) l15 c15 k15
  have b15 := F15.binds (ps := ["thing"]) fun _ _ _ _ _ _ us hl => match us, hl with | [_], _ => rfl
  have F16 := fun_mk (st := s_is_number) l16 c16 k16
  have b16 := F16.binds (ps := ["thing"]) fun _ _ _ _ _ _ us hl => match us, hl with | [_], _ => rfl
  have F17 := fun_mk (st := s_is_row) l17 c17 k17
  have b17 := F17.binds (ps := ["thing"]) fun _ _ _ _ _ _ us hl => match us, hl with | [_], _ => rfl
  have F18 := fun_mk (st := s_is_list_of_owners) l18 c18 k18
  have b18 := F18.binds (ps := ["thing"]) fun _ _ _ _ _ _ us hl => match us, hl with | [_], _ => rfl
  have F19 := fun_mk (st := s_is_owner_pair) l19 c19 k19
  have b19 := F19.binds (ps := ["thing"]) fun _ _ _ _ _ _ us hl => match us, hl with | [_], _ => rfl
  have F20 := fun_mk (st := s_is_deed) l20 c20 k20
  have b20 := F20.binds (ps := ["deed"]) fun _ _ _ _ _ _ us hl => match us, hl with | [_], _ => rfl
  have F21 := fun_mk (st := s_read_weaving) l21 c21 k21
  have b21 := F21.binds (ps := ["text"]) fun _ _ _ _ _ _ us hl => match us, hl with | [_], _ => rfl
  have F22 := fun_mk (st := s__has_line) l22 c22 k22
  have b22 := F22.binds (ps := ["thing"]) fun _ _ _ _ _ _ us hl => match us, hl with | [_], _ => rfl
  have F23 := fun_mk (st := s__is_piece) l23 c23 k23
  have b23 := F23.binds (ps := ["thing"]) fun _ _ _ _ _ _ us hl => match us, hl with | [_], _ => rfl
  have F24 := fun_mk (st := s__is_list) l24 c24 k24
  have b24 := F24.binds (ps := ["thing"]) fun _ _ _ _ _ _ us hl => match us, hl with | [_], _ => rfl
  have F25 := fun_mk (st := s__deed_of) l25 c25 k25
  have b25 := F25.binds (ps := ["words"]) fun _ _ _ _ _ _ us hl => match us, hl with | [_], _ => rfl
  have F26 := fun_mk (st := s__thing_of) l26 c26 k26
  have b26 := F26.binds (ps := ["word"]) fun _ _ _ _ _ _ us hl => match us, hl with | [_], _ => rfl
  have TT : Bt mg := ⟨PySem.W.mg_none_of X G z_int, PySem.W.mg_none_of X G z_len, PySem.W.mg_none_of X G z_range, PySem.W.mg_none_of X G z_list, PySem.W.mg_none_of X G z_tuple, PySem.W.mg_none_of X G z_dict, PySem.W.mg_none_of X G z_isinstance, PySem.W.mg_none_of X G z_all, PySem.W.mg_none_of X G z_any, PySem.W.mg_none_of X G z_repr, PySem.W.mg_none_of X G z_str⟩
  have T2 : BtA mg := ⟨PySem.W.mg_none_of X G z_enumerate, PySem.W.mg_none_of X G z_zip, PySem.W.mg_none_of X G z_bool, PySem.W.mg_none_of X G z_set, PySem.W.mg_none_of X G z_sorted⟩
  refine ⟨PySem.W.fnOf "law" "law" (defArgs s_law) (defBody s_law) (defScope s_law) .none kV14 dc14 pm14 an14 cd14 ct14, fun s v => .of_eq rfl, fun base _ _ => ?_⟩
  have GF : Gf mg tk_STRIKE tk_LETTERS tk_LONGEST_NAME := ⟨(PySem.W.mg_of X G g_STRIKE), (PySem.W.mg_of X G g_LETTERS), (PySem.W.mg_of X G g_LONGEST_NAME)⟩
  have GD : Gd K w mg ad_LENGTHS := ⟨(PySem.W.mg_of X G g_LENGTHS), kd_LENGTHS⟩
  have GW : Gw K mg ad_PIECE_WORDS tk_NOTHING := ⟨(PySem.W.mg_of X G g_PIECE_WORDS), (PySem.W.mg_of X G g_NOTHING), kt_PIECE_WORDS⟩
  have O_BadLine := own_x1 (P := l.prog) (w := w) (base := base) X G tx_BadLine aE_BadLine lE_BadLine cE_BadLine bE_BadLine
  have O__law_draw : Own l.prog w K mg base CX0 1 "_law_draw" ["_law_stream", "_law_many"] (conc K aDraw) := ⟨f0, _, a_draw F0 TT, PySem.W.mg_of X G a0, k0, b0⟩
  have O_draw0 : Own l.prog w K mg base CX0 1 "_law_draw" ["_law_stream", "_law_many"] spDraw := ⟨f0, _, ok_draw F0 TT, PySem.W.mg_of X G a0, k0, b0⟩
  have O__law_pick : Own l.prog w K mg base CX0 2 "_law_pick" ["_law_stream", "_law_things"] (conc K aPick) := ⟨f1, _, a_pick F1 TT O__law_draw, PySem.W.mg_of X G a1, k1, b1⟩
  have O__law_fresh : Own l.prog w K mg base CX0 2 "_law_fresh" ["_law_stream", "_law_taken"] (conc K aFresh) := ⟨f3, _, a_fresh F3 TT O_draw0, PySem.W.mg_of X G a3, k3, b3⟩
  have O__law_names : Own l.prog w K mg base CX0 3 "_law_names" ["_law_stream", "_law_many"] (conc K aNames) := ⟨f4, _, a_names F4 TT O__law_fresh, PySem.W.mg_of X G a4, k4, b4⟩
  have O_is_name : Own l.prog w K mg base CX0 1 "is_name" ["thing"] (conc K aIsName) := ⟨f15, _, a_is_name F15 TT GF, PySem.W.mg_of X G a15, k15, b15⟩
  have O_is_number : Own l.prog w K mg base CX0 1 "is_number" ["thing"] (conc K aIsNum) := ⟨f16, _, a_is_number F16 TT T2, PySem.W.mg_of X G a16, k16, b16⟩
  have O_is_row : Own l.prog w K mg base CX0 1 "is_row" ["thing"] (conc K aIsRow) := ⟨f17, _, a_is_row F17 TT, PySem.W.mg_of X G a17, k17, b17⟩
  have O_is_owner_pair : Own l.prog w K mg base CX0 2 "is_owner_pair" ["thing"] (conc K aIsPair) := ⟨f19, _, a_is_pair F19 TT O_is_row O_is_number, PySem.W.mg_of X G a19, k19, b19⟩
  have O_is_list_of_owners : Own l.prog w K mg base CX0 3 "is_list_of_owners" ["thing"] (conc K aIsOwn) := ⟨f18, _, a_is_owners F18 TT O_is_row O_is_owner_pair, PySem.W.mg_of X G a18, k18, b18⟩
  have O_is_deed : Own l.prog w K mg base CX0 4 "is_deed" ["deed"] (conc K aIsDeed) := ⟨f20, _, a_is_deed F20 TT GD O_is_row O_is_list_of_owners, PySem.W.mg_of X G a20, k20, b20⟩
  have O__is_piece : Own l.prog w K mg base CX0 2 "_is_piece" ["thing"] (conc K aIsPiece) := ⟨f23, _, a_is_piece F23 TT GW O_is_name, PySem.W.mg_of X G a23, k23, b23⟩
  have O__is_list : Own l.prog w K mg base CX0 2 "_is_list" ["thing"] (conc K aIsList) := ⟨f24, _, a_is_list F24 TT O_is_row O_is_number, PySem.W.mg_of X G a24, k24, b24⟩
  have O__thing_of : Own l.prog w K mg base CX0 1 "_thing_of" ["word"] (conc K aThing) := ⟨f26, _, a_thing F26 TT GW, PySem.W.mg_of X G a26, k26, b26⟩
  have O__deed_of : Own l.prog w K mg base CX0 2 "_deed_of" ["words"] (conc K aDeedOf) := ⟨f25, _, a_deed_of F25 TT O__thing_of, PySem.W.mg_of X G a25, k25, b25⟩
  have O__has_line : Own l.prog w K mg base CX0 5 "_has_line" ["thing"] (conc K aHas) := ⟨f22, _, a_has F22 TT O_is_deed O_is_name O_is_number O__is_piece O__is_list, PySem.W.mg_of X G a22, k22, b22⟩
  have O_read_weaving : OwnR l.prog w K mg base 6 "read_weaving" ["text"] (conc K (aRead C_BadLine)) := ⟨f21, _, a_read F21 TT T2 O_BadLine O__deed_of O__has_line, PySem.W.mg_of X G a21, k21, b21⟩
  have O__law_is_name : Own l.prog w K mg base CX0 1 "_law_is_name" ["_law_word"] (conc K aLName) := ⟨f8, _, a_lname F8 TT, PySem.W.mg_of X G a8, k8, b8⟩
  have O__law_is_number : Own l.prog w K mg base CX0 1 "_law_is_number" ["_law_word"] (conc K aLNum) := ⟨f9, _, a_lnum F9 TT, PySem.W.mg_of X G a9, k9, b9⟩
  have O__law_are_owners : Own l.prog w K mg base CX0 2 "_law_are_owners" ["_law_words"] (conc K aLOwn) := ⟨f10, _, a_lown F10 TT T2 O__law_is_name O__law_is_number, PySem.W.mg_of X G a10, k10, b10⟩
  have O__law_is_line : Own l.prog w K mg base CX0 3 "_law_is_line" ["_law_line_here"] (conc K aLLine) := ⟨f11, _, a_lline F11 TT O__law_is_name O__law_is_number O__law_are_owners, PySem.W.mg_of X G a11, k11, b11⟩
  have O__law_number : Own l.prog w K mg base CX0 2 "_law_number" ["_law_stream"] (conc K aLNo) := ⟨f6, _, a_lno F6 O__law_draw, PySem.W.mg_of X G a6, k6, b6⟩
  have O__law_any : Own l.prog w K mg base CX0 4 "_law_any" ["_law_stream"] (conc K aLAny) := ⟨f7, _, a_lany F7 TT O__law_draw O__law_pick O__law_names O__law_number, PySem.W.mg_of X G a7, k7, b7⟩
  have O__law_line : Own l.prog w K mg base CX0 1 "_law_line" ["_law_deed"] (conc K aLLn) := ⟨f5, _, a_lln F5 TT, PySem.W.mg_of X G a5, k5, b5⟩
  have O__law_spoiled : Own l.prog w K mg base CX0 3 "_law_spoiled" ["_law_stream", "_law_line_here"] (conc K aLSp) := ⟨f12, _, a_lsp F12 TT O__law_draw O__law_pick, PySem.W.mg_of X G a12, k12, b12⟩
  have O__law_same : OwnG l.prog w K mg base CX0 1 "_law_same" ["_law_found", "_law_due"] (conc K aSame) := ⟨f2, _, a_same F2 TT, PySem.W.mg_of X G a2, k2, b2⟩
  have O__law_read : Own l.prog w K mg base CX0 7 "_law_read" ["_law_text"] (conc K aLRead) := ⟨f13, _, a_lread F13 TT xE O_BadLine O_read_weaving, PySem.W.mg_of X G a13, k13, b13⟩
  exact a_law F14 TT T2 O__law_draw O__law_any O__law_line O__law_spoiled O__law_is_line O__law_read O__law_same
end Ls
set_option maxHeartbeats 0
namespace Ls
open PySem PySem.Spec PyProof.Rows L2 AL
/-! ### what the top has written, asked as Bools -/
def nm0 : List PySem.Str := ["__name__", "StrikeError", "BadLine", "LETTERS", "LONGEST_NAME", "STRIKE", "is_name", "is_number", "is_row", "is_list_of_owners", "is_owner_pair", "LENGTHS"]
def nm1 : List PySem.Str := ["is_deed", "PIECE_WORDS", "NOTHING", "read_weaving", "_has_line", "_is_piece", "_is_list", "_deed_of", "_thing_of", "_law_draw", "_law_pick", "_law_same"]
def nm2 : List PySem.Str := ["_law_fresh", "_law_names", "_law_line", "_law_number", "_law_any", "_law_is_name", "_law_is_number", "_law_are_owners", "_law_is_line", "_law_spoiled", "_law_read"]
def lawNames : List PySem.Str := nm0 ++ nm1 ++ nm2
def wd0 : List WD := [⟨("_law_draw", none), "_law_draw", "_law_draw", defArgs s__law_draw, defBody s__law_draw, defScope s__law_draw, []⟩, ⟨("_law_pick", none), "_law_pick", "_law_pick", defArgs s__law_pick, defBody s__law_pick, defScope s__law_pick, []⟩, ⟨("_law_same", none), "_law_same", "_law_same", defArgs s__law_same, defBody s__law_same, defScope s__law_same, []⟩, ⟨("_law_fresh", none), "_law_fresh", "_law_fresh", defArgs s__law_fresh, defBody s__law_fresh, defScope s__law_fresh, []⟩, ⟨("_law_names", none), "_law_names", "_law_names", defArgs s__law_names, defBody s__law_names, defScope s__law_names, []⟩, ⟨("_law_line", none), "_law_line", "_law_line", defArgs s__law_line, defBody s__law_line, defScope s__law_line, []⟩, ⟨("_law_number", none), "_law_number", "_law_number", defArgs s__law_number, defBody s__law_number, defScope s__law_number, []⟩, ⟨("_law_any", none), "_law_any", "_law_any", defArgs s__law_any, defBody s__law_any, defScope s__law_any, []⟩]
def wd1 : List WD := [⟨("_law_is_name", none), "_law_is_name", "_law_is_name", defArgs s__law_is_name, defBody s__law_is_name, defScope s__law_is_name, []⟩, ⟨("_law_is_number", none), "_law_is_number", "_law_is_number", defArgs s__law_is_number, defBody s__law_is_number, defScope s__law_is_number, []⟩, ⟨("_law_are_owners", none), "_law_are_owners", "_law_are_owners", defArgs s__law_are_owners, defBody s__law_are_owners, defScope s__law_are_owners, []⟩, ⟨("_law_is_line", none), "_law_is_line", "_law_is_line", defArgs s__law_is_line, defBody s__law_is_line, defScope s__law_is_line, []⟩, ⟨("_law_spoiled", none), "_law_spoiled", "_law_spoiled", defArgs s__law_spoiled, defBody s__law_spoiled, defScope s__law_spoiled, []⟩, ⟨("_law_read", none), "_law_read", "_law_read", defArgs s__law_read, defBody s__law_read, defScope s__law_read, []⟩, ⟨("law", none), "law", "law", defArgs s_law, defBody s_law, defScope s_law, []⟩, ⟨("is_name", none), "is_name", "is_name", defArgs s_is_name, defBody s_is_name, defScope s_is_name, []⟩]
def wd2 : List WD := [⟨("is_number", none), "is_number", "is_number", defArgs s_is_number, defBody s_is_number, defScope s_is_number, []⟩, ⟨("is_row", none), "is_row", "is_row", defArgs s_is_row, defBody s_is_row, defScope s_is_row, []⟩, ⟨("is_list_of_owners", none), "is_list_of_owners", "is_list_of_owners", defArgs s_is_list_of_owners, defBody s_is_list_of_owners, defScope s_is_list_of_owners, []⟩, ⟨("is_owner_pair", none), "is_owner_pair", "is_owner_pair", defArgs s_is_owner_pair, defBody s_is_owner_pair, defScope s_is_owner_pair, []⟩, ⟨("is_deed", none), "is_deed", "is_deed", defArgs s_is_deed, defBody s_is_deed, defScope s_is_deed, []⟩, ⟨("read_weaving", none), "read_weaving", "read_weaving", defArgs s_read_weaving, defBody s_read_weaving, defScope s_read_weaving, []⟩, ⟨("_has_line", none), "_has_line", "_has_line", defArgs s__has_line, defBody s__has_line, defScope s__has_line, []⟩, ⟨("_is_piece", none), "_is_piece", "_is_piece", defArgs s__is_piece, defBody s__is_piece, defScope s__is_piece, []⟩]
def wd3 : List WD := [⟨("_is_list", none), "_is_list", "_is_list", defArgs s__is_list, defBody s__is_list, defScope s__is_list, []⟩, ⟨("_deed_of", none), "_deed_of", "_deed_of", defArgs s__deed_of, defBody s__deed_of, defScope s__deed_of, []⟩, ⟨("_thing_of", none), "_thing_of", "_thing_of", defArgs s__thing_of, defBody s__thing_of, defScope s__thing_of, []⟩, ⟨("BadLine", some "__init__"), "__init__", "BadLine.__init__", defArgs s_BadLine_init, defBody s_BadLine_init, defScope s_BadLine_init, ["__class__"]⟩]
def lawDefs : List WD := wd0 ++ wd1 ++ wd2 ++ wd3
def lawTabs : List KtW := [("LENGTHS", [("put", 4), ("turn", 5), ("strike", 3), ("look", 4), ("do", 2), ("stop", 2)])]
def ex0 (K : PySem.W.Frag) : Bool := He.eqO (PySem.W.nsIn K mainGlobals "_law_draw") (some (some (.ref (He.fAd K ("_law_draw", none))))) && (plB K ("_law_draw", none) "_law_draw" && (He.eqO (PySem.W.nsIn K mainGlobals "_law_pick") (some (some (.ref (He.fAd K ("_law_pick", none))))) && (plB K ("_law_pick", none) "_law_pick" && (He.eqO (PySem.W.nsIn K mainGlobals "_law_same") (some (some (.ref (He.fAd K ("_law_same", none))))) && (plB K ("_law_same", none) "_law_same" && (He.eqO (PySem.W.nsIn K mainGlobals "_law_fresh") (some (some (.ref (He.fAd K ("_law_fresh", none))))) && (plB K ("_law_fresh", none) "_law_fresh" && (He.eqO (PySem.W.nsIn K mainGlobals "_law_names") (some (some (.ref (He.fAd K ("_law_names", none))))) && (plB K ("_law_names", none) "_law_names" && (He.eqO (PySem.W.nsIn K mainGlobals "_law_line") (some (some (.ref (He.fAd K ("_law_line", none))))) && (plB K ("_law_line", none) "_law_line")))))))))))
def ex1 (K : PySem.W.Frag) : Bool := He.eqO (PySem.W.nsIn K mainGlobals "_law_number") (some (some (.ref (He.fAd K ("_law_number", none))))) && (plB K ("_law_number", none) "_law_number" && (He.eqO (PySem.W.nsIn K mainGlobals "_law_any") (some (some (.ref (He.fAd K ("_law_any", none))))) && (plB K ("_law_any", none) "_law_any" && (He.eqO (PySem.W.nsIn K mainGlobals "_law_is_name") (some (some (.ref (He.fAd K ("_law_is_name", none))))) && (plB K ("_law_is_name", none) "_law_is_name" && (He.eqO (PySem.W.nsIn K mainGlobals "_law_is_number") (some (some (.ref (He.fAd K ("_law_is_number", none))))) && (plB K ("_law_is_number", none) "_law_is_number" && (He.eqO (PySem.W.nsIn K mainGlobals "_law_are_owners") (some (some (.ref (He.fAd K ("_law_are_owners", none))))) && (plB K ("_law_are_owners", none) "_law_are_owners" && (He.eqO (PySem.W.nsIn K mainGlobals "_law_is_line") (some (some (.ref (He.fAd K ("_law_is_line", none))))) && (plB K ("_law_is_line", none) "_law_is_line")))))))))))
def ex2 (K : PySem.W.Frag) : Bool := He.eqO (PySem.W.nsIn K mainGlobals "_law_spoiled") (some (some (.ref (He.fAd K ("_law_spoiled", none))))) && (plB K ("_law_spoiled", none) "_law_spoiled" && (He.eqO (PySem.W.nsIn K mainGlobals "_law_read") (some (some (.ref (He.fAd K ("_law_read", none))))) && (plB K ("_law_read", none) "_law_read" && (He.eqO (PySem.W.nsIn K mainGlobals "law") (some (some (.ref (He.fAd K ("law", none))))) && (plB K ("law", none) "law" && (He.eqO (PySem.W.nsIn K mainGlobals "is_name") (some (some (.ref (He.fAd K ("is_name", none))))) && (plB K ("is_name", none) "is_name" && (He.eqO (PySem.W.nsIn K mainGlobals "is_number") (some (some (.ref (He.fAd K ("is_number", none))))) && (plB K ("is_number", none) "is_number" && (He.eqO (PySem.W.nsIn K mainGlobals "is_row") (some (some (.ref (He.fAd K ("is_row", none))))) && (plB K ("is_row", none) "is_row")))))))))))
def ex3 (K : PySem.W.Frag) : Bool := He.eqO (PySem.W.nsIn K mainGlobals "is_list_of_owners") (some (some (.ref (He.fAd K ("is_list_of_owners", none))))) && (plB K ("is_list_of_owners", none) "is_list_of_owners" && (He.eqO (PySem.W.nsIn K mainGlobals "is_owner_pair") (some (some (.ref (He.fAd K ("is_owner_pair", none))))) && (plB K ("is_owner_pair", none) "is_owner_pair" && (He.eqO (PySem.W.nsIn K mainGlobals "is_deed") (some (some (.ref (He.fAd K ("is_deed", none))))) && (plB K ("is_deed", none) "is_deed" && (He.eqO (PySem.W.nsIn K mainGlobals "read_weaving") (some (some (.ref (He.fAd K ("read_weaving", none))))) && (plB K ("read_weaving", none) "read_weaving" && (He.eqO (PySem.W.nsIn K mainGlobals "_has_line") (some (some (.ref (He.fAd K ("_has_line", none))))) && (plB K ("_has_line", none) "_has_line" && (He.eqO (PySem.W.nsIn K mainGlobals "_is_piece") (some (some (.ref (He.fAd K ("_is_piece", none))))) && (plB K ("_is_piece", none) "_is_piece")))))))))))
def ex4 (K : PySem.W.Frag) : Bool := He.eqO (PySem.W.nsIn K mainGlobals "_is_list") (some (some (.ref (He.fAd K ("_is_list", none))))) && (plB K ("_is_list", none) "_is_list" && (He.eqO (PySem.W.nsIn K mainGlobals "_deed_of") (some (some (.ref (He.fAd K ("_deed_of", none))))) && (plB K ("_deed_of", none) "_deed_of" && (He.eqO (PySem.W.nsIn K mainGlobals "_thing_of") (some (some (.ref (He.fAd K ("_thing_of", none))))) && (plB K ("_thing_of", none) "_thing_of" && (He.eqO (PySem.W.nsIn K mainGlobals "BadLine") (some (some (.ref (He.ga K "BadLine")))) && (He.eqO (PySem.W.findIn K (.ref (He.ga K "BadLine")) "__init__") (some (some (.ref (He.fAd K ("BadLine", some "__init__"))))) && (erB K ("BadLine", some "__init__") "BadLine.__init__" && (errB (PySem.Challenge.rw_longstrike_k33_weaving_lines_refused).prog K (He.ga K "BadLine") (He.fAd K ("BadLine", some "__init__")) (cellOf K ("BadLine", some "__init__")) (codeAd K ("BadLine", some "__init__")) ["index"] && (exmB K [(He.ga K "BadLine")] && (He.eqO (PySem.W.nsIn K mainGlobals "int") (some none))))))))))))
def ex5 (K : PySem.W.Frag) : Bool := He.eqO (PySem.W.nsIn K mainGlobals "len") (some none) && (He.eqO (PySem.W.nsIn K mainGlobals "range") (some none) && (He.eqO (PySem.W.nsIn K mainGlobals "list") (some none) && (He.eqO (PySem.W.nsIn K mainGlobals "tuple") (some none) && (He.eqO (PySem.W.nsIn K mainGlobals "dict") (some none) && (He.eqO (PySem.W.nsIn K mainGlobals "isinstance") (some none) && (He.eqO (PySem.W.nsIn K mainGlobals "all") (some none) && (He.eqO (PySem.W.nsIn K mainGlobals "any") (some none) && (He.eqO (PySem.W.nsIn K mainGlobals "repr") (some none) && (He.eqO (PySem.W.nsIn K mainGlobals "str") (some none) && (He.eqO (PySem.W.nsIn K mainGlobals "enumerate") (some none) && (He.eqO (PySem.W.nsIn K mainGlobals "zip") (some none))))))))))))
def ex6 (K : PySem.W.Frag) : Bool := He.eqO (PySem.W.nsIn K mainGlobals "bool") (some none) && (He.eqO (PySem.W.nsIn K mainGlobals "set") (some none) && (He.eqO (PySem.W.nsIn K mainGlobals "sorted") (some none) && (strB K "STRIKE" "strike" && (strB K "LETTERS" "abcdefghijklmnopqrstuvwxyz" && (intB K "LONGEST_NAME" 8 && (He.eqO (PySem.W.nsIn K mainGlobals "LENGTHS") (some (some (.ref (He.ga K "LENGTHS")))) && (entsB K (He.ga K "LENGTHS") [("put", 4), ("turn", 5), ("strike", 3), ("look", 4), ("do", 2), ("stop", 2)] && (He.eqO (PySem.W.nsIn K mainGlobals "PIECE_WORDS") (some (some (.ref (He.ga K "PIECE_WORDS")))) && (tupB K (He.ga K "PIECE_WORDS") ["spread", "clear", "fell"] && (strB K "NOTHING" "-"))))))))))
def exB (K : PySem.W.Frag) : Bool := ex0 K && (ex1 K && (ex2 K && (ex3 K && (ex4 K && (ex5 K && (ex6 K))))))

end Ls
set_option maxHeartbeats 0
namespace Ls
open PySem PySem.Spec PyProof.Rows L2 AL
/-! ### the run -/
def ad0 : List Addr := [3, 2, 23, 24, 31, 42, 43, 45, 46, 52, 53, 59, 60, 66, 67, 71, 72, 78, 79, 80]
def ad1 : List Addr := [86, 87, 88, 94, 95, 99, 100, 106, 107, 111, 112, 116, 117, 123, 124, 130, 131, 137, 138, 144]
def ad2 : List Addr := [145, 149, 150, 156, 157, 161, 162, 168, 169, 173, 174, 178, 179, 183, 184, 188, 189, 193, 194, 200]
def ad3 : List Addr := [201, 207, 208, 212, 213]
def lawAds : List Addr := ad0 ++ ad1 ++ ad2 ++ ad3
abbrev lawRow : PySem.W.OpenRow := PySem.W.OpenLaw.row PySem.Challenge.rw_longstrike_k33_weaving_lines_refused
abbrev lawView : Program := PySem.W.view lawRow.prog [39]
abbrev lawHook : PySem.W.Hook := hookWT lawAds lawDefs exB lawTabs
def lawObs (s : PySem.W.SharedT) : (Bool × List (Option FdW)) × TbW := obsWT lawAds lawDefs exB lawTabs (HandSHeadRun.getT s)
theorem lawObs_eq (s : PySem.W.SharedT) : lawObs s = lawHook.obs s.abs := obsWT_eq (HandSHeadRun.getT_eq s)
theorem law_run0 (w : World) : HandSHeadRun.RunEq lawRow lawView lawHook lawObs 8000 lawNames (w.withFollow "special-get-raises" false) := by
  intro os
  kernel_rfl
theorem law_run1 (w : World) : HandSHeadRun.RunEq lawRow lawView lawHook lawObs 8000 lawNames (w.withFollow "special-get-raises" true) := by
  intro os
  kernel_rfl
theorem law_run (w : World) : HandSHeadRun.RunEq lawRow lawView lawHook lawObs 8000 lawNames w := by
  refine PySem.W.byRow2 "special-get-raises" (fun w => law_run0 w) (fun w => law_run1 w) w
theorem law_facts {w : World} {K : PySem.W.Frag} {h : Heap} {mg : Str → Option Value} {fa : Addr} (X : K.In h) (G : h.Ns mainGlobals mg) (hfa : mg "law" = some (.ref fa)) (hx : exB K = true) (c : (lawDefs.map fun d => wOf K d.at_) = lawDefs.map WD.val) (ct : (lawTabs.map fun t => tabWK K t) = lawTabs.map fun t => tabWV w.params t) :
    ∃ fd : FuncData, (∀ (s : Shared) (v : Value), BindsTo s fd ⟨[v], []⟩ [("_law_script", v)]) ∧ ∀ base : Heap, K.In base → base.Ns mainGlobals mg → FnG (PySem.Challenge.rw_longstrike_k33_weaving_lines_refused).prog w K mg base CX0 8 fa fd ["_law_script"] (AL.conc K (AL.aLaw K)) := by
  unfold exB at hx
  obtain ⟨hb0, hx⟩ := He.ba (show (ex0 K && _) = true from hx)
  unfold ex0 at hb0
  obtain ⟨h0, hb0⟩ := He.ba hb0
  obtain ⟨h1, hb0⟩ := He.ba hb0
  obtain ⟨h2, hb0⟩ := He.ba hb0
  obtain ⟨h3, hb0⟩ := He.ba hb0
  obtain ⟨h4, hb0⟩ := He.ba hb0
  obtain ⟨h5, hb0⟩ := He.ba hb0
  obtain ⟨h6, hb0⟩ := He.ba hb0
  obtain ⟨h7, hb0⟩ := He.ba hb0
  obtain ⟨h8, hb0⟩ := He.ba hb0
  obtain ⟨h9, hb0⟩ := He.ba hb0
  obtain ⟨h10, hb0⟩ := He.ba hb0
  have h11 := hb0
  obtain ⟨hb1, hx⟩ := He.ba (show (ex1 K && _) = true from hx)
  unfold ex1 at hb1
  obtain ⟨h12, hb1⟩ := He.ba hb1
  obtain ⟨h13, hb1⟩ := He.ba hb1
  obtain ⟨h14, hb1⟩ := He.ba hb1
  obtain ⟨h15, hb1⟩ := He.ba hb1
  obtain ⟨h16, hb1⟩ := He.ba hb1
  obtain ⟨h17, hb1⟩ := He.ba hb1
  obtain ⟨h18, hb1⟩ := He.ba hb1
  obtain ⟨h19, hb1⟩ := He.ba hb1
  obtain ⟨h20, hb1⟩ := He.ba hb1
  obtain ⟨h21, hb1⟩ := He.ba hb1
  obtain ⟨h22, hb1⟩ := He.ba hb1
  have h23 := hb1
  obtain ⟨hb2, hx⟩ := He.ba (show (ex2 K && _) = true from hx)
  unfold ex2 at hb2
  obtain ⟨h24, hb2⟩ := He.ba hb2
  obtain ⟨h25, hb2⟩ := He.ba hb2
  obtain ⟨h26, hb2⟩ := He.ba hb2
  obtain ⟨h27, hb2⟩ := He.ba hb2
  obtain ⟨h28, hb2⟩ := He.ba hb2
  obtain ⟨h29, hb2⟩ := He.ba hb2
  obtain ⟨h30, hb2⟩ := He.ba hb2
  obtain ⟨h31, hb2⟩ := He.ba hb2
  obtain ⟨h32, hb2⟩ := He.ba hb2
  obtain ⟨h33, hb2⟩ := He.ba hb2
  obtain ⟨h34, hb2⟩ := He.ba hb2
  have h35 := hb2
  obtain ⟨hb3, hx⟩ := He.ba (show (ex3 K && _) = true from hx)
  unfold ex3 at hb3
  obtain ⟨h36, hb3⟩ := He.ba hb3
  obtain ⟨h37, hb3⟩ := He.ba hb3
  obtain ⟨h38, hb3⟩ := He.ba hb3
  obtain ⟨h39, hb3⟩ := He.ba hb3
  obtain ⟨h40, hb3⟩ := He.ba hb3
  obtain ⟨h41, hb3⟩ := He.ba hb3
  obtain ⟨h42, hb3⟩ := He.ba hb3
  obtain ⟨h43, hb3⟩ := He.ba hb3
  obtain ⟨h44, hb3⟩ := He.ba hb3
  obtain ⟨h45, hb3⟩ := He.ba hb3
  obtain ⟨h46, hb3⟩ := He.ba hb3
  have h47 := hb3
  obtain ⟨hb4, hx⟩ := He.ba (show (ex4 K && _) = true from hx)
  unfold ex4 at hb4
  obtain ⟨h48, hb4⟩ := He.ba hb4
  obtain ⟨h49, hb4⟩ := He.ba hb4
  obtain ⟨h50, hb4⟩ := He.ba hb4
  obtain ⟨h51, hb4⟩ := He.ba hb4
  obtain ⟨h52, hb4⟩ := He.ba hb4
  obtain ⟨h53, hb4⟩ := He.ba hb4
  obtain ⟨h54, hb4⟩ := He.ba hb4
  obtain ⟨h55, hb4⟩ := He.ba hb4
  obtain ⟨h56, hb4⟩ := He.ba hb4
  obtain ⟨h57, hb4⟩ := He.ba hb4
  obtain ⟨h58, hb4⟩ := He.ba hb4
  have h59 := hb4
  obtain ⟨hb5, hx⟩ := He.ba (show (ex5 K && _) = true from hx)
  unfold ex5 at hb5
  obtain ⟨h60, hb5⟩ := He.ba hb5
  obtain ⟨h61, hb5⟩ := He.ba hb5
  obtain ⟨h62, hb5⟩ := He.ba hb5
  obtain ⟨h63, hb5⟩ := He.ba hb5
  obtain ⟨h64, hb5⟩ := He.ba hb5
  obtain ⟨h65, hb5⟩ := He.ba hb5
  obtain ⟨h66, hb5⟩ := He.ba hb5
  obtain ⟨h67, hb5⟩ := He.ba hb5
  obtain ⟨h68, hb5⟩ := He.ba hb5
  obtain ⟨h69, hb5⟩ := He.ba hb5
  obtain ⟨h70, hb5⟩ := He.ba hb5
  have h71 := hb5
  have hb6 := hx
  unfold ex6 at hb6
  obtain ⟨h72, hb6⟩ := He.ba hb6
  obtain ⟨h73, hb6⟩ := He.ba hb6
  obtain ⟨h74, hb6⟩ := He.ba hb6
  obtain ⟨h75, hb6⟩ := He.ba hb6
  obtain ⟨h76, hb6⟩ := He.ba hb6
  obtain ⟨h77, hb6⟩ := He.ba hb6
  obtain ⟨h78, hb6⟩ := He.ba hb6
  obtain ⟨h79, hb6⟩ := He.ba hb6
  obtain ⟨h80, hb6⟩ := He.ba hb6
  obtain ⟨h81, hb6⟩ := He.ba hb6
  have h82 := hb6
  have a0 := He.eqO_ok h0
  obtain ⟨_, _, _, _, _, _, _, _, _, l0, c0, k0⟩ := pl_ok (wd_at c 0 rfl) rfl h1
  have a1 := He.eqO_ok h2
  obtain ⟨_, _, _, _, _, _, _, _, _, l1, c1, k1⟩ := pl_ok (wd_at c 1 rfl) rfl h3
  have a2 := He.eqO_ok h4
  obtain ⟨_, _, _, _, _, _, _, _, _, l2, c2, k2⟩ := pl_ok (wd_at c 2 rfl) rfl h5
  have a3 := He.eqO_ok h6
  obtain ⟨_, _, _, _, _, _, _, _, _, l3, c3, k3⟩ := pl_ok (wd_at c 3 rfl) rfl h7
  have a4 := He.eqO_ok h8
  obtain ⟨_, _, _, _, _, _, _, _, _, l4, c4, k4⟩ := pl_ok (wd_at c 4 rfl) rfl h9
  have a5 := He.eqO_ok h10
  obtain ⟨_, _, _, _, _, _, _, _, _, l5, c5, k5⟩ := pl_ok (wd_at c 5 rfl) rfl h11
  have a6 := He.eqO_ok h12
  obtain ⟨_, _, _, _, _, _, _, _, _, l6, c6, k6⟩ := pl_ok (wd_at c 6 rfl) rfl h13
  have a7 := He.eqO_ok h14
  obtain ⟨_, _, _, _, _, _, _, _, _, l7, c7, k7⟩ := pl_ok (wd_at c 7 rfl) rfl h15
  have a8 := He.eqO_ok h16
  obtain ⟨_, _, _, _, _, _, _, _, _, l8, c8, k8⟩ := pl_ok (wd_at c 8 rfl) rfl h17
  have a9 := He.eqO_ok h18
  obtain ⟨_, _, _, _, _, _, _, _, _, l9, c9, k9⟩ := pl_ok (wd_at c 9 rfl) rfl h19
  have a10 := He.eqO_ok h20
  obtain ⟨_, _, _, _, _, _, _, _, _, l10, c10, k10⟩ := pl_ok (wd_at c 10 rfl) rfl h21
  have a11 := He.eqO_ok h22
  obtain ⟨_, _, _, _, _, _, _, _, _, l11, c11, k11⟩ := pl_ok (wd_at c 11 rfl) rfl h23
  have a12 := He.eqO_ok h24
  obtain ⟨_, _, _, _, _, _, _, _, _, l12, c12, k12⟩ := pl_ok (wd_at c 12 rfl) rfl h25
  have a13 := He.eqO_ok h26
  obtain ⟨_, _, _, _, _, _, _, _, _, l13, c13, k13⟩ := pl_ok (wd_at c 13 rfl) rfl h27
  have a14 := He.eqO_ok h28
  obtain ⟨_, _, _, _, _, _, _, _, _, l14, c14, k14⟩ := pl_ok (wd_at c 14 rfl) rfl h29
  have a15 := He.eqO_ok h30
  obtain ⟨_, _, _, _, _, _, _, _, _, l15, c15, k15⟩ := pl_ok (wd_at c 15 rfl) rfl h31
  have a16 := He.eqO_ok h32
  obtain ⟨_, _, _, _, _, _, _, _, _, l16, c16, k16⟩ := pl_ok (wd_at c 16 rfl) rfl h33
  have a17 := He.eqO_ok h34
  obtain ⟨_, _, _, _, _, _, _, _, _, l17, c17, k17⟩ := pl_ok (wd_at c 17 rfl) rfl h35
  have a18 := He.eqO_ok h36
  obtain ⟨_, _, _, _, _, _, _, _, _, l18, c18, k18⟩ := pl_ok (wd_at c 18 rfl) rfl h37
  have a19 := He.eqO_ok h38
  obtain ⟨_, _, _, _, _, _, _, _, _, l19, c19, k19⟩ := pl_ok (wd_at c 19 rfl) rfl h39
  have a20 := He.eqO_ok h40
  obtain ⟨_, _, _, _, _, _, _, _, _, l20, c20, k20⟩ := pl_ok (wd_at c 20 rfl) rfl h41
  have a21 := He.eqO_ok h42
  obtain ⟨_, _, _, _, _, _, _, _, _, l21, c21, k21⟩ := pl_ok (wd_at c 21 rfl) rfl h43
  have a22 := He.eqO_ok h44
  obtain ⟨_, _, _, _, _, _, _, _, _, l22, c22, k22⟩ := pl_ok (wd_at c 22 rfl) rfl h45
  have a23 := He.eqO_ok h46
  obtain ⟨_, _, _, _, _, _, _, _, _, l23, c23, k23⟩ := pl_ok (wd_at c 23 rfl) rfl h47
  have a24 := He.eqO_ok h48
  obtain ⟨_, _, _, _, _, _, _, _, _, l24, c24, k24⟩ := pl_ok (wd_at c 24 rfl) rfl h49
  have a25 := He.eqO_ok h50
  obtain ⟨_, _, _, _, _, _, _, _, _, l25, c25, k25⟩ := pl_ok (wd_at c 25 rfl) rfl h51
  have a26 := He.eqO_ok h52
  obtain ⟨_, _, _, _, _, _, _, _, _, l26, c26, k26⟩ := pl_ok (wd_at c 26 rfl) rfl h53
  have aE_BadLine := He.eqO_ok h54
  have iE_BadLine := He.eqO_ok h55
  obtain ⟨_, _, _, _, _, _, lE_BadLine, cE_BadLine⟩ := er_ok (wd_at c 27 rfl) rfl h56
  have bE_BadLine := h57
  have xE := h58
  have z_int := He.eqO_ok h59
  have z_len := He.eqO_ok h60
  have z_range := He.eqO_ok h61
  have z_list := He.eqO_ok h62
  have z_tuple := He.eqO_ok h63
  have z_dict := He.eqO_ok h64
  have z_isinstance := He.eqO_ok h65
  have z_all := He.eqO_ok h66
  have z_any := He.eqO_ok h67
  have z_repr := He.eqO_ok h68
  have z_str := He.eqO_ok h69
  have z_enumerate := He.eqO_ok h70
  have z_zip := He.eqO_ok h71
  have z_bool := He.eqO_ok h72
  have z_set := He.eqO_ok h73
  have z_sorted := He.eqO_ok h74
  obtain ⟨_, g_STRIKE⟩ := str_ok h75
  obtain ⟨_, g_LETTERS⟩ := str_ok h76
  obtain ⟨_, g_LONGEST_NAME⟩ := int_ok h77
  have g_LENGTHS := He.eqO_ok h78
  have kd_LENGTHS := kdi_tab (tab_at ct 0 rfl) h79
  have g_PIECE_WORDS := He.eqO_ok h80
  have kt_PIECE_WORDS := tup_ok h81
  obtain ⟨_, g_NOTHING⟩ := str_ok h82
  exact all_mk (l := PySem.Challenge.rw_longstrike_k33_weaving_lines_refused) (w := w) X G hfa a0 l0 c0 k0 a1 l1 c1 k1 a2 l2 c2 k2 a3 l3 c3 k3 a4 l4 c4 k4 a5 l5 c5 k5 a6 l6 c6 k6 a7 l7 c7 k7 a8 l8 c8 k8 a9 l9 c9 k9 a10 l10 c10 k10 a11 l11 c11 k11 a12 l12 c12 k12 a13 l13 c13 k13 a14 l14 c14 k14 a15 l15 c15 k15 a16 l16 c16 k16 a17 l17 c17 k17 a18 l18 c18 k18 a19 l19 c19 k19 a20 l20 c20 k20 a21 l21 c21 k21 a22 l22 c22 k22 a23 l23 c23 k23 a24 l24 c24 k24 a25 l25 c25 k25 a26 l26 c26 k26 aE_BadLine iE_BadLine lE_BadLine cE_BadLine bE_BadLine xE z_int z_len z_range z_list z_tuple z_dict z_isinstance z_all z_any z_repr z_str z_enumerate z_zip z_bool z_set z_sorted g_STRIKE g_LETTERS g_LONGEST_NAME g_LENGTHS kd_LENGTHS g_PIECE_WORDS kt_PIECE_WORDS g_NOTHING
end Ls
open PySem PySem.W PySem.Calls PyProof.Rows
theorem PySem.Challenge.cw_longstrike_k33_weaving_lines_refused_holds : PySem.Challenge.rw_longstrike_k33_weaving_lines_refused.Holds := by
  w_on; o_law
  refine HandSHeadRun.head_any (r := OpenLaw.row PySem.Challenge.rw_longstrike_k33_weaving_lines_refused) (q := Ls.lawView) (H := Ls.lawHook) (ob := Ls.lawObs) (M := 8000) (loose := Ls.lawNames) (d := HandSHeadRun.topDef (OpenLaw.row PySem.Challenge.rw_longstrike_k33_weaving_lines_refused).prog 39) (kwd := []) Ls.lawObs_eq
    (by kernel_rfl) (fun s => by kernel_rfl) Ls.law_run (by kernel_rfl) (by kernel_rfl) (by kernel_rfl) (by rfl) (by first | assumption | decide +kernel) (by decide +kernel) ⟨rfl, rfl, rfl, rfl, rfl, by decide +kernel⟩ ?hw ?hc
  case hw => w_witness2
  case hc =>
    refine Ls.walk_ofGE (l := PySem.Challenge.rw_longstrike_k33_weaving_lines_refused) (n := 63) (k := 8) (x := "_law_script") rfl (by decide) (by kernel_rfl) ⟨rfl, by decide, by decide⟩ ?F
    intro w mg fa h Y G hmg0
    obtain ⟨K, KX, hx, c, ct⟩ := Y
    have hmg : mg ("law" : PySem.Str) = some (.ref fa) := by
      have e : (HandSHeadRun.topDef (OpenLaw.row PySem.Challenge.rw_longstrike_k33_weaving_lines_refused).prog 39).name = ("law" : PySem.Str) := by kernel_rfl
      rw [← e]
      exact hmg0
    obtain ⟨fd, hb, hF⟩ := Ls.law_facts (w := w) KX G hmg hx c ct
    exact ⟨K, fd, AL.conc K (AL.aLaw K), KX, hb, fun H a ns hl hS => AL.law_want hl hS, hF⟩

import PyProof.Rows.All
import Wide.All
import OpenK.AllK
import Wide.FinOn
import HandS.ForMost
import HandS.IsInst
import HandS.Zip
import HandS.More
import HandS.TupAny
import HandS.TupLe
import HandS.Wide
import HandS.NoneIn
import HandS.Deep
import HandS.Star
import HandS.ForExc
import HandS.ExcIs
import HandS.ClsMeth
import HandS.MakeKw
import HandS.DictComp
import HandS.SortInts
import HandS.Defaults
import HandS.Conv
import HandS.MakeKwOnly
import HandS.Text
import HandS.Walk
import HandS.SetKeys
import HandS.SortRule
import HandS.SlotsOwn
import HandS.OwnEq
import PyProof.WalkInts
import HandS.SortKw
import HandS.SetBool
import HandS.Strs
import PyProof.DictUpdate
import PyProof.DictDisplay
import HandS.RaiseMore
import HandS.Style
import HandS.CallSlots
import HandS.Hot
import HandS.ExcCtx
import HandS.Head0
import HandS.Head1
import HandS.Head2
import HandS.HeadHook1
import HandS.HeadHook2
import HandS.HeadHook3
import PySem.Challenge.RW_neithertells_k47_bounds
set_option Elab.async false
set_option linter.all false
set_option maxRecDepth 100000
set_option maxHeartbeats 8000000
namespace My
open PySem L2
def top (i : Nat) : Stmt := PySem.Challenge.pw_neithertells_k47_bounds.main.body.getD i (.Pass ⟨0, 0, 0, 0⟩)
abbrev sFrom : Stmt := top 24
abbrev sInt : Stmt := top 25
abbrev sTerm : Stmt := top 26
abbrev sCond : Stmt := top 27
abbrev sPart : Stmt := top 28
abbrev sWord : Stmt := top 29
abbrev sRoles : Stmt := top 30
abbrev sPlain : Stmt := top 31
abbrev sOut : Stmt := top 32
abbrev sBodies : Stmt := top 33
abbrev sProg : Stmt := top 34

/-! ### the mathematics of programs -/
def inS (d : PyData) (zs : List Str) : Bool := match d with | .str z => zs.any (· == z) | _ => false
def intIn (d : PyData) (lo hi : Int) : Bool := match d with | .int i => decide (lo ≤ i) && decide (i ≤ hi) | _ => false
def intFrom (d : PyData) (lo : Int) : Bool := match d with | .int i => decide (lo ≤ i) | _ => false
def vars : List Str := ["a", "b"]
def signs : List Str := ["==", "!=", "<"]
def asks : List Str := ["+", "-", "="]
def kinds : List Str := ["teller", "collector"]
def isTerm (d : PyData) : Bool := inS d vars || intIn d 0 15
def isCond (d : PyData) : Bool := match d with
  | .tuple [x, y, z] => inS x vars && inS y signs && isTerm z
  | _ => false
def longest : Int := 1000000000000000000000000000000
def isPart (d : PyData) (r : Str) : Bool :=
  if r = "variable" then inS d vars else if r = "term" then isTerm d else if r = "sign" then inS d asks else if r = "steps" then intIn d 1 longest
  else if r = "answer" then intIn d 0 1 else intIn d 0 15

/-! ### rules -/
section
variable {X : Cx}
theorem depth_strs (zs : List Str) : PyData.depthAll (zs.map PyData.str) = 0 := by
  induction zs with
  | nil => rfl
  | cons z r ih => simp only [List.map_cons, PyData.depthAll, PyData.depth, ih]; rfl
theorem lay_strs : ∀ (zs : List Str), zs.all PyData.strOk = true → PyData.canLayAll0 (zs.map PyData.str) = true
  | [], _ => by simp [PyData.canLayAll0]
  | z :: r, h => by
    simp only [List.all_cons, Bool.and_eq_true] at h
    simp only [List.map_cons, PyData.canLayAll0, PyData.canLay0, Bool.and_eq_true]
    exact ⟨h.1, lay_strs r h.2⟩
theorem any_strs (d : PyData) : ∀ (zs : List Str), ((zs.map PyData.str).any fun y => PyData.eqv y d) = inS d zs
  | [] => by cases d <;> rfl
  | z :: r => by
    have ih := any_strs d r
    rw [List.map_cons, List.any_cons, ih]
    cases d <;> simp [inS, PyData.eqv]
theorem dp_strs {K : PySem.W.Frag} {H : Hp} : ∀ zs : List Str, DpAll K H (zs.map V.str) (zs.map PyData.str)
  | [] => .nil
  | z :: r => .cons (.str z) (dp_strs r)
def rInS (K : PySem.W.Frag) (neg : Bool) : R2 := fun x y H Q => ∃ (d : PyData) (zs : List Str) (p : Addr), y = .ref p ∧ Dp K H x d ∧ d.canLay0 = true ∧ SqT K H p (zs.map V.str) ∧ zs.all PyData.strOk = true ∧
  Q (.bl (if neg then !inS d zs else inS d zs)) H
theorem op_inS (hu : X.A.units + 65 < cLine) : OpR X (compareOp .In) (rInS X.K false) := by
  intro pins s σ H x y v u Q I rx ry h
  obtain ⟨d, zs, p, rfl, hd, ld, hz, oz, q⟩ := h
  obtain ⟨as, r1⟩ := Dp.reads I d x v hd rx
  obtain ⟨bs, r2⟩ := Dp.reads I (.tuple (zs.map PyData.str)) (.ref p) u (.tup hz (dp_strs zs)) ry
  refine SeqAt.in_tuple_reads r2 r1 (lay_strs zs oz) ld ?_ ⟨.bl _, H, I, rfl, ?_⟩
  · rw [depth_strs]
    have := Nat.min_le_left 0 d.depth
    omega
  · rw [any_strs]; exact q
theorem op_notInS (hu : X.A.units + 65 < cLine) : OpR X (compareOp .NotIn) (rInS X.K true) := by
  intro pins s σ H x y v u Q I rx ry h
  obtain ⟨d, zs, p, rfl, hd, ld, hz, oz, q⟩ := h
  obtain ⟨as, r1⟩ := Dp.reads I d x v hd rx
  obtain ⟨bs, r2⟩ := Dp.reads I (.tuple (zs.map PyData.str)) (.ref p) u (.tup hz (dp_strs zs)) ry
  refine SeqAt.notIn_tuple_reads r2 r1 (lay_strs zs oz) ld ?_ ⟨.bl _, H, I, rfl, ?_⟩
  · rw [depth_strs]
    have := Nat.min_le_left 0 d.depth
    omega
  · rw [any_strs]; exact q
end
section
variable {X : Cx}
theorem pe_gref {x : Str} {a : Addr} {pos : Pos} (hg : Gl X x) (hm : X.mg x = some (.ref a)) (hd : (x == ("__debug__" : Str)) = false := by decide) : PE X (.Name x pos) (tC (.ref a)) := pe_glob hg hm rfl hd
theorem pe_gint {x : Str} {i : Int} {t : Tok} {pos : Pos} (hg : Gl X x) (hm : X.mg x = some (.int i t)) (hd : (x == ("__debug__" : Str)) = false := by decide) : PE X (.Name x pos) (tC (.int i)) := pe_glob hg hm ⟨t, rfl⟩ hd
end
/-- the name of the type -/
def tyN : PyData → String
  | .none => "NoneType"
  | .bool _ => "bool"
  | .int _ => "int"
  | .str _ => "str"
  | .list _ => "list"
  | .tuple _ => "tuple"
  | .dict _ => "dict"
theorem dp_ty {K : PySem.W.Frag} {H : Hp} {v : V} {d : PyData} (h : Dp K H v d) : TyX K H v (.type (tyN d)) := by
  cases h with
  | non => exact .base .non
  | bl b => exact .base (.bl b)
  | int i => exact .base (.int i)
  | str x => exact .base (.str x)
  | lst hs _ =>
    rcases hs with (h | ⟨o, h⟩) | ⟨o, its, n, hk, hc, _⟩
    · exact .base (.lst h)
    · exact .base (.frz h)
    · exact .kList hk hc
  | tup hs _ =>
    rcases hs with (h | ⟨o, h⟩) | ⟨o, its, n, hk, hc, _⟩
    · exact .base (.tup h)
    · exact .fTuple h
    · exact .kTuple hk hc
def isT (d : PyData) (T : String) : Bool := match d with
  | .bool _ => T == "bool" || T == "int"
  | _ => tyN d == T
theorem kit_isT {K : PySem.W.Frag} (d : PyData) {T : String} (h : T = "int" ∨ T = "bool" ∨ T = "str" ∨ T = "tuple" ∨ T = "list") (nd : ∀ k, d ≠ .dict k) : PySem.W.kitOne K (.type (tyN d)) (.type T) = some (isT d T) := by
  refine kit_ty ?_
  rcases h with rfl | rfl | rfl | rfl | rfl <;> cases d <;> first | (exact absurd rfl (nd _)) | (simp only [tyN, isT]; decide +kernel)

/-! ### what the module's names hold -/
structure Gs (K : PySem.W.Frag) (mg : Str → Option Value) where
  isi : mg "isinstance" = none
  int : mg "int" = none
  bool : mg "bool" = none
  str : mg "str" = none
  tup : mg "tuple" = none
  len : mg "len" = none
  zip : mg "zip" = none
  all : mg "all" = none
  aV : Addr
  mV : mg "VARIABLES" = some (.ref aV)
  kV : ∀ H, SqT K H aV (vars.map V.str)
  aC : Addr
  mC : mg "CONDITION_SIGNS" = some (.ref aC)
  kC : ∀ H, SqT K H aC (signs.map V.str)
  aA : Addr
  mA : mg "ASK_SIGNS" = some (.ref aA)
  kA : ∀ H, SqT K H aA (asks.map V.str)
  aK : Addr
  mK : mg "KINDS" = some (.ref aK)
  kK : ∀ H, SqT K H aK (kinds.map V.str)
  tG : Tok
  mG : mg "GREATEST_VALUE" = some (.int 15 tG)
  tL : Tok
  mL : mg "LONGEST_WAIT" = some (.int longest tL)
  tS : Tok
  mS : mg "MOST_STATEMENTS" = some (.int 24 tS)
  tD : Tok
  mD : mg "MOST_DEPTH" = some (.int 4 tD)

/-! ### promises -/
abbrev Lay (d : PyData) : Prop := d.canLay0 = true
def spInt (K : PySem.W.Frag) : Sp := fun vs H Q _ => ∃ (v : V) (d : PyData) (lo hi : Int), vs = [v, .int lo, .int hi] ∧ Dp K H v d ∧ Q (.bl (intIn d lo hi)) H
def spFrom (K : PySem.W.Frag) : Sp := fun vs H Q _ => ∃ (v : V) (d : PyData) (lo : Int), vs = [v, .int lo] ∧ Dp K H v d ∧ Q (.bl (intFrom d lo)) H
def sp1 (f : PyData → Bool) (K : PySem.W.Frag) : Sp := fun vs H Q _ => ∃ (v : V) (d : PyData), vs = [v] ∧ Dp K H v d ∧ Lay d ∧ Q (.bl (f d)) H
theorem dp_nd {K : PySem.W.Frag} {H : Hp} {v : V} {d : PyData} (h : Dp K H v d) : ∀ k, d ≠ .dict k := by
  intro k e
  subst e
  cases h
section
variable {P : Program} {w : World} {K : PySem.W.Frag} {mg : Str → Option Value} {base : Heap}
theorem scFrom : FnScope ["thing", "least"] ["thing", "least"] (defScope sFrom) := ⟨rfl, rfl, rfl, by decide +kernel, rfl, by decide +kernel, by decide +kernel⟩
theorem ok_from {f : Addr} {fd : FuncData} (F : Fun K "is_integer_from" "is_integer_from" sFrom f fd) (T : Gs K mg) : FnOk P w K mg base CX0 1 f fd ["thing", "least"] (spFrom K) := by
  refine F.ok scFrom (fun vs H Q E h => ?_) (fun cdv A outer s H vs Q E hr h => ?_)
  · obtain ⟨v, d, lo, rfl, _⟩ := h
    rfl
  obtain ⟨v, d, lo, rfl, hd, q⟩ := h
  refine ⟨_, pss_one (ps_ret (pe_and (pe_callB call_isi (by rfl) T.isi (by decide +kernel) (pa_cons (pv 0) (pa_cons (pe_bltn (v := .ty "int") (by rfl) T.int (by decide +kernel) rfl) pa_nil)))
    (pe_and (pe_not (pe_callB call_isi (by rfl) T.isi (by decide +kernel) (pa_cons (pv 0) (pa_cons (pe_bltn (v := .ty "bool") (by rfl) T.bool (by decide +kernel) rfl) pa_nil))))
      (pe_one (pe_cmpR op_le (pv 1) (pv 0) (by rfl)))))), ?_⟩
  refine ⟨_, rfl, v, .ty "int", _, _, _, rfl, .ty _, dp_ty hd, kit_isT d (by simp) (dp_nd hd), _, rfl, ?_⟩
  cases hd with
  | int i =>
    refine ite2 (fun _ => ?_) (fun c => absurd (by rfl) c)
    refine ⟨_, rfl, _, .ty "bool", _, _, _, rfl, .ty _, dp_ty (.int i), kit_isT (.int i) (by simp) (fun _ e => nomatch e), _, rfl, _, rfl, ?_⟩
    refine ite2 (fun _ => ?_) (fun c => absurd (by rfl) c)
    exact ⟨_, rfl, _, rfl, _, _, rfl, rfl, q⟩
  | bl b =>
    refine ite2 (fun _ => ?_) (fun c => absurd (by rfl) c)
    refine ⟨_, rfl, _, .ty "bool", _, _, _, rfl, .ty _, dp_ty (.bl b), kit_isT (.bool b) (by simp) (fun _ e => nomatch e), _, rfl, _, rfl, ?_⟩
    exact ite2 (fun c => absurd (show false = true from c) (by decide)) (fun _ => q)
  | non => exact ite2 (fun c => absurd (show false = true from c) (by decide)) (fun _ => q)
  | str x => exact ite2 (fun c => absurd (show false = true from c) (by decide)) (fun _ => q)
  | lst _ _ => exact ite2 (fun c => absurd (show false = true from c) (by decide)) (fun _ => q)
  | tup _ _ => exact ite2 (fun c => absurd (show false = true from c) (by decide)) (fun _ => q)
structure Cal (P : Program) (w : World) (K : PySem.W.Frag) (mg : Str → Option Value) (base : Heap) (k : Nat) (x : Str) (ps : List Str) (sp : Sp) where
  f : Addr
  fd : FuncData
  G : FnOk P w K mg base CX0 k f fd ps sp
  b : Binds K fd ps []
  kp : PySem.W.keepIn K (.ref f) = true
  m : mg x = some (.ref f)
theorem scInt : FnScope ["thing", "least", "greatest"] ["thing", "least", "greatest"] (defScope sInt) := ⟨rfl, rfl, rfl, by decide +kernel, rfl, by decide +kernel, by decide +kernel⟩
theorem ok_int {f : Addr} {fd : FuncData} (F : Fun K "is_integer_from_to" "is_integer_from_to" sInt f fd) (CF : Cal P w K mg base 1 "is_integer_from" ["thing", "least"] (spFrom K)) : FnOk P w K mg base CX0 2 f fd ["thing", "least", "greatest"] (spInt K) := by
  refine F.ok scInt (fun vs H Q E h => ?_) (fun cdv A outer s H vs Q E hr h => ?_)
  · obtain ⟨v, d, lo, hi, rfl, _⟩ := h
    rfl
  obtain ⟨v, d, lo, hi, rfl, hd, q⟩ := h
  refine ⟨_, pss_one (ps_ret (pe_and (pe_call CF.G hr rfl CF.m CF.kp CF.b .nil pass0 (pa_cons (pv 0) (pa_cons (pv 1) pa_nil))) (pe_one (pe_cmpR op_le (pv 0) (pv 2) (by rfl))))), ?_⟩
  refine ⟨_, rfl, _, rfl, v, d, lo, rfl, hd, _, rfl, ?_⟩
  cases hd with
  | int i =>
    by_cases h1 : lo ≤ i
    · have e : intIn (.int i) lo hi = decide (i ≤ hi) := by simp [intIn, h1]
      rw [e] at q
      refine ite2 (fun _ => ⟨_, rfl, _, rfl, _, _, rfl, rfl, q⟩) (fun c => absurd (show decide (lo ≤ i) = true from decide_eq_true h1) c)
    · have e : intIn (.int i) lo hi = false := by simp [intIn, h1]
      rw [e] at q
      have e2 : intFrom (.int i) lo = false := decide_eq_false h1
      rw [e2]
      exact iteF q
  | bl b => exact ite2 (fun c => absurd (show false = true from c) (by decide)) (fun _ => q)
  | non => exact ite2 (fun c => absurd (show false = true from c) (by decide)) (fun _ => q)
  | str x => exact ite2 (fun c => absurd (show false = true from c) (by decide)) (fun _ => q)
  | lst _ _ => exact ite2 (fun c => absurd (show false = true from c) (by decide)) (fun _ => q)
  | tup _ _ => exact ite2 (fun c => absurd (show false = true from c) (by decide)) (fun _ => q)
end
theorem hu65 {k : Nat} {A : Around} (hr : Room k A) : A.units + 65 < cLine := by have := hr.un; omega
theorem dp_tup_inv {K : PySem.W.Frag} {H : Hp} {v : V} {ds : List PyData} (h : Dp K H v (.tuple ds)) : ∃ a xs, v = .ref a ∧ SqT K H a xs ∧ DpAll K H xs ds := by
  cases h with
  | tup hs ha => exact ⟨_, _, rfl, hs, ha⟩
theorem dpAll_len {K : PySem.W.Frag} {H : Hp} : ∀ {xs : List V} {ds : List PyData}, DpAll K H xs ds → xs.length = ds.length
  | _, _, .nil => rfl
  | _, _, .cons _ t => by rw [List.length_cons, List.length_cons, dpAll_len t]
theorem dpAll_get {K : PySem.W.Frag} {H : Hp} : ∀ {xs : List V} {ds : List PyData} {i : Nat} {x : V}, DpAll K H xs ds → xs[i]? = some x → ∃ d, ds[i]? = some d ∧ Dp K H x d
  | _, _, 0, _, .cons h _, e => by
    cases e
    exact ⟨_, rfl, h⟩
  | _, _, i + 1, _, .cons _ t, e => dpAll_get (i := i) t e
theorem lay_mem : ∀ {ds : List PyData}, PyData.canLayAll0 ds = true → ∀ d ∈ ds, Lay d
  | x :: r, h, d, m => by
    simp only [PyData.canLayAll0, Bool.and_eq_true] at h
    rcases List.mem_cons.mp m with e | m
    · rw [e]; exact h.1
    · exact lay_mem h.2 d m
theorem lay_tup {ds : List PyData} (h : Lay (.tuple ds)) : PyData.canLayAll0 ds = true := by
  unfold Lay at h
  simpa only [PyData.canLay0] using h
theorem isT_tup {d : PyData} (h : isT d "tuple" = true) : ∃ ds, d = .tuple ds := by
  cases d with
  | tuple ds => exact ⟨ds, rfl⟩
  | _ => simp [isT, tyN] at h
theorem isT_str {d : PyData} (h : isT d "str" = true) : ∃ z, d = .str z := by
  cases d with
  | str ds => exact ⟨ds, rfl⟩
  | _ => simp [isT, tyN] at h
theorem same_new {H : Hp} {p : Addr} (h : H p = none) (o : HO) : Same H (upd H p o) := fun b u q => by rw [upd_ne (ne_of_none q h)]; exact q
theorem Same.tup {K : PySem.W.Frag} {H H' : Hp} {a : Addr} {xs : List V} (e : Same H H') (h : SqT K H a xs) : SqT K H' a xs := by
  rcases h with (h | ⟨o, h⟩) | h
  · exact .inl (.inl (e _ _ h))
  · exact .inl (.inr ⟨o, e _ _ h⟩)
  · exact .inr h
mutual
theorem dp_mono {K : PySem.W.Frag} {H H' : Hp} (e : Same H H') : ∀ (d : PyData) (v : V), Dp K H v d → Dp K H' v d
  | .none, _, h => by cases h; exact .non
  | .bool b, _, h => by cases h; exact .bl b
  | .int i, _, h => by cases h; exact .int i
  | .str x, _, h => by cases h; exact .str x
  | .list ds, _, h => by
    cases h with
    | lst hs ha => exact .lst (e.seq hs) (dpAll_mono e ds _ ha)
  | .tuple ds, _, h => by
    cases h with
    | tup hs ha => exact .tup (Same.tup e hs) (dpAll_mono e ds _ ha)
  | .dict _, _, h => by cases h
theorem dpAll_mono {K : PySem.W.Frag} {H H' : Hp} (e : Same H H') : ∀ (ds : List PyData) (vs : List V), DpAll K H vs ds → DpAll K H' vs ds
  | [], _, h => by cases h; exact .nil
  | d :: ds, _, h => by
    cases h with
    | cons hd ht => exact .cons (dp_mono e d _ hd) (dpAll_mono e ds _ ht)
end
def wordOf : PyData → Option Str
  | .tuple (.str z :: _) => some z
  | _ => none
def wV : Option Str → V
  | some z => .str z
  | none => .non
def spPart (K : PySem.W.Frag) : Sp := fun vs H Q _ => ∃ (v : V) (d : PyData) (r : Str), vs = [v, .str r] ∧ Dp K H v d ∧ Lay d ∧ Q (.bl (isPart d r)) H
def spWord (K : PySem.W.Frag) : Sp := fun vs H Q _ => ∃ (v : V) (d : PyData), vs = [v] ∧ Dp K H v d ∧ Q (wV (wordOf d)) H
section
variable {P : Program} {w : World} {K : PySem.W.Frag} {mg : Str → Option Value} {base : Heap}
theorem scTerm : FnScope ["thing"] ["thing"] (defScope sTerm) := ⟨rfl, rfl, rfl, by decide +kernel, rfl, by decide +kernel, by decide +kernel⟩
theorem ok_term {f : Addr} {fd : FuncData} (F : Fun K "is_term" "is_term" sTerm f fd) (T : Gs K mg) (CI : Cal P w K mg base 2 "is_integer_from_to" ["thing", "least", "greatest"] (spInt K)) :
    FnOk P w K mg base CX0 3 f fd ["thing"] (sp1 isTerm K) := by
  refine F.ok scTerm (fun vs H Q E h => ?_) (fun cdv A outer s H vs Q E hr h => ?_)
  · obtain ⟨v, d, rfl, _⟩ := h
    rfl
  obtain ⟨v, d, rfl, hd, ld, q⟩ := h
  refine ⟨_, pss_one (ps_ret (pe_or (pe_cmpR (op_inS (hu65 hr)) (pv 0) (pe_gref rfl T.mV) (by rfl)) (pe_one (pe_call CI.G hr rfl CI.m CI.kp CI.b .nil pass0 (pa_cons (pv 0) (pa_cons pe_int (pa_cons (pe_gint rfl T.mG) pa_nil))))))), ?_⟩
  refine ⟨_, rfl, d, vars, T.aV, rfl, hd, ld, T.kV _, by decide +kernel, _, rfl, ?_⟩
  refine ite2 (fun c => ?_) (fun c => ?_)
  · have e : isTerm d = true := by unfold isTerm; rw [show inS d vars = true from c]; rfl
    rw [e] at q
    exact q
  · refine ⟨_, rfl, v, d, 0, 15, rfl, hd, ?_⟩
    have e : isTerm d = intIn d 0 15 := by unfold isTerm; rw [show inS d vars = false from Bool.eq_false_iff.mpr c]; rfl
    rw [e] at q
    exact q
theorem scCond : FnScope ["thing", "variable", "sign", "term"] ["thing"] (defScope sCond) := ⟨rfl, rfl, rfl, by decide +kernel, rfl, by decide +kernel, by decide +kernel⟩
theorem ok_cond {f : Addr} {fd : FuncData} (F : Fun K "is_condition" "is_condition" sCond f fd) (T : Gs K mg) (CT : Cal P w K mg base 3 "is_term" ["thing"] (sp1 isTerm K)) :
    FnOk P w K mg base CX0 4 f fd ["thing"] (sp1 isCond K) := by
  refine F.ok scCond (fun vs H Q E h => ?_) (fun cdv A outer s H vs Q E hr h => ?_)
  · obtain ⟨v, d, rfl, _⟩ := h
    rfl
  obtain ⟨v, d, rfl, hd, ld, q⟩ := h
  refine ⟨_, pss_cons (ps_if (PW.pt (pw_or (pt_not (pt_val (pe_callB call_isi (by rfl) T.isi (by decide +kernel) (pa_cons (pv 0) (pa_cons (pe_bltn (v := .ty "tuple") (by rfl) T.tup (by decide +kernel) rfl) pa_nil)))))
      (pw_or1 (pt_cmpR op_ne (pe_callB call_len_seq (by rfl) T.len PySem.boot_len (pa_cons (pv 0) pa_nil)) pe_int (nomark _))))) (pss_one (ps_ret pe_bl)) pss_nil)
    (pss_cons (ps_asg (pv 0) (pg_tup (by rfl) (pgs_cons (pg_name (i := 1) scCond.nd rfl (.inl rfl)) (pgs_cons (pg_name (i := 2) scCond.nd rfl (.inl rfl)) (pgs_cons (pg_name (i := 3) scCond.nd rfl (.inl rfl)) pgs_nil)))))
    (pss_one (ps_ret (pe_and (pe_cmpR (op_inS (hu65 hr)) (pv 1) (pe_gref rfl T.mV) (by rfl)) (pe_and (pe_cmpR (op_inS (hu65 hr)) (pv 2) (pe_gref rfl T.mC) (by rfl))
      (pe_one (pe_call CT.G hr rfl CT.m CT.kp CT.b .nil pass0 (pa_cons (pv 3) pa_nil)))))))), ?_⟩
  refine ⟨_, rfl, v, .ty "tuple", _, _, _, rfl, .ty _, dp_ty hd, kit_isT d (by simp) (dp_nd hd), _, rfl, ?_⟩
  cases ht : isT d "tuple" with
  | false =>
    refine iteT (iteT ?_)
    have e : isCond d = false := by cases d <;> first | rfl | (simp [isT, tyN] at ht)
    rw [e] at q
    exact q
  | true =>
    obtain ⟨ds, rfl⟩ := isT_tup ht
    obtain ⟨a, xs, rfl, hs, ha⟩ := dp_tup_inv hd
    have hl := dpAll_len ha
    refine iteF ⟨_, rfl, a, xs, rfl, .inr hs, rfl, _, rfl, ?_⟩
    by_cases h3 : ds.length = 3
    · have c : V.int ((xs.length : Nat) : Int) = V.int 3 := by rw [hl, h3]; rfl
      refine iteNS c ?_
      cases ha with
      | nil => cases h3
      | cons h0 t1 =>
        cases t1 with
        | nil => cases h3
        | cons h1 t2 =>
          cases t2 with
          | nil => cases h3
          | cons h2 t3 =>
            cases t3 with
            | cons _ _ => simp at h3
            | nil =>
              rename_i x0 d0 x1 d1 x2 d2
              have lm := lay_mem (lay_tup ld)
              refine ⟨_, rfl, a, _, rfl, hs, rfl, _, _, rfl, _, _, rfl, _, _, rfl, rfl, ?_⟩
              refine ⟨_, rfl, d0, vars, T.aV, rfl, h0, lm _ (by simp), T.kV _, by decide +kernel, _, rfl, ?_⟩
              have e : isCond (.tuple [d0, d1, d2]) = (inS d0 vars && inS d1 signs && isTerm d2) := rfl
              rw [e] at q
              cases c1 : inS d0 vars with
              | false => rw [c1] at q; exact iteF q
              | true =>
                refine iteT ⟨_, rfl, d1, signs, T.aC, rfl, h1, lm _ (by simp), T.kC _, by decide +kernel, _, rfl, ?_⟩
                cases c2 : inS d1 signs with
                | false => rw [c1, c2] at q; exact iteF q
                | true =>
                  rw [c1, c2] at q
                  exact iteT ⟨_, rfl, _, d2, rfl, h2, lm _ (by simp), q⟩
    · refine ite2 (fun _ => ?_) (fun c => absurd ?_ c)
      · have e : isCond (.tuple ds) = false := by
          match ds, h3 with
          | [], _ => rfl
          | [_], _ => rfl
          | [_, _], _ => rfl
          | [_, _, _], h => exact absurd rfl h
          | _ :: _ :: _ :: _ :: _, _ => rfl
        rw [e] at q
        exact q
      · rw [Bool.not_eq_true', decide_eq_false_iff_not]
        intro z
        have z' : ((xs.length : Nat) : Int) = 3 := by injection z
        omega
end
section
variable {P : Program} {w : World} {K : PySem.W.Frag} {mg : Str → Option Value} {base : Heap}
theorem scPart : FnScope ["thing", "role"] ["thing", "role"] (defScope sPart) := ⟨rfl, rfl, rfl, by decide +kernel, rfl, by decide +kernel, by decide +kernel⟩
theorem ok_part {f : Addr} {fd : FuncData} (F : Fun K "is_part" "is_part" sPart f fd) (T : Gs K mg) (CI : Cal P w K mg base 2 "is_integer_from_to" ["thing", "least", "greatest"] (spInt K)) (CT : Cal P w K mg base 3 "is_term" ["thing"] (sp1 isTerm K)) :
    FnOk P w K mg base CX0 4 f fd ["thing", "role"] (spPart K) := by
  refine F.ok scPart (fun vs H Q E h => ?_) (fun cdv A outer s H vs Q E hr h => ?_)
  · obtain ⟨v, d, r, rfl, _⟩ := h
    rfl
  obtain ⟨v, d, r, rfl, hd, ld, q⟩ := h
  have hr1 : Room 2 _ := hr.mono (by decide)
  refine ⟨_, pss_cons (ps_if (pt_cmpR op_eq (pv 1) pe_str (nomark _)) (pss_one (ps_ret (pe_cmpR (op_inS (hu65 hr)) (pv 0) (pe_gref rfl T.mV) (by rfl)))) pss_nil)
    (pss_cons (ps_if (pt_cmpR op_eq (pv 1) pe_str (nomark _)) (pss_one (ps_ret (pe_call CT.G hr rfl CT.m CT.kp CT.b .nil pass0 (pa_cons (pv 0) pa_nil)))) pss_nil)
    (pss_cons (ps_if (pt_cmpR op_eq (pv 1) pe_str (nomark _)) (pss_one (ps_ret (pe_cmpR (op_inS (hu65 hr)) (pv 0) (pe_gref rfl T.mA) (by rfl)))) pss_nil)
    (pss_cons (ps_if (pt_cmpR op_eq (pv 1) pe_str (nomark _)) (pss_one (ps_ret (pe_call CI.G hr1 rfl CI.m CI.kp CI.b .nil pass0 (pa_cons (pv 0) (pa_cons pe_int (pa_cons (pe_gint rfl T.mL) pa_nil)))))) pss_nil)
    (pss_cons (ps_if (pt_cmpR op_eq (pv 1) pe_str (nomark _)) (pss_one (ps_ret (pe_call CI.G hr1 rfl CI.m CI.kp CI.b .nil pass0 (pa_cons (pv 0) (pa_cons pe_int (pa_cons pe_int pa_nil)))))) pss_nil)
    (pss_one (ps_ret (pe_call CI.G hr1 rfl CI.m CI.kp CI.b .nil pass0 (pa_cons (pv 0) (pa_cons pe_int (pa_cons (pe_gint rfl T.mG) pa_nil)))))))))), ?_⟩
  have ne : ∀ {z : Str}, ¬ decide (V.str r = V.str z) = true → ¬ r = z := fun c e => c (decide_eq_true (by rw [e]))
  have eq : ∀ {z : Str}, decide (V.str r = V.str z) = true → r = z := fun c => by
    have c' := of_decide_eq_true c
    injection c'
  unfold isPart at q
  refine ⟨_, rfl, rfl, _, rfl, ite2 (fun c => ?_) (fun c => ?_)⟩
  · rw [if_pos (eq c)] at q
    exact ⟨_, rfl, d, vars, T.aV, rfl, hd, ld, T.kV _, by decide +kernel, q⟩
  rw [if_neg (ne c)] at q
  refine ⟨_, rfl, rfl, _, rfl, ite2 (fun c => ?_) (fun c => ?_)⟩
  · rw [if_pos (eq c)] at q
    exact ⟨_, rfl, v, d, rfl, hd, ld, q⟩
  rw [if_neg (ne c)] at q
  refine ⟨_, rfl, rfl, _, rfl, ite2 (fun c => ?_) (fun c => ?_)⟩
  · rw [if_pos (eq c)] at q
    exact ⟨_, rfl, d, asks, T.aA, rfl, hd, ld, T.kA _, by decide +kernel, q⟩
  rw [if_neg (ne c)] at q
  refine ⟨_, rfl, rfl, _, rfl, ite2 (fun c => ?_) (fun c => ?_)⟩
  · rw [if_pos (eq c)] at q
    exact ⟨_, rfl, v, d, _, _, rfl, hd, q⟩
  rw [if_neg (ne c)] at q
  refine ⟨_, rfl, rfl, _, rfl, ite2 (fun c => ?_) (fun c => ?_)⟩
  · rw [if_pos (eq c)] at q
    exact ⟨_, rfl, v, d, _, _, rfl, hd, q⟩
  rw [if_neg (ne c)] at q
  exact ⟨_, rfl, v, d, _, _, rfl, hd, q⟩
theorem scWord : FnScope ["thing"] ["thing"] (defScope sWord) := ⟨rfl, rfl, rfl, by decide +kernel, rfl, by decide +kernel, by decide +kernel⟩
theorem ok_word {f : Addr} {fd : FuncData} (F : Fun K "word_of" "word_of" sWord f fd) (T : Gs K mg) : FnOk P w K mg base CX0 1 f fd ["thing"] (spWord K) := by
  refine F.ok scWord (fun vs H Q E h => ?_) (fun cdv A outer s H vs Q E hr h => ?_)
  · obtain ⟨v, d, rfl, _⟩ := h
    rfl
  obtain ⟨v, d, rfl, hd, q⟩ := h
  refine ⟨_, pss_cons (ps_if (PW.pt (pw_and (pt_val (pe_callB call_isi (by rfl) T.isi (by decide +kernel) (pa_cons (pv 0) (pa_cons (pe_bltn (v := .ty "tuple") (by rfl) T.tup (by decide +kernel) rfl) pa_nil))))
      (pw_and (pt_cmpR op_gt (pe_callB call_len_seq (by rfl) T.len PySem.boot_len (pa_cons (pv 0) pa_nil)) pe_int (nomark _))
      (pw_and1 (pt_val (pe_callB call_isi (by rfl) T.isi (by decide +kernel) (pa_cons (pe_ix ix_tup (pv 0) pe_int (fun _ _ => rfl)) (pa_cons (pe_bltn (v := .ty "str") (by rfl) T.str (by decide +kernel) rfl) pa_nil))))))))
      (pss_one (ps_ret (pe_ix ix_tup (pv 0) pe_int (fun _ _ => rfl)))) pss_nil) (pss_one (ps_ret pe_non)), ?_⟩
  refine ⟨_, rfl, v, .ty "tuple", _, _, _, rfl, .ty _, dp_ty hd, kit_isT d (by simp) (dp_nd hd), _, rfl, ?_⟩
  cases ht : isT d "tuple" with
  | false =>
    refine iteF (iteF ?_)
    have e : wordOf d = none := by cases d <;> first | rfl | (simp [isT, tyN] at ht)
    rw [e] at q
    exact q
  | true =>
    obtain ⟨ds, rfl⟩ := isT_tup ht
    obtain ⟨a, xs, rfl, hs, ha⟩ := dp_tup_inv hd
    refine iteT ⟨_, rfl, a, xs, rfl, .inr hs, _, _, rfl, rfl, _, rfl, ?_⟩
    cases ha with
    | nil => exact iteF (iteF q)
    | cons h0 t =>
      rename_i x0 xr d0 dr
      have c : decide ((0 : Int) < (((x0 :: xr).length : Nat) : Int)) = true := decide_eq_true (by rw [List.length_cons]; omega)
      rw [c]
      refine iteT ⟨_, rfl, a, _, _, _, rfl, rfl, hs, atI_nat (j := 0) rfl, x0, .ty "str", _, _, _, rfl, .ty _, dp_ty h0, kit_isT d0 (by simp) (dp_nd h0), _, rfl, ?_⟩
      cases hz : isT d0 "str" with
      | false =>
        refine iteF ?_
        have e : wordOf (.tuple (d0 :: dr)) = none := by cases d0 <;> first | rfl | (simp [isT, tyN] at hz)
        rw [e] at q
        exact q
      | true =>
        obtain ⟨z, rfl⟩ := isT_str hz
        cases h0
        exact iteT ⟨_, rfl, a, _, _, _, rfl, rfl, hs, atI_nat (j := 0) rfl, q⟩
end
end My

namespace My
open PySem L2 PyProof.Rows
/-! ### a written dict with text keys, asked by a text or by None -/
inductive Ents : List DictEntry → List (Str × V) → Prop
  | nil : Ents [] []
  | cons {h : Int} {x : Str} {t : Tok} {u : Value} {v : V} {r : List DictEntry} {rs : List (Str × V)} : RelV v u → Ents r rs → Ents (⟨h, .str x t, u⟩ :: r) ((x, v) :: rs)
def lookT (tab : List (Str × V)) (z : Str) : Option V := (tab.find? fun p => p.1 == z).map (·.2)
theorem ents_find : ∀ {l : List DictEntry} {tab : List (Str × V)}, Ents l tab → ∀ z : Str,
    (∃ (e : DictEntry) (v : V), l.find? (fun d => d.key.isStr z) = some e ∧ lookT tab z = some v ∧ RelV v e.val) ∨ (l.find? (fun d => d.key.isStr z) = none ∧ lookT tab z = none)
  | _, _, .nil, z => .inr ⟨rfl, rfl⟩
  | _, _, .cons (x := x) (h := h) (t := t) (u := u) (v := v) (r := l0) (rs := rs) rv r, z => by
    have ih := ents_find r z
    by_cases c : (x == z) = true
    · refine .inl ⟨⟨h, .str x t, u⟩, v, ?_, ?_, rv⟩
      · rw [List.find?_cons_of_pos]
        exact c
      · unfold lookT
        rw [List.find?_cons_of_pos (by exact c)]
        rfl
    · have c1 : List.find? (fun d : DictEntry => d.key.isStr z) (⟨h, .str x t, u⟩ :: l0) = l0.find? (fun d : DictEntry => d.key.isStr z) := List.find?_cons_of_neg (by exact c)
      have c2 : lookT ((x, v) :: rs) z = lookT rs z := by
        unfold lookT
        rw [List.find?_cons_of_neg (by exact c)]
      rw [c2]
      rcases ih with ⟨e, v', h1, h2, h3⟩ | ⟨h1, h2⟩
      · exact .inl ⟨e, v', c1.trans h1, h2, h3⟩
      · exact .inr ⟨c1.trans h1, h2⟩
structure KTab (K : PySem.W.Frag) (w : World) (d : Addr) (tab : List (Str × V)) : Prop where
  ex : ∃ es n, K.lookup d = some ⟨.type "dict", none, .dict es n, #[]⟩ ∧ PySem.W.KeysLit w.params es.toList ∧ Ents es.toList tab
  low : (d == sysModules) = false
theorem findBy_tab {es : Array DictEntry} {tab : List (Str × V)} (E : Ents es.toList tab) (z : Str) :
    (∃ u v, findBy Value.isStrOf es z = some u ∧ lookT tab z = some v ∧ RelV v u) ∨ (findBy Value.isStrOf es z = none ∧ lookT tab z = none) := by
  obtain ⟨l⟩ := es
  have q : (fun d : DictEntry => Value.isStrOf z d.key) = fun d => d.key.isStr z := funext fun d => (PySem.W.isStr_of z d.key).symm
  unfold findBy
  rw [List.find?_toArray, q]
  rcases ents_find E z with ⟨e, v, h1, h2, h3⟩ | ⟨h1, h2⟩
  · exact .inl ⟨e.val, v, by rw [show List.find? (fun d : DictEntry => d.key.isStr z) l = some e from h1]; rfl, h2, h3⟩
  · exact .inr ⟨by rw [show List.find? (fun d : DictEntry => d.key.isStr z) l = none from h1]; rfl, h2⟩
theorem none_mapK {P : Program} {w : World} {K : PySem.W.Frag} {h : Heap} {a : Addr} {es : Array DictEntry} {n : Nat} (X : K.In h) (hl : K.lookup a = some ⟨.type "dict", none, .dict es n, #[]⟩) (hk : PySem.W.KeysLit w.params es.toList) :
    ∃ f, h.MapOf (noneKind P w) a f ∧ f none = none := by
  refine ⟨fun k => findBy (noneKind P w).is es k, ⟨_, es, n, X _ _ hl, ⟨rfl, rfl, rfl⟩, rfl, fun e he => ?_, fun k => rfl⟩, ?_⟩
  · obtain ⟨x, t, e1, e2⟩ := hk.all e (Array.mem_toList_iff.mpr he)
    refine ⟨some (.inr x), ?_, e2⟩
    rw [e1]
    exact strKind_is P w x t
  · have q : (es.find? fun e => nkIs none e.key) = none := by
      rw [Array.find?_eq_none]
      intro e he hq
      obtain ⟨x, t, e1, _⟩ := hk.all e (Array.mem_toList_iff.mpr he)
      rw [e1] at hq
      exact nomatch (show false = true from hq)
    show (es.find? fun e => nkIs none e.key).map (·.val) = none
    rw [q] <;> rfl
def getT (tab : List (Str × V)) (wd : Option Str) : Option V := wd.bind (lookT tab)
section
variable {X : Cx}
def rInK (K : PySem.W.Frag) (w : World) (neg : Bool) : R2 := fun x y H Q => ∃ (d : Addr) (tab : List (Str × V)) (wd : Option Str), y = .ref d ∧ KTab K w d tab ∧ x = wV wd ∧ Q (.bl (if neg then !(getT tab wd).isSome else (getT tab wd).isSome)) H
theorem op_inK : OpR X (compareOp .In) (rInK X.K X.w false) := by
  intro pins s σ H x y v u Q I rx ry h
  obtain ⟨d, tab, wd, rfl, ⟨⟨es, n, hl, hk, he⟩, low⟩, rfl, q⟩ := h
  cases ry
  cases wd with
  | none =>
    cases rx
    obtain ⟨f, hm, hf⟩ := none_mapK (P := X.prog) (w := X.w) I.kIn hl hk
    refine wpAny_in_of (show (noneKind X.prog X.w).is none .none = true from rfl) low hm ?_
    rw [hf]
    exact ⟨.bl _, H, I.tok _, rfl, q⟩
  | some z =>
    obtain ⟨t, rfl⟩ := rx
    refine wpAny_in_of (PySem.strKind_is X.prog X.w z t) low (PySem.W.mapOf_K (prog := X.prog) I.kIn hl hk) ?_
    rcases findBy_tab he z with ⟨u, v, h1, h2, h3⟩ | ⟨h1, h2⟩
    · rw [h1]
      refine ⟨.bl true, H, I.tok _, rfl, ?_⟩
      have e : (getT tab (some z)).isSome = true := by show (lookT tab z).isSome = true; rw [h2]; rfl
      rw [e] at q
      exact q
    · rw [h1]
      refine ⟨.bl false, H, I.tok _, rfl, ?_⟩
      have e : (getT tab (some z)).isSome = false := by show (lookT tab z).isSome = false; rw [h2]; rfl
      rw [e] at q
      exact q
theorem ktab_ix {K : PySem.W.Frag} {w : World} {d : Addr} {tab : List (Str × V)} {z : Str} {v : V} (T : KTab K w d tab) (h : lookT tab z = some v) : KDct K w d z v := by
  obtain ⟨⟨es, n, hl, hk, he⟩, low⟩ := T
  rcases ents_find he z with ⟨e, v', h1, h2, h3⟩ | ⟨h1, h2⟩
  · rw [h] at h2
    cases h2
    refine ⟨es, n, e.val, hl, hk, ?_, h3⟩
    unfold PySem.W.nsIn
    rw [hl]
    dsimp only
    rw [h1]
  · rw [h] at h2
    cases h2
def tGetK (K : PySem.W.Frag) (w : World) (to : TE) (t : TA) : TE := fun σ H Q => to σ H fun x H1 => ∃ (d : Addr) (tab : List (Str × V)), x = .ref d ∧ KTab K w d tab ∧ t σ H1 fun ys H2 => ∃ wd : Option Str, ys = [wV wd] ∧ Q ((getT tab wd).getD .non) H2
variable {o e : Expr} {es : List Expr} {to : TE} {t : TA} {apos cpos : Pos}
theorem pe_getK (ho : PE X o to) (ha : PA X [e] t)
    (hbase : attributeBase o "get" X.env (eval o X.env) = eval o X.env := by rfl)
    (hfew : ((backTo cpos (starEach [e] X.env)).all (fun x => !x.1) && (backToKw cpos (keywordEach [] X.env)).all (fun x => x.1.isSome)
      && decide ([e].length + ([] : List Keyword).length + (if ([] : List Keyword).isEmpty then 0 else 1) < 30)) = true := by rfl)
    (hline : (apos.endLine == cpos.line) = true := by rfl) (hs : starEach [e] X.env = (false, eval e X.env) :: starEach [] X.env := by rfl) (hplain : (backTo cpos (starEach [] X.env)).any (·.1) = false := by rfl) :
    PE X (.Call (.Attribute o "get" apos) [e] [] cpos) (tGetK X.K X.w to t) := by
  refine ⟨fun pins s σ H Q I h => ?_⟩
  refine wpAny_Call_method_late hbase hfew hline rfl (thn (ho.run pins s σ H _ I h) fun v s1 ⟨x, H1, I1, r1, d, tab, ex, KT, q1⟩ => ?_)
  obtain ⟨⟨es, n, hl, hk, he⟩, low⟩ := KT
  subst ex
  obtain rfl : v = Value.ref d := r1
  have hm0 := PySem.W.mapOf_K (prog := X.prog) (w := X.w) I1.kIn hl hk
  refine ⟨"dict", "dict.get", PySem.F.plainAttrs_dict, PySem.F.slot_dict_get, PySem.F.type_dict_get, hm0.typeIs, fun a e2 => ?_, ?_⟩
  · cases e2
    exact ⟨_, I1.kIn _ _ hl, rfl⟩
  have hA := ha.run cpos pins s1 σ H1 _ I1 q1
  rw [hs] at hA ⊢
  refine Calls.callWith_builtin (by show (false || (backTo cpos (starEach [] X.env)).any (·.1)) = false; rw [hplain] <;> rfl) (Calls.evalArgs_plain ?_)
  refine thn hA fun us s2 ⟨vs, H2, I2, r2, wd, ev, q2⟩ => ?_
  subst ev
  obtain ⟨u, rfl, ru⟩ := Vals.one r2
  have hm := PySem.W.mapOf_K (prog := X.prog) (w := X.w) I2.kIn hl hk
  cases wd with
  | none =>
    cases ru
    obtain ⟨f, hmn, hf⟩ := none_mapK (P := X.prog) (w := X.w) I2.kIn hl hk
    refine call_meetsIn PySem.F.slot_dict_get hm.typeIs PySem.F.entry_dict_get (PySem.F.args_dict_get_2 _ _) (meets_dict_get (noneKind X.prog X.w) d (show (noneKind X.prog X.w).is none .none = true from rfl) low) ⟨f, hmn, ?_⟩
    rw [hf]
    exact ⟨.non, H2, I2.tok _, rfl, q2⟩
  | some z =>
    obtain ⟨t, rfl⟩ := ru
    refine call_meetsIn PySem.F.slot_dict_get hm.typeIs PySem.F.entry_dict_get (PySem.F.args_dict_get_2 _ _) (meets_dict_get (strKind X.prog X.w) d (PySem.strKind_is X.prog X.w z t) low) ⟨_, hm, ?_⟩
    rcases findBy_tab he z with ⟨u, v, h1, h2, h3⟩ | ⟨h1, h2⟩
    · rw [h1]
      have e : getT tab (some z) = some v := h2
      rw [e] at q2
      exact ⟨v, H2, I2.tok _, h3, q2⟩
    · rw [h1]
      have e : getT tab (some z) = none := h2
      rw [e] at q2
      exact ⟨.non, H2, I2.tok _, rfl, q2⟩
end
theorem lookT_eq {x : Str} {v : V} {r : List (Str × V)} : lookT ((x, v) :: r) x = some v := by
  unfold lookT
  rw [List.find?_cons_of_pos (by exact beq_self_eq_true x)]
  rfl
theorem lookT_ne {x z : Str} {v : V} {r : List (Str × V)} (h : ¬ z = x) : lookT ((x, v) :: r) z = lookT r z := by
  unfold lookT
  rw [List.find?_cons_of_neg (by intro c; exact h (eq_of_beq (show (x == z) = true from c)).symm)]
structure Gd (K : PySem.W.Frag) (w : World) (mg : Str → Option Value) where
  aB : Addr
  mB : mg "BODIES" = some (.ref aB)
  tB : KTab K w aB [("if", .int 2), ("while", .int 1)]
  aS : Addr
  r1 : Addr
  r2 : Addr
  r3 : Addr
  mS : mg "SHARED_ROLES" = some (.ref aS)
  tS : KTab K w aS [("set", .ref r1), ("add", .ref r2), ("wait", .ref r3)]
  k1 : ∀ H, SqT K H r1 ((["variable", "value"] : List Str).map V.str)
  k2 : ∀ H, SqT K H r2 ((["variable", "term"] : List Str).map V.str)
  k3 : ∀ H, SqT K H r3 ((["steps"] : List Str).map V.str)
  aT : Addr
  r4 : Addr
  r5 : Addr
  mT : mg "TELLER_ROLES" = some (.ref aT)
  tT : KTab K w aT [("ask", .ref r4), ("answer", .ref r5)]
  k4 : ∀ H, SqT K H r4 ((["sign", "term", "variable"] : List Str).map V.str)
  k5 : ∀ H, SqT K H r5 ((["answer"] : List Str).map V.str)
  aC : Addr
  r6 : Addr
  r7 : Addr
  mC : mg "COLLECTOR_ROLES" = some (.ref aC)
  tC : KTab K w aC [("grow", .ref r6), ("list", .ref r7)]
  k6 : ∀ H, SqT K H r6 ((["term"] : List Str).map V.str)
  k7 : ∀ H, SqT K H r7 ((["term"] : List Str).map V.str)
def rolesZ (z kind : Str) : Option (List Str) :=
  if z = "set" then some ["variable", "value"] else if z = "add" then some ["variable", "term"] else if z = "wait" then some ["steps"]
  else if kind = "teller" then (if z = "ask" then some ["sign", "term", "variable"] else if z = "answer" then some ["answer"] else none)
  else (if z = "grow" then some ["term"] else if z = "list" then some ["term"] else none)
def rolesOf (wd : Option Str) (kind : Str) : Option (List Str) := wd.bind fun z => rolesZ z kind
def allParts (ps : List PyData) (rs : List Str) : Bool := ((ps.zip rs).map fun p => isPart p.1 p.2).all id
def isPlain (d : PyData) (kind : Str) : Bool := match d with
  | .tuple (.str z :: ps) => (match rolesZ z kind with
    | some rs => decide (ps.length = rs.length) && allParts ps rs
    | none => false)
  | _ => false
def cond3 : List PyData → Bool
  | [c, _, _] => isCond c
  | _ => false
def cond2 : List PyData → Bool
  | [c, _] => isCond c
  | _ => false
/-- a statement, whatever its bodies are -/
def isOut (d : PyData) (kind : Str) : Bool := match d with
  | .tuple (.str z :: ps) => if z = "if" then cond3 ps else if z = "while" then cond2 ps else isPlain d kind
  | _ => false
def bodsOf (d : PyData) : List PyData := match d with
  | .tuple (.str z :: ps) => if z = "if" ∨ z = "while" then ps.drop 1 else []
  | _ => []
def spRoles (K : PySem.W.Frag) : Sp := fun vs H Q _ => ∃ (wd : Option Str) (kind : Str), vs = [wV wd, .str kind] ∧ (rolesOf wd kind = none → Q .non H) ∧
  (∀ rs a, rolesOf wd kind = some rs → (∀ H, SqT K H a (rs.map V.str)) → Q (.ref a) H)
def sp2 (f : PyData → Str → Bool) (K : PySem.W.Frag) : Sp := fun vs H Q _ => ∃ (v : V) (d : PyData) (kind : Str), vs = [v, .str kind] ∧ Dp K H v d ∧ Lay d ∧ ∀ H', Same H H' → Q (.bl (f d kind)) H'
section
variable {P : Program} {w : World} {K : PySem.W.Frag} {mg : Str → Option Value} {base : Heap}
theorem scRoles : FnScope ["word", "kind"] ["word", "kind"] (defScope sRoles) := ⟨rfl, rfl, rfl, by decide +kernel, rfl, by decide +kernel, by decide +kernel⟩
theorem ok_roles {f : Addr} {fd : FuncData} (F : Fun K "roles_of" "roles_of" sRoles f fd) (D : Gd K w mg) : FnOk P w K mg base CX0 1 f fd ["word", "kind"] (spRoles K) := by
  refine F.ok scRoles (fun vs H Q E h => ?_) (fun cdv A outer s H vs Q E hr h => ?_)
  · obtain ⟨wd, kind, rfl, _⟩ := h
    rfl
  obtain ⟨wd, kind, rfl, q0, q1⟩ := h
  refine ⟨_, pss_cons (ps_if (pt_cmpR op_inK (pv 0) (pe_gref rfl D.mS) (by rfl)) (pss_one (ps_ret (pe_ix ix_kdict (pe_gref rfl D.mS) (pv 0) (fun _ _ => rfl)))) pss_nil)
    (pss_cons (ps_if (pt_cmpR op_eq (pv 1) pe_str (nomark _)) (pss_one (ps_ret (pe_getK (pe_gref rfl D.mT) (pa_cons (pv 0) pa_nil)))) pss_nil)
    (pss_one (ps_ret (pe_getK (pe_gref rfl D.mC) (pa_cons (pv 0) pa_nil))))), ?_⟩
  refine ⟨_, rfl, D.aS, _, wd, rfl, D.tS, rfl, _, rfl, ?_⟩
  have keq : ∀ {z : Str}, decide (V.str kind = V.str z) = true → kind = z := fun c => by
    have c' := of_decide_eq_true c
    injection c'
  have kne : ∀ {z : Str}, ¬ decide (V.str kind = V.str z) = true → ¬ kind = z := fun c e => c (decide_eq_true (by rw [e]))
  cases wd with
  | none =>
    refine iteF ?_
    refine ⟨_, rfl, rfl, _, rfl, ite2 (fun c => ?_) (fun c => ?_)⟩
    · exact ⟨D.aT, _, rfl, D.tT, _, rfl, none, rfl, q0 rfl⟩
    · exact ⟨D.aC, _, rfl, D.tC, _, rfl, none, rfl, q0 rfl⟩
  | some z =>
    have eG : ∀ tab, getT tab (some z) = lookT tab z := fun _ => rfl
    rw [eG]
    have eR : rolesOf (some z) kind = rolesZ z kind := rfl
    rw [eR] at q0
    have q1' : ∀ rs a, rolesZ z kind = some rs → (∀ H, SqT K H a (rs.map V.str)) → Q (.ref a) H := q1
    unfold rolesZ at q0 q1'
    by_cases c1 : z = "set"
    · subst c1
      rw [lookT_eq]
      exact iteT ⟨_, rfl, D.aS, _, _, rfl, rfl, ktab_ix D.tS lookT_eq, q1' _ _ (if_pos rfl) D.k1⟩
    rw [lookT_ne c1]
    rw [if_neg c1] at q0 q1'
    by_cases c2 : z = "add"
    · subst c2
      rw [lookT_eq]
      exact iteT ⟨_, rfl, D.aS, _, _, rfl, rfl, ktab_ix D.tS (by rw [lookT_ne c1, lookT_eq]), q1' _ _ (if_pos rfl) D.k2⟩
    rw [lookT_ne c2]
    rw [if_neg c2] at q0 q1'
    by_cases c3 : z = "wait"
    · subst c3
      rw [lookT_eq]
      exact iteT ⟨_, rfl, D.aS, _, _, rfl, rfl, ktab_ix D.tS (by rw [lookT_ne c1, lookT_ne c2, lookT_eq]), q1' _ _ (if_pos rfl) D.k3⟩
    rw [lookT_ne c3]
    rw [if_neg c3] at q0 q1'
    refine iteF ?_
    refine ⟨_, rfl, rfl, _, rfl, ite2 (fun c => ?_) (fun c => ?_)⟩
    · rw [if_pos (keq c)] at q0 q1'
      refine ⟨D.aT, _, rfl, D.tT, _, rfl, some z, rfl, ?_⟩
      rw [eG]
      by_cases c4 : z = "ask"
      · subst c4
        rw [lookT_eq]
        exact q1' _ _ (if_pos rfl) D.k4
      rw [lookT_ne c4]
      rw [if_neg c4] at q0 q1'
      by_cases c5 : z = "answer"
      · subst c5
        rw [lookT_eq]
        exact q1' _ _ (if_pos rfl) D.k5
      rw [lookT_ne c5]
      rw [if_neg c5] at q0 q1'
      exact q0 rfl
    · rw [if_neg (kne c)] at q0 q1'
      refine ⟨D.aC, _, rfl, D.tC, _, rfl, some z, rfl, ?_⟩
      rw [eG]
      by_cases c4 : z = "grow"
      · subst c4
        rw [lookT_eq]
        exact q1' _ _ (if_pos rfl) D.k6
      rw [lookT_ne c4]
      rw [if_neg c4] at q0 q1'
      by_cases c5 : z = "list"
      · subst c5
        rw [lookT_eq]
        exact q1' _ _ (if_pos rfl) D.k7
      rw [lookT_ne c5]
      rw [if_neg c5] at q0 q1'
      exact q0 rfl
end
/-! ### a comprehension over zip of two tuples -/
theorem lc_zipT {K : PySem.W.Frag} {a b : Addr} {xs ys : List V} {g : TG} {tt : TT} {te : TE} {vs : List Nat} {σ : L2.St} {H1 : Hp} {D : Addr} {Qd : Hp → Prop} (hl : xs.length = ys.length) (Pv : Nat → Hp → Prop) (h0 : Pv 0 (upd H1 D (.lst []))) (hq : ∀ i H, Pv i H → SqT K H a xs ∧ SqT K H b ys)
    (hs : ∀ i x y T H, xs[i]? = some x → ys[i]? = some y → Pv i H → H T = none → g (.ref T) (wipe σ vs) (upd H T (.tup [x, y])) fun σ2 H2 => wipe σ2 vs = wipe σ vs ∧ tt σ2 H2 fun b H3 =>
      if b = true then te σ2 H3 fun y H4 => ∃ acc, H4 D = some (.lst acc) ∧ acc.length < sizeLine ∧ Pv (i + 1) (upd H4 D (.lst (acc ++ [y]))) else Pv (i + 1) H3) (hd : ∀ H, Pv xs.length H → Qd H) :
    ∃ W : Nat → Nat → Hp → Prop, (∃ m, W 0 m (upd H1 D (.lst []))) ∧ ∀ i m H, W i m H →
      ((RZ.ItzT K a b).stop i H ∧ Qd H) ∨ ((RZ.ItzT K a b).go i H ∧ ∃ Nx : Hp → Prop, (∀ H', Nx H' → ∃ m', m' < m ∧ W (i + 1) m' H') ∧ ∀ x H', (RZ.ItzT K a b).yld i H x H' → g x (wipe σ vs) H' fun σ2 H2 => wipe σ2 vs = wipe σ vs ∧ tt σ2 H2 fun b H3 =>
        if b = true then te σ2 H3 fun y H4 => ∃ acc, H4 D = some (.lst acc) ∧ acc.length < sizeLine ∧ Nx (upd H4 D (.lst (acc ++ [y]))) else Nx H3) := by
  refine ⟨fun i m H => m = xs.length - i ∧ i ≤ xs.length ∧ Pv i H, ⟨xs.length, by simp, Nat.zero_le _, h0⟩, ?_⟩
  rintro i m H ⟨rfl, hi, p⟩
  obtain ⟨q1, q2⟩ := hq i H p
  by_cases hlt : i < xs.length
  · have hlt2 : i < ys.length := by omega
    refine .inr ⟨⟨xs, ys, xs[i], ys[i], q1, q2, by simp [hlt], by simp [hlt2]⟩, Pv (i + 1), fun H' p' => ⟨xs.length - (i + 1), by omega, rfl, hlt, p'⟩, fun v H' y => ?_⟩
    obtain ⟨T, x, y, rfl, hT, rfl, hx, hy⟩ := y
    exact hs i x y T H (hx xs q1) (hy ys q2) p hT
  · have e : i = xs.length := by omega
    subst e
    exact .inl ⟨⟨xs, ys, q1, q2, .inl (Nat.le_refl _)⟩, hd H p⟩
theorem same_upd {H H' : Hp} {D : Addr} (e : Same H H') (n : H D = none) (o : HO) : Same H (upd H' D o) := fun b u q => by
  rw [upd_ne (ne_of_none q n)]
  exact e _ _ q
def partsB (ps : List PyData) (rs : List Str) : List Bool := (ps.zip rs).map fun p => isPart p.1 p.2
theorem word_inv {d : PyData} {z : Str} (h : wordOf d = some z) : ∃ ps, d = .tuple (.str z :: ps) := by
  match d, h with
  | .tuple (.str x :: ps), h => cases h; exact ⟨ps, rfl⟩
theorem plain_none {d : PyData} {kind : Str} (h : rolesOf (wordOf d) kind = none) : isPlain d kind = false := by
  match d, h with
  | .tuple (.str x :: ps), h =>
    have h' : rolesZ x kind = none := h
    show (match rolesZ x kind with | some rs => decide (ps.length = rs.length) && allParts ps rs | none => false) = false
    rw [h']
  | .tuple [], _ => rfl
  | .tuple (.none :: _), _ => rfl
  | .tuple (.bool _ :: _), _ => rfl
  | .tuple (.int _ :: _), _ => rfl
  | .tuple (.list _ :: _), _ => rfl
  | .tuple (.tuple _ :: _), _ => rfl
  | .tuple (.dict _ :: _), _ => rfl
  | .none, _ => rfl
  | .bool _, _ => rfl
  | .int _, _ => rfl
  | .str _, _ => rfl
  | .list _, _ => rfl
  | .dict _, _ => rfl
theorem plain_some {z kind : Str} {ps : List PyData} {rs : List Str} (h : rolesZ z kind = some rs) : isPlain (.tuple (.str z :: ps)) kind = (decide (ps.length = rs.length) && allParts ps rs) := by
  show (match rolesZ z kind with | some rs => decide (ps.length = rs.length) && allParts ps rs | none => false) = _
  rw [h]
theorem roles_short {z kind : Str} {rs : List Str} (h : rolesZ z kind = some rs) : rs.length ≤ 3 := by
  unfold rolesZ at h
  repeat' split at h
  all_goals first | (cases h; decide) | (cases h)
theorem cut1 (x : V) (xs : List V) : cutV (x :: xs) (some 1) none = xs := by
  have e : HT.sIx (x :: xs).length 0 (some 1) = 1 := by
    have := HT.sIx_nat (x :: xs).length 0 1
    rw [show ((1 : Nat) : Int) = 1 from rfl] at this
    rw [this, List.length_cons]
    omega
  unfold cutV
  rw [e, HT.sIx_none]
  simp
theorem not_whole1 (x : V) (xs : List V) : ¬ (HT.sIx (x :: xs).length 0 (some 1) = 0 ∧ HT.sIx (x :: xs).length (x :: xs).length none = (x :: xs).length) := by
  intro h
  have e : HT.sIx (x :: xs).length 0 (some 1) = 1 := by
    have := HT.sIx_nat (x :: xs).length 0 1
    rw [show ((1 : Nat) : Int) = 1 from rfl] at this
    rw [this, List.length_cons]
    omega
  rw [e] at h
  exact absurd h.1 (by decide)
section
variable {P : Program} {w : World} {K : PySem.W.Frag} {mg : Str → Option Value} {base : Heap}
theorem scPlain : FnScope ["thing", "kind", "roles", "part", "role"] ["thing", "kind"] (defScope sPlain) := ⟨rfl, rfl, rfl, by decide +kernel, rfl, by decide +kernel, by decide +kernel⟩
theorem ok_plain {f : Addr} {fd : FuncData} (F : Fun K "is_plain_statement" "is_plain_statement" sPlain f fd) (T : Gs K mg) (CW : Cal P w K mg base 1 "word_of" ["thing"] (spWord K)) (CR : Cal P w K mg base 1 "roles_of" ["word", "kind"] (spRoles K))
    (CP : Cal P w K mg base 4 "is_part" ["thing", "role"] (spPart K)) : FnOk P w K mg base CX0 5 f fd ["thing", "kind"] (sp2 isPlain K) := by
  refine F.ok scPlain (fun vs H Q E h => ?_) (fun cdv A outer s H vs Q E hr h => ?_)
  · obtain ⟨v, d, kind, rfl, _⟩ := h
    rfl
  obtain ⟨v, d, kind, rfl, hd, ld, q⟩ := h
  have hr1 : Room 1 _ := hr.mono (by decide)
  refine ⟨_, pss_cons (ps_set (i := 2) scPlain.nd rfl (.inl rfl) (pe_call CR.G hr1 rfl CR.m CR.kp CR.b .nil pass0 (pa_cons (pe_call CW.G hr1 rfl CW.m CW.kp CW.b .nil pass0 (pa_cons (pv 0) pa_nil)) (pa_cons (pv 1) pa_nil))))
    (pss_cons (ps_if (PW.pt (pw_or (pt_cmpR op_isN (pv 2) pe_non (nomark _)) (pw_or1 (pt_cmpR op_ne (pe_callB call_len_seq (by rfl) T.len PySem.boot_len (pa_cons (pv 0) pa_nil)) (pe_op op_add pe_int (pe_callB call_len_seq (by rfl) T.len PySem.boot_len (pa_cons (pv 2) pa_nil))) (nomark _)))))
      (pss_one (ps_ret pe_bl)) pss_nil)
    (pss_one (ps_ret (pe_callB (cr_all rfl) (by rfl) T.all (by decide +kernel) (pa_cons
      (pe_lc (own := [("part", 3), ("role", 4)]) (g := gTup K 2 (gCons (gName 3) (gCons (gName 4) gNil))) (tt := tYes) rfl scPlain.nd
        (RZ.pi_zipA (by rfl) T.zip (pa_cons (pe_slice sl_tup (pv 0) (po_some pe_int) po_none) (pa_cons (pv 2) pa_nil)))
        (blkOk_by (N := ["thing", "kind", "roles", "part", "role"]) (sc := defScope sPlain) (by decide +kernel))
        (fun _ _ _ _ _ => pg_tup (by rfl) (pgs_cons (pg_name (i := 3) scPlain.nd rfl (.inl rfl)) (pgs_cons (pg_name (i := 4) scPlain.nd rfl (.inl rfl)) pgs_nil)))
        (fun _ _ _ _ _ => pts_nil)
        (fun _ _ _ _ _ => pe_call CP.G hr rfl CP.m CP.kp CP.b .nil pass0 (pa_cons (pv 3) (pa_cons (pv 4) pa_nil)))) pa_nil))))), ?_⟩
  refine ⟨_, rfl, v, d, rfl, hd, _, rfl, wordOf d, kind, rfl, fun hn => ?_, fun rs a hs ka => ?_⟩
  · rw [plain_none hn] at q
    exact ⟨_, rfl, rfl, _, rfl, ite2 (fun _ => iteT (q H (Same.refl H))) (fun c => absurd (decide_eq_true rfl) c)⟩
  · refine ⟨_, rfl, rfl, _, rfl, ite2 (fun c => nomatch (of_decide_eq_true c)) (fun _ => ?_)⟩
    cases hw : wordOf d with
    | none => rw [hw] at hs; cases hs
    | some z =>
      obtain ⟨ps, rfl⟩ := word_inv hw
      have hs' : rolesZ z kind = some rs := by rw [hw] at hs; exact hs
      have h3 := roles_short hs'
      rw [plain_some hs'] at q
      obtain ⟨a0, xs, rfl, h0, ha⟩ := dp_tup_inv hd
      cases ha with
      | cons hz hp =>
        rename_i x0 xr
        have hl := dpAll_len hp
        refine ⟨_, rfl, a0, _, rfl, .inr h0, _, rfl, a, _, rfl, .inr (ka _), _, _, rfl, rfl, rfl, _, rfl, ?_⟩
        by_cases c : ps.length = rs.length
        · have c' : V.int (((x0 :: xr).length : Nat) : Int) = V.int (1 + ((rs.map V.str).length : Nat)) := by
            rw [List.length_cons, List.length_map, hl, c]
            congr 1
            omega
          refine iteNS c' ?_
          rw [decide_eq_true c, Bool.true_and] at q
          refine ⟨_, rfl, _, rfl, a0, _, rfl, h0, not_whole1 _ _, fun p np => ⟨_, rfl, p, a, _, _, rfl, .inr ⟨SqT.of upd_same, ka _, fun D nD => ?_⟩⟩⟩
          rw [cut1] at nD ⊢
          have g1 : Same H (upd H p (.tup xr)) := same_new np _
          refine lc_zipT (K := K) (a := p) (b := a) (xs := xr) (ys := rs.map V.str) (by rw [List.length_map]; omega)
            (fun i H' => Same (upd H p (.tup xr)) H' ∧ H' D = some (.lst (((partsB ps rs).take i).map V.bl))) ⟨same_upd (Same.refl _) nD _, upd_same⟩
            (fun i H' P => ⟨SqT.of (P.1 _ _ upd_same), ka _⟩) ?_ ?_
          · rintro i x y T H' hx hy ⟨s1, eD⟩ nT
            obtain ⟨di, hdi, hxd⟩ := dpAll_get hp hx
            rw [List.getElem?_map] at hy
            cases hri : rs[i]? with
            | none => rw [hri] at hy; cases hy
            | some ri =>
              rw [hri] at hy
              cases hy
              have sT : Same H' (upd H' T (.tup [x, V.str ri])) := same_new nT _
              have nDT : D ≠ T := ne_of_none eD nT
              refine ⟨T, _, rfl, SqT.of upd_same, rfl, _, _, rfl, _, _, rfl, rfl, rfl, ?_⟩
              refine ⟨_, rfl, _, rfl, x, di, ri, rfl, dp_mono (g1.trans (s1.trans sT)) _ _ hxd, ?_, _, sT _ _ eD, ?_, ?_, ?_⟩
              · exact lay_mem (lay_tup ld) _ (List.mem_cons_of_mem _ (List.mem_of_getElem? hdi))
              · rw [List.length_map, List.length_take, partsB, List.length_map, List.length_zip]
                exact Nat.lt_of_le_of_lt (by omega : _ ≤ 1000) (by decide)
              · exact same_upd (s1.trans sT) nD _
              · rw [upd_same]
                congr 2
                have hz : (ps.zip rs)[i]? = some (di, ri) := by rw [List.getElem?_zip_eq_some]; exact ⟨hdi, hri⟩
                have hm : (partsB ps rs)[i]? = some (isPart di ri) := by rw [partsB, List.getElem?_map, hz]; rfl
                have hil : i < (partsB ps rs).length := (List.getElem?_eq_some_iff.mp hm).1
                rw [← List.take_append_getElem hil, List.map_append]
                congr 1
                rw [(List.getElem?_eq_some_iff.mp hm).2]
                rfl
          · rintro H' ⟨s1, eD⟩
            refine ⟨D, partsB ps rs, rfl, SqL.of ?_, q _ (g1.trans s1)⟩
            rw [eD, List.take_of_length_le]
            rw [partsB, List.length_map, List.length_zip]
            omega
        · rw [decide_eq_false c, Bool.false_and] at q
          refine ite2 (fun _ => q H (Same.refl H)) (fun c2 => absurd ?_ c2)
          rw [Bool.not_eq_true', decide_eq_false_iff_not]
          intro z
          have z' : (((x0 :: xr).length : Nat) : Int) = 1 + ((rs.map V.str).length : Nat) := by injection z
          rw [List.length_cons, List.length_map] at z'
          omega
end
theorem out_none {d : PyData} {kind : Str} (h : wordOf d = none) : isOut d kind = isPlain d kind := by
  match d, h with
  | .tuple [], _ => rfl
  | .tuple (.none :: _), _ => rfl
  | .tuple (.bool _ :: _), _ => rfl
  | .tuple (.int _ :: _), _ => rfl
  | .tuple (.list _ :: _), _ => rfl
  | .tuple (.tuple _ :: _), _ => rfl
  | .tuple (.dict _ :: _), _ => rfl
  | .none, _ => rfl
  | .bool _, _ => rfl
  | .int _, _ => rfl
  | .str _, _ => rfl
  | .list _, _ => rfl
  | .dict _, _ => rfl
theorem if_while : ¬ (("while" : Str) = "if") := by decide +kernel
theorem out_if {kind : Str} {ps : List PyData} : isOut (.tuple (.str "if" :: ps)) kind = cond3 ps := by
  simp [isOut]
theorem out_while {kind : Str} {ps : List PyData} : isOut (.tuple (.str "while" :: ps)) kind = cond2 ps := by
  simp [isOut, if_while]
theorem out_else {z kind : Str} {ps : List PyData} (h1 : ¬ z = "if") (h2 : ¬ z = "while") : isOut (.tuple (.str z :: ps)) kind = isPlain (.tuple (.str z :: ps)) kind := by
  show (if z = "if" then _ else if z = "while" then _ else _) = _
  rw [if_neg h1, if_neg h2]
theorem cut2 (xs : List V) : cutV xs (some 2) none = xs.drop 2 := by
  have e := HT.sIx_nat xs.length 0 2
  rw [show ((2 : Nat) : Int) = 2 from rfl] at e
  unfold cutV
  rw [e, HT.sIx_none]
  by_cases h : 2 ≤ xs.length
  · rw [Nat.min_eq_left h, List.take_of_length_le (by rw [List.length_drop]; omega)]
  · rw [Nat.min_eq_right (by omega), List.drop_of_length_le (Nat.le_refl _), List.drop_of_length_le (by omega)]
    simp
theorem not_whole2 {xs : List V} (h : 0 < xs.length) : ¬ (HT.sIx xs.length 0 (some 2) = 0 ∧ HT.sIx xs.length xs.length none = xs.length) := by
  intro c
  have e := HT.sIx_nat xs.length 0 2
  rw [show ((2 : Nat) : Int) = 2 from rfl] at e
  rw [e] at c
  omega
theorem dpAll_drop {K : PySem.W.Frag} {H : Hp} : ∀ (n : Nat) {xs : List V} {ds : List PyData}, DpAll K H xs ds → DpAll K H (xs.drop n) (ds.drop n)
  | 0, _, _, h => h
  | n + 1, _, _, .nil => .nil
  | n + 1, _, _, .cons _ t => dpAll_drop n t
def spBods (K : PySem.W.Frag) : Sp := fun vs H Q _ => ∃ (v : V) (z : Str) (ps : List PyData) (H0 : Hp), vs = [v] ∧ Same H0 H ∧ Dp K H0 v (.tuple (.str z :: ps)) ∧
  ∀ H' b ys, Same H H' → SqT K H' b ys → DpAll K H0 ys (bodsOf (.tuple (.str z :: ps))) → Q (.ref b) H'
section
variable {P : Program} {w : World} {K : PySem.W.Frag} {mg : Str → Option Value} {base : Heap}
theorem scOut : FnScope ["thing", "kind", "word"] ["thing", "kind"] (defScope sOut) := ⟨rfl, rfl, rfl, by decide +kernel, rfl, by decide +kernel, by decide +kernel⟩
theorem ok_out {f : Addr} {fd : FuncData} (F : Fun K "is_outside_of_statement" "is_outside_of_statement" sOut f fd) (T : Gs K mg) (D : Gd K w mg) (CW : Cal P w K mg base 1 "word_of" ["thing"] (spWord K))
    (CC : Cal P w K mg base 4 "is_condition" ["thing"] (sp1 isCond K)) (CP : Cal P w K mg base 5 "is_plain_statement" ["thing", "kind"] (sp2 isPlain K)) : FnOk P w K mg base CX0 6 f fd ["thing", "kind"] (sp2 isOut K) := by
  refine F.ok scOut (fun vs H Q E h => ?_) (fun cdv A outer s H vs Q E hr h => ?_)
  · obtain ⟨v, d, kind, rfl, _⟩ := h
    rfl
  obtain ⟨v, d, kind, rfl, hd, ld, q⟩ := h
  have hr1 : Room 1 _ := hr.mono (by decide)
  have hr3 : Room 4 _ := hr.mono (by decide)
  refine ⟨_, pss_cons (ps_set (i := 2) scOut.nd rfl (.inl rfl) (pe_call CW.G hr1 rfl CW.m CW.kp CW.b .nil pass0 (pa_cons (pv 0) pa_nil)))
    (pss_cons (ps_if (pt_cmpR op_inK (pv 2) (pe_gref rfl D.mB) (by rfl))
      (pss_one (ps_ret (pe_and (pe_cmpR op_eq (pe_callB call_len_seq (by rfl) T.len PySem.boot_len (pa_cons (pv 0) pa_nil)) (pe_op op_add pe_int (pe_ix ix_kdict (pe_gref rfl D.mB) (pv 2) (fun _ _ => rfl))) (nomark _))
        (pe_one (pe_call CC.G hr3 rfl CC.m CC.kp CC.b .nil pass0 (pa_cons (pe_ix ix_tup (pv 0) pe_int (fun _ _ => rfl)) pa_nil)))))) pss_nil)
    (pss_one (ps_ret (pe_call CP.G hr rfl CP.m CP.kp CP.b .nil pass0 (pa_cons (pv 0) (pa_cons (pv 1) pa_nil)))))), ?_⟩
  refine ⟨_, rfl, v, d, rfl, hd, _, rfl, D.aB, _, wordOf d, rfl, D.tB, rfl, _, rfl, ?_⟩
  cases hw : wordOf d with
  | none =>
    rw [out_none hw] at q
    exact iteF ⟨_, rfl, _, rfl, v, d, kind, rfl, hd, ld, q⟩
  | some z =>
    obtain ⟨ps, rfl⟩ := word_inv hw
    have eG : ∀ tab, getT tab (some z) = lookT tab z := fun _ => rfl
    rw [eG]
    obtain ⟨a0, xs, rfl, h0, ha⟩ := dp_tup_inv hd
    have hl := dpAll_len ha
    have lm := lay_mem (lay_tup ld)
    by_cases c1 : z = "if"
    · subst c1
      rw [lookT_eq]
      refine iteT ⟨_, rfl, a0, _, rfl, .inr h0, _, rfl, D.aB, _, _, rfl, rfl, ktab_ix D.tB lookT_eq, _, _, rfl, rfl, rfl, _, rfl, ?_⟩
      rw [out_if] at q
      by_cases c : xs.length = 4
      · rw [decide_eq_true (show V.int ((xs.length : Nat) : Int) = V.int (2 + 2) by rw [c]; rfl)]
        have c3 : ps.length = 3 := by rw [List.length_cons] at hl; omega
        match ps, c3, q, ha, lm with
        | [c0, b1, b2], _, q, .cons hz (.cons hc _), lm =>
          exact iteT ⟨_, rfl, a0, _, _, _, rfl, rfl, h0, atI_nat (j := 1) rfl, _, c0, rfl, hc, lm _ (by simp), q H (Same.refl H)⟩
      · rw [decide_eq_false (show ¬ V.int ((xs.length : Nat) : Int) = V.int (2 + 2) from fun e => c (by injection e; omega))]
        refine iteF ?_
        have c3 : ¬ ps.length = 3 := by rw [List.length_cons] at hl; omega
        match ps, c3, q with
        | [], _, q => exact q H (Same.refl H)
        | [_], _, q => exact q H (Same.refl H)
        | [_, _], _, q => exact q H (Same.refl H)
        | [_, _, _], c3, _ => exact absurd rfl c3
        | _ :: _ :: _ :: _ :: _, _, q => exact q H (Same.refl H)
    rw [lookT_ne c1]
    by_cases c2 : z = "while"
    · subst c2
      rw [lookT_eq]
      refine iteT ⟨_, rfl, a0, _, rfl, .inr h0, _, rfl, D.aB, _, _, rfl, rfl, ktab_ix D.tB (by rw [lookT_ne c1, lookT_eq]), _, _, rfl, rfl, rfl, _, rfl, ?_⟩
      rw [out_while] at q
      by_cases c : xs.length = 3
      · rw [decide_eq_true (show V.int ((xs.length : Nat) : Int) = V.int (2 + 1) by rw [c]; rfl)]
        have c3 : ps.length = 2 := by rw [List.length_cons] at hl; omega
        match ps, c3, q, ha, lm with
        | [c0, b1], _, q, .cons hz (.cons hc _), lm =>
          exact iteT ⟨_, rfl, a0, _, _, _, rfl, rfl, h0, atI_nat (j := 1) rfl, _, c0, rfl, hc, lm _ (by simp), q H (Same.refl H)⟩
      · rw [decide_eq_false (show ¬ V.int ((xs.length : Nat) : Int) = V.int (2 + 1) from fun e => c (by injection e; omega))]
        refine iteF ?_
        have c3 : ¬ ps.length = 2 := by rw [List.length_cons] at hl; omega
        match ps, c3, q with
        | [], _, q => exact q H (Same.refl H)
        | [_], _, q => exact q H (Same.refl H)
        | [_, _], c3, _ => exact absurd rfl c3
        | _ :: _ :: _ :: _, _, q => exact q H (Same.refl H)
    rw [lookT_ne c2]
    rw [out_else c1 c2] at q
    exact iteF ⟨_, rfl, _, rfl, _, _, kind, rfl, hd, ld, q⟩
theorem scBodies : FnScope ["statement"] ["statement"] (defScope sBodies) := ⟨rfl, rfl, rfl, by decide +kernel, rfl, by decide +kernel, by decide +kernel⟩
theorem ok_bodies {f : Addr} {fd : FuncData} (F : Fun K "bodies_of" "bodies_of" sBodies f fd) (T : Gs K mg) (D : Gd K w mg) : FnOk P w K mg base CX0 1 f fd ["statement"] (spBods K) := by
  refine F.ok scBodies (fun vs H Q E h => ?_) (fun cdv A outer s H vs Q E hr h => ?_)
  · obtain ⟨v, z, ps, H0, rfl, _⟩ := h
    rfl
  obtain ⟨v, z, ps, H0, rfl, s0, hd, q⟩ := h
  obtain ⟨a0, xs, rfl, h0', ha⟩ := dp_tup_inv hd
  have h0 : SqT K H a0 xs := Same.tup s0 h0'
  refine ⟨_, pss_one (ps_ret (pe_ifExp (pt_cmpR op_inK (pe_ix ix_tup (pv 0) pe_int (fun _ _ => rfl)) (pe_gref rfl D.mB) (by rfl)) (pe_slice sl_tup (pv 0) (po_some pe_int) po_none) (pe_tup pa_nil))), ?_⟩
  cases ha with
  | cons hz hp =>
    cases hz
    rename_i xr
    have eB : bodsOf (.tuple (.str z :: ps)) = if z = "if" ∨ z = "while" then ps.drop 1 else [] := rfl
    refine ⟨_, rfl, a0, _, _, _, rfl, rfl, h0, atI_nat (j := 0) rfl, D.aB, _, some z, rfl, D.tB, rfl, _, rfl, ?_⟩
    have eG : ∀ tab, getT tab (some z) = lookT tab z := fun _ => rfl
    rw [eG]
    rw [eB] at q
    by_cases c : z = "if" ∨ z = "while"
    · have e : (lookT [(("if" : Str), V.int 2), ("while", V.int 1)] z).isSome = true := by
        rcases c with rfl | rfl
        · rw [lookT_eq]; rfl
        · rw [lookT_ne if_while, lookT_eq]; rfl
      rw [if_pos c] at q
      refine ite2 (fun _ => ?_) (fun c2 => absurd e c2)
      refine ⟨_, rfl, _, rfl, a0, _, rfl, h0, not_whole2 (by rw [List.length_cons]; omega), fun p np => ?_⟩
      rw [cut2]
      exact q _ p _ (same_new np _) (SqT.of upd_same) (dpAll_drop 1 hp)
    · rw [if_neg c] at q
      have e : (lookT [(("if" : Str), V.int 2), ("while", V.int 1)] z).isSome = false := by
        rw [lookT_ne (fun e => c (.inl e)), lookT_ne (fun e => c (.inr e))]
        rfl
      refine ite2 (fun c2 => ?_) (fun _ => ⟨by show 0 ≤ sizeLine; decide, fun p np => ?_⟩)
      · have c3 : (lookT [(("if" : Str), V.int 2), ("while", V.int 1)] z).isSome = true := c2
        rw [e] at c3
        cases c3
      · exact q _ p _ (same_new np _) (SqT.of upd_same) .nil
end
/-! ### counting statements -/
def addO : Option Nat → Option Nat → Option Nat
  | some a, some b => some (a + b)
  | _, _ => none
def sumO : List (Option Nat) → Option Nat
  | [] => some 0
  | x :: r => addO x (sumO r)
theorem addO_none (x : Option Nat) : addO x none = none := by cases x <;> rfl
theorem none_addO (x : Option Nat) : addO none x = none := by cases x <;> rfl
theorem addO_assoc (x y z : Option Nat) : addO (addO x y) z = addO x (addO y z) := by
  cases x <;> cases y <;> cases z <;> simp [addO, Nat.add_assoc]
theorem addO_comm (x y : Option Nat) : addO x y = addO y x := by
  cases x <;> cases y <;> simp [addO, Nat.add_comm]
theorem zero_addO (x : Option Nat) : addO (some 0) x = x := by cases x <;> simp [addO]
theorem addO_zero (x : Option Nat) : addO x (some 0) = x := by cases x <;> simp [addO]
theorem sumO_append (xs ys : List (Option Nat)) : sumO (xs ++ ys) = addO (sumO xs) (sumO ys) := by
  induction xs with
  | nil => exact (zero_addO _).symm
  | cons x r ih => rw [List.cons_append]; simp only [sumO]; rw [ih, addO_assoc]
def bodyN (kind : Str) : Nat → PyData → Option Nat
  | 0, .tuple [] => some 0
  | 0, _ => none
  | r + 1, .tuple ss => sumO (ss.map fun s => if isOut s kind = true then addO (some 1) (sumO ((bodsOf s).map (bodyN kind r))) else none)
  | _ + 1, _ => none
def stN (kind : Str) (r : Nat) (s : PyData) : Option Nat := if isOut s kind = true then addO (some 1) (sumO ((bodsOf s).map (bodyN kind r))) else none
theorem bodyN_tup (kind : Str) (r : Nat) (ss : List PyData) : bodyN kind (r + 1) (.tuple ss) = sumO (ss.map (stN kind r)) := by
  simp only [bodyN]
  rfl
def okN (many : Nat) : Option Nat → Bool
  | some n => decide (many + n ≤ 24)
  | none => false
def isProg (d : PyData) : Bool := match d with
  | .tuple [.str k, b] => inS (.str k) kinds && okN 0 (bodyN k 4 b)
  | _ => false
def tot (kind : Str) (stk : List (PyData × Nat)) : Option Nat := sumO (stk.map fun p => bodyN kind (5 - p.2) p.1)
def good (kind : Str) (many : Nat) (stk : List (PyData × Nat)) : Bool := okN many (tot kind stk)
theorem tot_append (kind : Str) (a b : List (PyData × Nat)) : tot kind (a ++ b) = addO (tot kind a) (tot kind b) := by
  unfold tot
  rw [List.map_append, sumO_append]
theorem tot_one (kind : Str) (p : PyData × Nat) : tot kind [p] = bodyN kind (5 - p.2) p.1 := by
  unfold tot
  simp only [List.map_cons, List.map_nil, sumO, addO_zero]
theorem okN_add (m k : Nat) (x : Option Nat) : okN m (addO (some k) x) = okN (m + k) x := by
  cases x with
  | none => rfl
  | some n => simp only [addO, okN]; congr 1; rw [Nat.add_assoc]
theorem bodyN_no (kind : Str) (r : Nat) {d : PyData} (h : isT d "tuple" = false) : bodyN kind r d = none := by
  cases d <;> first | (cases r <;> rfl) | (simp [isT, tyN] at h)
theorem stN_ge {kind : Str} {r n : Nat} {s : PyData} (h : stN kind r s = some n) : 1 ≤ n := by
  unfold stN at h
  split at h
  · cases e : sumO ((bodsOf s).map (bodyN kind r)) with
    | none => rw [e] at h; cases h
    | some m =>
      rw [e] at h
      have : 1 + m = n := by injection h
      omega
  · cases h
theorem sumO_ge {kind : Str} {r : Nat} : ∀ {ss : List PyData} {n : Nat}, sumO (ss.map (stN kind r)) = some n → ss.length ≤ n
  | [], _, _ => Nat.zero_le _
  | s :: t, n, h => by
    simp only [List.map_cons, sumO] at h
    cases e1 : stN kind r s with
    | none => rw [e1, none_addO] at h; cases h
    | some a =>
      cases e2 : sumO (t.map (stN kind r)) with
      | none => rw [e2, addO_none] at h; cases h
      | some b =>
        rw [e1, e2] at h
        have e : a + b = n := by injection h
        have h1 := stN_ge e1
        have h2 := sumO_ge e2
        rw [List.length_cons]
        omega
/-- too many, or too deep -/
theorem good_over {kind : Str} {many dep : Nat} {st : List (PyData × Nat)} {ss : List PyData} (h : 24 < many + ss.length ∨ (0 < ss.length ∧ 4 < dep)) : good kind many (st ++ [(.tuple ss, dep)]) = false := by
  unfold good
  rw [tot_append, tot_one]
  show okN many (addO (tot kind st) (bodyN kind (5 - dep) (.tuple ss))) = false
  cases e : bodyN kind (5 - dep) (.tuple ss) with
  | none => rw [addO_none]; rfl
  | some n =>
    cases e1 : tot kind st with
    | none => rfl
    | some a =>
      show decide (many + (a + n) ≤ 24) = false
      rw [decide_eq_false_iff_not]
      cases hr : 5 - dep with
      | zero =>
        rw [hr] at e
        cases ss with
        | nil => rcases h with h | ⟨h, _⟩
                 · simp at h; omega
                 · simp at h
        | cons s t => simp [bodyN] at e
      | succ r =>
        rw [hr, bodyN_tup] at e
        have g := sumO_ge e
        rcases h with h | ⟨_, h⟩
        · omega
        · omega
theorem good_no {kind : Str} {many dep : Nat} {st : List (PyData × Nat)} {d : PyData} (h : isT d "tuple" = false) : good kind many (st ++ [(d, dep)]) = false := by
  unfold good
  rw [tot_append, tot_one]
  show okN many (addO (tot kind st) (bodyN kind (5 - dep) d)) = false
  rw [bodyN_no kind _ h, addO_none]
  rfl
theorem sumO_none {kind : Str} {r : Nat} {s : PyData} (h : isOut s kind = false) : ∀ {ss : List PyData}, s ∈ ss → sumO (ss.map (stN kind r)) = none
  | x :: t, m => by
    simp only [List.map_cons, sumO]
    rcases List.mem_cons.mp m with e | m
    · subst e
      have e : stN kind r s = none := by unfold stN; rw [if_neg (by rw [h]; decide)]
      rw [e, none_addO]
    · rw [sumO_none h m, addO_none]
theorem good_bad {kind : Str} {many dep : Nat} {st : List (PyData × Nat)} {ss : List PyData} {s : PyData} (h : isOut s kind = false) (m : s ∈ ss) : good kind many (st ++ [(.tuple ss, dep)]) = false := by
  unfold good
  rw [tot_append, tot_one]
  show okN many (addO (tot kind st) (bodyN kind (5 - dep) (.tuple ss))) = false
  have e : bodyN kind (5 - dep) (.tuple ss) = none := by
    cases 5 - dep with
    | zero =>
      cases ss with
      | nil => cases m
      | cons _ _ => rfl
    | succ r => rw [bodyN_tup, sumO_none h m]
  rw [e, addO_none]
  rfl
def pushes (dep : Nat) (ss : List PyData) : List (PyData × Nat) := ss.flatMap fun s => (bodsOf s).map fun b => (b, dep + 1)
theorem sumO_all {kind : Str} {r dep : Nat} (hr : 5 - (dep + 1) = r) : ∀ {ss : List PyData}, (∀ s ∈ ss, isOut s kind = true) → sumO (ss.map (stN kind r)) = addO (some ss.length) (tot kind (pushes dep ss))
  | [], _ => rfl
  | s :: t, h => by
    have ih := sumO_all hr (ss := t) (fun x m => h x (List.mem_cons_of_mem _ m))
    simp only [List.map_cons, sumO]
    rw [ih]
    have e : stN kind r s = addO (some 1) (sumO ((bodsOf s).map (bodyN kind r))) := by unfold stN; rw [if_pos (h s (by simp))]
    have e2 : tot kind (pushes dep (s :: t)) = addO (sumO ((bodsOf s).map (bodyN kind r))) (tot kind (pushes dep t)) := by
      unfold pushes
      rw [List.flatMap_cons, tot_append]
      congr 1
      unfold tot
      rw [List.map_map]
      congr 2
      funext b
      show bodyN kind (5 - (dep + 1)) b = _
      rw [hr]
    rw [e, e2]
    cases sumO ((bodsOf s).map (bodyN kind r)) with
    | none => simp [addO, none_addO]
    | some a =>
      cases tot kind (pushes dep t) with
      | none => simp [addO]
      | some b => simp only [addO, List.length_cons]; congr 1; omega
theorem good_step {kind : Str} {many dep : Nat} {st : List (PyData × Nat)} {ss : List PyData} (hd : dep ≤ 5) (h4 : 0 < ss.length → dep ≤ 4) (h : ∀ s ∈ ss, isOut s kind = true) :
    good kind (many + ss.length) (st ++ pushes dep ss) = good kind many (st ++ [(.tuple ss, dep)]) := by
  unfold good
  rw [tot_append, tot_append, tot_one]
  show _ = okN many (addO (tot kind st) (bodyN kind (5 - dep) (.tuple ss)))
  have e : bodyN kind (5 - dep) (.tuple ss) = addO (some ss.length) (tot kind (pushes dep ss)) := by
    by_cases c : dep ≤ 4
    · have e1 : 5 - dep = (5 - (dep + 1)) + 1 := by omega
      rw [e1, bodyN_tup, sumO_all (dep := dep) rfl h]
    · have z : ss = [] := by
        cases ss with
        | nil => rfl
        | cons _ _ => exact absurd (h4 (by simp)) c
      subst z
      have e1 : 5 - dep = 0 := by omega
      rw [e1]
      rfl
  rw [e, ← addO_assoc, addO_comm (tot kind st) (some ss.length), addO_assoc, okN_add]
/-! ### a measure -/
mutual
def sz : PyData → Nat
  | .tuple xs => 1 + szAll xs
  | .list xs => 1 + szAll xs
  | .none | .bool _ | .int _ | .str _ | .dict _ => 1
def szAll : List PyData → Nat
  | [] => 0
  | x :: xs => sz x + szAll xs
end
def tsz : List (PyData × Nat) → Nat
  | [] => 0
  | p :: r => sz p.1 + tsz r
theorem tsz_append : ∀ a b : List (PyData × Nat), tsz (a ++ b) = tsz a + tsz b
  | [], b => by simp [tsz]
  | x :: r, b => by rw [List.cons_append]; simp only [tsz]; rw [tsz_append r b]; omega
theorem tsz_map (dep : Nat) : ∀ bs : List PyData, tsz (bs.map fun b => (b, dep)) = szAll bs
  | [] => rfl
  | x :: r => by simp only [List.map_cons, tsz, szAll]; rw [tsz_map dep r]
theorem szAll_drop : ∀ (n : Nat) (bs : List PyData), szAll (bs.drop n) ≤ szAll bs
  | 0, bs => Nat.le_refl _
  | n + 1, [] => Nat.le_refl _
  | n + 1, x :: r => by
    rw [List.drop_succ_cons]
    have := szAll_drop n r
    simp only [szAll]
    omega
theorem bods_sz (s : PyData) : szAll (bodsOf s) ≤ sz s := by
  match s with
  | .tuple (.str z :: ps) =>
    show szAll (if z = "if" ∨ z = "while" then ps.drop 1 else []) ≤ _
    simp only [sz, szAll]
    split
    · have := szAll_drop 1 ps
      omega
    · simp [szAll]
  | .tuple [] => exact Nat.zero_le _
  | .tuple (.none :: _) => exact Nat.zero_le _
  | .tuple (.bool _ :: _) => exact Nat.zero_le _
  | .tuple (.int _ :: _) => exact Nat.zero_le _
  | .tuple (.list _ :: _) => exact Nat.zero_le _
  | .tuple (.tuple _ :: _) => exact Nat.zero_le _
  | .tuple (.dict _ :: _) => exact Nat.zero_le _
  | .none => exact Nat.zero_le _
  | .bool _ => exact Nat.zero_le _
  | .int _ => exact Nat.zero_le _
  | .str _ => exact Nat.zero_le _
  | .list _ => exact Nat.zero_le _
  | .dict _ => exact Nat.zero_le _
theorem pushes_sz (dep : Nat) : ∀ ss : List PyData, tsz (pushes dep ss) ≤ szAll ss
  | [] => Nat.le_refl _
  | s :: t => by
    have e : pushes dep (s :: t) = (bodsOf s).map (fun b => (b, dep + 1)) ++ pushes dep t := by unfold pushes; rw [List.flatMap_cons]
    rw [e, tsz_append, tsz_map]
    have h1 := bods_sz s
    have h2 := pushes_sz dep t
    simp only [szAll]
    omega
theorem out_word {s : PyData} {kind : Str} (h : isOut s kind = true) : ∃ z ps, s = .tuple (.str z :: ps) := by
  cases hw : wordOf s with
  | some z => obtain ⟨ps, e⟩ := word_inv hw; exact ⟨z, ps, e⟩
  | none =>
    rw [out_none hw] at h
    have : rolesOf (wordOf s) kind = none := by rw [hw]; rfl
    rw [plain_none this] at h
    cases h
theorem bods_short {s : PyData} {kind : Str} (h : isOut s kind = true) : (bodsOf s).length ≤ 2 := by
  obtain ⟨z, ps, rfl⟩ := out_word h
  show (if z = "if" ∨ z = "while" then ps.drop 1 else []).length ≤ 2
  split
  · rename_i c
    rcases c with rfl | rfl
    · rw [out_if] at h
      match ps, h with
      | [_, _, _], _ => simp
    · rw [out_while] at h
      match ps, h with
      | [_, _], _ => simp
  · decide
theorem pushes_len {kind : Str} (dep : Nat) : ∀ {ss : List PyData}, (∀ s ∈ ss, isOut s kind = true) → (pushes dep ss).length ≤ 2 * ss.length
  | [], _ => Nat.le_refl _
  | s :: t, h => by
    have e : pushes dep (s :: t) = (bodsOf s).map (fun b => (b, dep + 1)) ++ pushes dep t := by unfold pushes; rw [List.flatMap_cons]
    rw [e, List.length_append, List.length_map, List.length_cons]
    have h1 := bods_short (h s (by simp))
    have h2 := pushes_len dep (ss := t) (fun x m => h x (List.mem_cons_of_mem _ m))
    omega
theorem pushes_snoc (dep : Nat) (a : List PyData) (s : PyData) : pushes dep (a ++ [s]) = pushes dep a ++ (bodsOf s).map fun b => (b, dep + 1) := by
  unfold pushes
  rw [List.flatMap_append, List.flatMap_cons, List.flatMap_nil, List.append_nil]
theorem while_m {c : TT} {tb : TS} {D : Ends} {σ : L2.St} {H : Hp} (Pv : Nat → L2.St → Hp → Prop) {m0 : Nat} (h0 : Pv m0 σ H)
    (hs : ∀ m σ H, Pv m σ H → c σ H fun b H1 => if b = true then tb { D with nx := fun σ' H' => ∃ m', m' < m ∧ Pv m' σ' H', ct := fun σ' H' => ∃ m', m' < m ∧ Pv m' σ' H', bk := D.nx } σ H1 else D.nx σ H1)
    (mono : ∀ σ H Q Q', (∀ b H1, Q b H1 → Q' b H1) → c σ H Q → c σ H Q') : tWhile c tb D σ H := by
  refine ⟨Pv, ⟨_, h0⟩, ?_⟩
  intro m σ H p
  refine mono σ H _ _ (fun b H1 q => ?_) (hs m σ H p)
  cases b with
  | true => exact ⟨_, fun σ' H' p' => p', q⟩
  | false => exact q
theorem seq_while {c : TT} {tb u : TS} {D : Ends} {σ : L2.St} {H : Hp} (h : tWhile c tb { D with nx := u D } σ H) : tSeq (tWhile c tb) u D σ H := h
/-- the things on the pile: pairs (body, depth) -/
def Itm (K : PySem.W.Frag) (H0 H : Hp) (x : V) (p : PyData × Nat) : Prop := ∃ (t : Addr) (v : V), x = .ref t ∧ H t = some (.tup [v, .int (p.2 : Nat)]) ∧ Dp K H0 v p.1 ∧ Lay p.1 ∧ p.2 ≤ 5
inductive Items (K : PySem.W.Frag) (H0 H : Hp) : List V → List (PyData × Nat) → Prop
  | nil : Items K H0 H [] []
  | cons {x : V} {xs : List V} {p : PyData × Nat} {ps : List (PyData × Nat)} : Itm K H0 H x p → Items K H0 H xs ps → Items K H0 H (x :: xs) (p :: ps)
section
variable {K : PySem.W.Frag} {H0 H H' : Hp}
theorem Items.len : ∀ {xs : List V} {ps : List (PyData × Nat)}, Items K H0 H xs ps → xs.length = ps.length
  | _, _, .nil => rfl
  | _, _, .cons _ t => by rw [List.length_cons, List.length_cons, t.len]
theorem Items.append : ∀ {xs ys : List V} {ps qs : List (PyData × Nat)}, Items K H0 H xs ps → Items K H0 H ys qs → Items K H0 H (xs ++ ys) (ps ++ qs)
  | _, _, _, _, .nil, h => h
  | _, _, _, _, .cons i t, h => .cons i (t.append h)
theorem Items.snoc : ∀ (xs : List V) {y : V} {ps : List (PyData × Nat)}, Items K H0 H (xs ++ [y]) ps → ∃ st p, ps = st ++ [p] ∧ Items K H0 H xs st ∧ Itm K H0 H y p
  | [], _, _, .cons i .nil => ⟨[], _, rfl, .nil, i⟩
  | x :: r, _, _, .cons i t => by
    obtain ⟨st, p, e, h1, h2⟩ := Items.snoc r t
    exact ⟨_ :: st, p, by rw [e]; rfl, .cons i h1, h2⟩
theorem Itm.keep {l : Addr} {x : V} {p : PyData × Nat} (i : Itm K H0 H x p) (e : ∀ b o, b ≠ l → H b = some o → H' b = some o) {ys : List V} (hl : H l = some (.lst ys)) : Itm K H0 H' x p := by
  obtain ⟨t, v, e1, e2, r⟩ := i
  exact ⟨t, v, e1, e t _ (ne_of e2 hl (by intro z; cases z)) e2, r⟩
theorem Items.keep {l : Addr} {ys : List V} (e : ∀ b o, b ≠ l → H b = some o → H' b = some o) (hl : H l = some (.lst ys)) : ∀ {xs : List V} {ps : List (PyData × Nat)}, Items K H0 H xs ps → Items K H0 H' xs ps
  | _, _, .nil => .nil
  | _, _, .cons i t => .cons (i.keep e hl) (t.keep e hl)
theorem Items.mono (e : Same H H') : ∀ {xs : List V} {ps : List (PyData × Nat)}, Items K H0 H xs ps → Items K H0 H' xs ps
  | _, _, .nil => .nil
  | _, _, .cons ⟨t, v, e1, e2, r⟩ s => .cons ⟨t, v, e1, e _ _ e2, r⟩ (s.mono e)
end
def spProg (K : PySem.W.Frag) : Sp := fun vs H Q _ => ∃ (v : V) (d : PyData), vs = [v] ∧ Dp K H v d ∧ Lay d ∧ ∀ H', Same H H' → Q (.bl (isProg d)) H'
section
variable {P : Program} {w : World} {K : PySem.W.Frag} {mg : Str → Option Value} {base : Heap}
theorem scProg : FnScope ["thing", "kind", "many", "pending", "body", "depth", "statement", "inner"] ["thing"] (defScope sProg) := ⟨rfl, rfl, rfl, by decide +kernel, rfl, by decide +kernel, by decide +kernel⟩
theorem dp_two {H : Hp} {xs : List V} {ds : List PyData} (h : DpAll K H xs ds) (l : ds.length = 2) : ∃ x0 x1 d0 d1, xs = [x0, x1] ∧ ds = [d0, d1] ∧ Dp K H x0 d0 ∧ Dp K H x1 d1 := by
  match ds, l, h with
  | [d0, d1], _, .cons (v := x0) h0 (.cons (v := x1) h1 .nil) => exact ⟨x0, x1, d0, d1, rfl, rfl, h0, h1⟩
theorem take_snoc {α : Type} {l : List α} {j : Nat} {x : α} (h : l[j]? = some x) : l.take (j + 1) = l.take j ++ [x] := by
  rw [List.take_add_one, h]
  rfl
theorem bods_lay {s : PyData} (h : Lay s) : ∀ b ∈ bodsOf s, Lay b := by
  intro b m
  match s, h, m with
  | .tuple (.str z :: ps), h, m =>
    have m' : b ∈ (if z = "if" ∨ z = "while" then ps.drop 1 else []) := m
    split at m'
    · exact lay_mem (lay_tup h) b (List.mem_cons_of_mem _ (List.mem_of_mem_drop m'))
    · cases m'
theorem loop_ok {D : Ends} {H H1 : Hp} {k : Str} {n dep : Nat} {a0 pl ab : Addr} {xs ys : List V} {ss : List PyData} {st : List (PyData × Nat)} {s6 : Option V} (sH1 : Same H H1) (nplH : H pl = none) (hp1 : H1 pl = some (.lst ys)) (it1 : Items K H H1 ys st)
    (hab : SqT K H ab xs) (hss : DpAll K H xs ss) (lay : PyData.canLayAll0 ss = true) (hdep : dep ≤ 5) (h4 : 0 < ss.length → dep ≤ 4) (h24 : ss.length ≤ 24) (hst : st.length ≤ 100)
    (hF : ∀ s, s ∈ ss → isOut s k = false → ∀ H', Same H H' → D.rt (.bl false) H')
    (hN : ∀ H' ys' s6, (∀ s ∈ ss, isOut s k = true) → Same H H' → H' pl = some (.lst ys') → Items K H H' ys' (st ++ pushes dep ss) →
      D.nx [some (.ref a0), some (.str k), some (.int (n : Nat)), some (.ref pl), some (.ref ab), some (.int (dep : Nat)), s6, none] H') :
    tFor (iTup K (tVar 4)) (gName 6) (tSeq (tIfS (tNot (tB (tCall (sp2 isOut K) [] E0 (tCons (tVar 6) (tCons (tVar 1) tNil))))) (tRet (tC (.bl false))) tNext)
      (tDrop (tBM K "list" rExtend (tVar 3) (tCons (tLc (iTup K (tCall (spBods K) [] E0 (tCons (tVar 6) tNil))) (gName 7) tYes (tTup (tCons (tVar 7) (tCons (tOp (rI0 fun i j => V.int (i + j)) (tVar 5) (tC (V.int 1))) tNil))) [7]) tNil))))
      D [some (.ref a0), some (.str k), some (.int (n : Nat)), some (.ref pl), some (.ref ab), some (.int (dep : Nat)), s6, none] H1 := by
  have hl := dpAll_len hss
  refine ⟨_, rfl, ab, rfl, ⟨_, Same.tup sH1 hab⟩, for_tup (K := K) (a := ab) (xs := xs)
    (fun i σ H' => ∃ (ys' : List V) (s6 : Option V), σ = [some (.ref a0), some (.str k), some (.int (n : Nat)), some (.ref pl), some (.ref ab), some (.int (dep : Nat)), s6, none] ∧ (∀ s ∈ ss.take i, isOut s k = true) ∧ Same H H' ∧ H' pl = some (.lst ys') ∧
      Items K H H' ys' (st ++ pushes dep (ss.take i))) ⟨ys, s6, rfl, by simp, sH1, hp1, by simpa [pushes] using it1⟩ (fun i σ H' _ ⟨_, _, _, _, s1, _⟩ => Same.tup s1 hab) ?_ ?_⟩
  · rintro i x σ H' hx ⟨ys', s6', rfl, hall, s1, hp', it'⟩
    obtain ⟨si, hsi, hxd⟩ := dpAll_get hss hx
    have hil : i < ss.length := (List.getElem?_eq_some_iff.mp hsi).1
    have msi : si ∈ ss := List.mem_of_getElem? hsi
    have lsi : Lay si := lay_mem lay _ msi
    refine ⟨_, rfl, _, rfl, x, si, k, rfl, dp_mono s1 _ _ hxd, lsi, fun H2 s2 => ⟨_, rfl, ?_⟩⟩
    cases ho : isOut si k with
    | false => exact iteT (hF si msi ho H2 (s1.trans s2))
    | true =>
      refine iteF ?_
      obtain ⟨z, ps, rfl⟩ := out_word ho
      have h4' := h4 (by omega)
      refine ⟨_, rfl, .inl ⟨rfl, _, SqL.of (s2 _ _ hp')⟩, _, rfl, x, z, ps, H, rfl, s1.trans s2, hxd, fun H3 b zs s3 hb hz => ⟨b, rfl, ⟨_, hb⟩, fun Dn nD => ?_⟩⟩
      refine lc_tup (K := K) (a := b) (xs := zs) (fun j H4 => Same H3 H4 ∧ ∃ acc, H4 Dn = some (.lst acc) ∧ Items K H H4 acc (((bodsOf (.tuple (.str z :: ps))).take j).map fun b => (b, dep + 1)))
        ⟨same_upd (Same.refl _) nD _, [], upd_same, .nil⟩ (fun j H4 _ P => Same.tup P.1 hb) ?_ ?_
      · rintro j y H4 hy ⟨s4, acc, eD, itA⟩
        obtain ⟨bj, hbj, hyd⟩ := dpAll_get hz hy
        refine ⟨rfl, ?_⟩
        refine ⟨_, rfl, _, rfl, _, _, rfl, rfl, (by show 2 ≤ sizeLine; decide), fun T nT => ⟨acc, ?_, ?_, ?_, _, upd_same, ?_⟩⟩
        · rw [upd_ne (ne_of_none eD nT)]
          exact eD
        · have e := itA.len
          rw [List.length_map, List.length_take] at e
          have e2 := bods_short ho
          exact Nat.lt_of_le_of_lt (by omega : _ ≤ 1000) (by decide)
        · exact same_upd (s4.trans (same_new nT _)) nD _
        · rw [take_snoc hbj, List.map_append]
          have nTD : T ≠ Dn := fun e => by rw [← e, nT] at eD; cases eD
          have g : ∀ b o, b ≠ Dn → (upd H4 T (.tup [y, .int ((dep : Int) + 1)])) b = some o → (upd (upd H4 T (.tup [y, .int ((dep : Int) + 1)])) Dn (.lst (acc ++ [.ref T]))) b = some o := fun b o n e => by rw [upd_ne n]; exact e
          have eD' : (upd H4 T (.tup [y, .int ((dep : Int) + 1)])) Dn = some (.lst acc) := by rw [upd_ne (ne_of_none eD nT)]; exact eD
          refine ((itA.mono (same_new nT _)).keep g eD').append (.cons ⟨T, y, rfl, ?_, hyd, bods_lay lsi _ (List.mem_of_getElem? hbj), by show dep + 1 ≤ 5; omega⟩ .nil)
          rw [upd_ne nTD, upd_same]
          rfl
      · rintro H4 ⟨s4, acc, eD, itA⟩
        have hzl := dpAll_len hz
        rw [hzl, List.take_length] at itA
        have s24 := s2.trans (s3.trans s4)
        have hp4 := s24 _ _ hp'
        have nDp : Dn ≠ pl := fun e => by
          have := (s2.trans s3) _ _ hp'
          rw [← e, nD] at this
          cases this
        refine ⟨pl, Dn, ys', acc, rfl, rfl, hp4, eD, ?_, ys' ++ acc, _, rfl, ?_, same_upd (s1.trans s24) nplH _, upd_same, ?_⟩
        · have e1 := it'.len
          have e2 := itA.len
          have e3 := bods_short ho
          have e4 := pushes_len (kind := k) dep hall
          rw [List.length_append] at e1
          rw [List.length_map] at e2
          rw [List.length_take] at e4
          exact Nat.le_of_lt (Nat.lt_of_le_of_lt (by omega : _ ≤ 1000) (by decide))
        · intro s ms
          rw [take_snoc hsi] at ms
          rcases List.mem_append.mp ms with m | m
          · exact hall s m
          · rw [List.mem_singleton.mp m]
            exact ho
        · rw [take_snoc hsi, pushes_snoc, ← List.append_assoc]
          have g : ∀ b o, b ≠ pl → H4 b = some o → (upd H4 pl (.lst (ys' ++ acc))) b = some o := fun b o n e => by rw [upd_ne n]; exact e
          exact ((it'.mono s24).keep g hp4).append (itA.keep g hp4)
  · rintro σ H' ⟨ys', s6', rfl, hall, s1, hp', it'⟩
    rw [hl, List.take_length] at hall it'
    exact hN H' ys' s6' hall s1 hp' it'
theorem prog_no {d : PyData} (h : ∀ k b, d ≠ .tuple [.str k, b]) : isProg d = false := by
  unfold isProg
  split
  · rename_i k b; exact absurd rfl (h k b)
  · rfl
theorem ok_prog {f : Addr} {fd : FuncData} (F : Fun K "is_program" "is_program" sProg f fd) (T : Gs K mg) (CO : Cal P w K mg base 6 "is_outside_of_statement" ["thing", "kind"] (sp2 isOut K))
    (CB : Cal P w K mg base 1 "bodies_of" ["statement"] (spBods K)) : FnOk P w K mg base CX0 7 f fd ["thing"] (spProg K) := by
  refine F.ok scProg (fun vs H Q E h => ?_) (fun cdv A outer s H vs Q E hr h => ?_)
  · obtain ⟨v, d, rfl, _⟩ := h
    rfl
  obtain ⟨v, d, rfl, hd, ld, q⟩ := h
  have hr1 : Room 1 _ := hr.mono (by decide)
  refine ⟨_, pss_cons (ps_if (PW.pt (pw_or (pt_not (pt_val (pe_callB call_isi (by rfl) T.isi (by decide +kernel) (pa_cons (pv 0) (pa_cons (pe_bltn (v := .ty "tuple") (by rfl) T.tup (by decide +kernel) rfl) pa_nil)))))
      (pw_or (pt_cmpR op_ne (pe_callB call_len_seq (by rfl) T.len PySem.boot_len (pa_cons (pv 0) pa_nil)) pe_int (nomark _))
      (pw_or1 (pt_cmpR (op_notInS (hu65 hr)) (pe_ix ix_tup (pv 0) pe_int (fun _ _ => rfl)) (pe_gref rfl T.mK) (by rfl)))))) (pss_one (ps_ret pe_bl)) pss_nil)
    (pss_cons (ps_set (i := 1) scProg.nd rfl (.inl rfl) (pe_ix ix_tup (pv 0) pe_int (fun _ _ => rfl)))
    (pss_cons (ps_set (i := 2) scProg.nd rfl (.inl rfl) pe_int)
    (pss_cons (ps_set (i := 3) scProg.nd rfl (.inl rfl) (pe_lst (pa_cons (pe_tup (pa_cons (pe_ix ix_tup (pv 0) pe_int (fun _ _ => rfl)) (pa_cons pe_int pa_nil))) pa_nil)))
    (pss_cons (ps_while PassesOwn.never (pt_truth (pv 3) (by intro _; rfl))
      (pss_cons (ps_asg (pe_bm0 PySem.F.plainAttrs_list PySem.F.slot_list_pop PySem.F.type_list_pop mt_pop (pv 3)) (pg_tup (by rfl) (pgs_cons (pg_name (i := 4) scProg.nd rfl (.inl rfl)) (pgs_cons (pg_name (i := 5) scProg.nd rfl (.inr rfl)) pgs_nil))))
      (pss_cons (ps_if (pt_not (pt_val (pe_callB call_isi (by rfl) T.isi (by decide +kernel) (pa_cons (pv 4) (pa_cons (pe_bltn (v := .ty "tuple") (by rfl) T.tup (by decide +kernel) rfl) pa_nil))))) (pss_one (ps_ret pe_bl)) pss_nil)
      (pss_cons (ps_aug (i := 2) scProg.nd rfl (.inl rfl) (pe_callB call_len_seq (by rfl) T.len PySem.boot_len (pa_cons (pv 4) pa_nil)) ip_add)
      (pss_cons (ps_if (PW.pt (pw_or (pt_cmpR op_gt (pv 2) (pe_gint rfl T.mS) (nomark _)) (pw_or1 (PW.pt (pw_and (pt_cmpR op_gt (pe_callB call_len_seq (by rfl) T.len PySem.boot_len (pa_cons (pv 4) pa_nil)) pe_int (nomark _)) (pw_and1 (pt_cmpR op_gt (pv 5) (pe_gint rfl T.mD) (nomark _)))))))) (pss_one (ps_ret pe_bl)) pss_nil)
      (pss_one (ps_for PassesOwn.never rfl (pi_tup (pv 4)) (pg_name (i := 6) scProg.nd rfl (.inl rfl))
        (pss_cons (ps_if (pt_not (pt_val (pe_call CO.G hr rfl CO.m CO.kp CO.b .nil pass0 (pa_cons (pv 6) (pa_cons (pv 1) pa_nil))))) (pss_one (ps_ret pe_bl)) pss_nil)
        (pss_one (ps_expr (pe_bm PySem.F.plainAttrs_list PySem.F.slot_list_extend PySem.F.type_list_extend mt_extend (pv 3) (pa_cons
          (pe_lc (own := [("inner", 7)]) (g := gName 7) (tt := tYes) rfl scProg.nd (pi_tup (pe_call CB.G hr1 rfl CB.m CB.kp CB.b .nil pass0 (pa_cons (pv 6) pa_nil)))
            (blkOk_by (N := ["thing", "kind", "many", "pending", "body", "depth", "statement", "inner"]) (sc := defScope sProg) (by decide +kernel))
            (fun _ _ _ _ _ => pg_name (i := 7) scProg.nd rfl (.inl rfl)) (fun _ _ _ _ _ => pts_nil)
            (fun _ _ _ _ _ => pe_tup (pa_cons (pv 7) (pa_cons (pe_op op_add (pv 5) pe_int) pa_nil)))) pa_nil))))))))))))
    (pss_one (ps_ret pe_bl)))))), ?_⟩
  refine ⟨_, rfl, v, .ty "tuple", _, _, _, rfl, .ty _, dp_ty hd, kit_isT d (by simp) (dp_nd hd), _, rfl, ?_⟩
  cases ht : isT d "tuple" with
  | false =>
    refine iteT (iteT ?_)
    rw [prog_no (fun k b e => by rw [e] at ht; cases ht)] at q
    exact q H (Same.refl H)
  | true =>
    obtain ⟨ds, rfl⟩ := isT_tup ht
    obtain ⟨a0, xs, rfl, h0, ha⟩ := dp_tup_inv hd
    have hl := dpAll_len ha
    refine iteF ⟨_, rfl, a0, xs, rfl, .inr h0, rfl, _, rfl, ?_⟩
    by_cases h2 : ds.length = 2
    · refine iteNS (show V.int ((xs.length : Nat) : Int) = V.int 2 by rw [hl, h2]; rfl) ?_
      obtain ⟨x0, x1, d0, d1, rfl, rfl, hx0, hx1⟩ := dp_two ha h2
      have lm := lay_mem (lay_tup ld)
      refine ⟨_, rfl, a0, _, _, _, rfl, rfl, h0, atI_nat (j := 0) rfl, d0, kinds, T.aK, rfl, hx0, lm _ (by simp), T.kK _, by decide +kernel, _, rfl, ?_⟩
      cases hk : inS d0 kinds with
      | false =>
        refine iteT ?_
        have e : isProg (.tuple [d0, d1]) = false := by
          cases d0 with
          | str k => show (inS (.str k) kinds && _) = false; rw [hk]; rfl
          | _ => rfl
        rw [e] at q
        exact q H (Same.refl H)
      | true =>
        refine iteF ?_
        obtain ⟨k, rfl⟩ : ∃ k, d0 = .str k := by
          cases d0 with
          | str k => exact ⟨k, rfl⟩
          | _ => cases hk
        cases hx0
        refine ⟨_, rfl, a0, _, _, _, rfl, rfl, h0, atI_nat (j := 0) rfl, ?_⟩
        refine ⟨_, rfl, a0, _, _, _, rfl, rfl, h0, atI_nat (j := 1) rfl, (by show 2 ≤ sizeLine; decide), fun t nt => ⟨(by show 1 ≤ sizeLine; decide), fun pl npl => ?_⟩⟩
        have eP : good k 0 [(d1, 1)] = isProg (.tuple [.str k, d1]) := by
          show okN 0 (tot k [(d1, 1)]) = (inS (.str k) kinds && okN 0 (bodyN k 4 d1))
          rw [tot_one, hk]
          rfl
        have npt : pl ≠ t := fun e => by rw [e, upd_same] at npl; cases npl
        have nplH : H pl = none := by rw [upd_ne npt] at npl; exact npl
        have sH0 : Same H (upd (upd H t (.tup [x1, .int 1])) pl (.lst [.ref t])) := same_upd (same_new nt _) nplH _
        dsimp only [gName]
        refine seq_while ?_
        refine while_m (fun m σ H' => ∃ (many : Nat) (stk : List (PyData × Nat)) (ys : List V) (s4 s5 s6 : Option V), σ = [some (.ref a0), some (.str k), some (.int (many : Nat)), some (.ref pl), s4, s5, s6, none] ∧
            Same H H' ∧ H' pl = some (.lst ys) ∧ Items K H H' ys stk ∧ good k many stk = isProg (.tuple [.str k, d1]) ∧ many ≤ 24 ∧ stk.length ≤ 1 + 2 * many ∧ m = tsz stk)
          (m0 := tsz [(d1, 1)]) ⟨0, [(d1, 1)], [.ref t], none, none, none, rfl, sH0, upd_same, .cons ⟨t, x1, rfl, by rw [upd_ne npt.symm, upd_same]; rfl, hx1, lm _ (by simp), (by show 1 ≤ 5; decide)⟩ .nil, eP, by decide, Nat.le_refl 1, rfl⟩ ?_ ?_
        · rintro m σ H' ⟨many, stk, ys, s4, s5, s6, rfl, sH, hp, it, hg, hm, hlen, rfl⟩
          refine ⟨_, rfl, !ys.isEmpty, .inl ⟨ys, SqL.of hp, rfl⟩, ?_⟩
          rcases List.eq_nil_or_concat ys with e0 | ⟨ys', y, e0⟩
          · subst e0
            refine iteF ?_
            cases it
            have e : isProg (.tuple [.str k, d1]) = true := by
              rw [← hg]
              exact decide_eq_true hm
            rw [e] at q
            exact q H' sH
          rw [List.concat_eq_append] at e0
          subst e0
          obtain ⟨st, p, e0, it', ⟨t', v, e1, ht', hdv, hlay, h5⟩⟩ := Items.snoc ys' it
          subst e0 e1
          obtain ⟨b, dep⟩ := p
          refine ite2 (fun _ => ?_) (fun c => absurd (by simp) c)
          have ntp : t' ≠ pl := ne_of ht' hp (by intro z; cases z)
          refine ⟨_, rfl, .inl ⟨rfl, _, SqL.of hp⟩, pl, _, V.ref t', rfl, rfl, hp, (by simp), ?_⟩
          rw [show (ys' ++ [V.ref t']).dropLast = ys' by simp]
          refine ⟨t', _, rfl, SqT.of (by rw [upd_ne ntp]; exact ht'), rfl, _, _, rfl, _, _, rfl, rfl, ?_⟩
          have sH1 : Same H (upd H' pl (.lst ys')) := same_upd sH nplH _
          have kp1 : ∀ b o, b ≠ pl → H' b = some o → (upd H' pl (.lst ys')) b = some o := fun b o n e => by rw [upd_ne n]; exact e
          have it1 := it'.keep kp1 hp
          have hp1 : (upd H' pl (.lst ys')) pl = some (.lst ys') := upd_same
          have hdv1 : Dp K (upd H' pl (.lst ys')) v b := dp_mono sH1 _ _ hdv
          generalize upd H' pl (.lst ys') = H1 at sH1 it1 hp1 hdv1 ⊢
          refine ⟨_, rfl, v, .ty "tuple", _, _, _, rfl, .ty _, dp_ty hdv1, kit_isT b (by simp) (dp_nd hdv), _, rfl, ?_⟩
          cases hb : isT b "tuple" with
          | false =>
            refine iteT ?_
            rw [good_no hb] at hg
            rw [← hg] at q
            exact q H1 sH1
          | true =>
            refine iteF ?_
            obtain ⟨ss, rfl⟩ := isT_tup hb
            obtain ⟨ab, xs, rfl, hab, hss⟩ := dp_tup_inv hdv
            have hab1 : SqT K H1 ab xs := Same.tup sH1 hab
            have hl := dpAll_len hss
            refine ⟨_, rfl, _, rfl, ab, xs, rfl, .inr hab1, _, _, rfl, rfl, ?_⟩
            have lss : PyData.canLayAll0 ss = true := lay_tup hlay
            have hst : st.length ≤ 100 := by rw [List.length_append] at hlen; simp at hlen; omega
            have hover : (24 < many + ss.length ∨ (0 < ss.length ∧ 4 < dep)) → ∀ H', Same H H' → Q (.bl false) H' := fun c H2 s2 => by
              have e := good_over (kind := k) (st := st) c
              have e2 : isProg (.tuple [.str k, d1]) = false := hg.symm.trans e
              rw [e2] at q
              exact q H2 s2
            have hF : ∀ s, s ∈ ss → isOut s k = false → ∀ H', Same H H' → Q (.bl false) H' := fun s ms ho H2 s2 => by
              have e2 : isProg (.tuple [.str k, d1]) = false := hg.symm.trans (good_bad ho ms)
              rw [e2] at q
              exact q H2 s2
            have hN : many + ss.length ≤ 24 → (0 < ss.length → dep ≤ 4) → ∀ (H2 : Hp) (ys2 : List V) (s6 : Option V), (∀ s ∈ ss, isOut s k = true) → Same H H2 → H2 pl = some (.lst ys2) → Items K H H2 ys2 (st ++ pushes dep ss) →
                ∃ m', m' < tsz (st ++ [(.tuple ss, dep)]) ∧ ∃ (many' : Nat) (stk : List (PyData × Nat)) (ys : List V) (s4 s5 s6' : Option V), ([some (.ref a0), some (.str k), some (.int ((many + xs.length : Nat) : Int)), some (.ref pl), some (.ref ab), some (.int (dep : Nat)), s6, none] : L2.St) = [some (.ref a0), some (.str k), some (.int (many' : Nat)), some (.ref pl), s4, s5, s6', none] ∧
                Same H H2 ∧ H2 pl = some (.lst ys) ∧ Items K H H2 ys stk ∧ good k many' stk = isProg (.tuple [.str k, d1]) ∧ many' ≤ 24 ∧ stk.length ≤ 1 + 2 * many' ∧ m' = tsz stk := by
              intro h24 h4 H2 ys2 s6 hall s2 hp2 it2
              refine ⟨tsz (st ++ pushes dep ss), ?_, many + xs.length, st ++ pushes dep ss, ys2, _, _, _, rfl, s2, hp2, it2, ?_, by omega, ?_, rfl⟩
              · rw [tsz_append, tsz_append]
                have e1 := pushes_sz dep ss
                have e2 : tsz [(PyData.tuple ss, dep)] = 1 + szAll ss := by simp [tsz, sz]
                omega
              · rw [hl, good_step h5 h4 hall]
                exact hg
              · have e1 := pushes_len (kind := k) dep hall
                rw [List.length_append] at hlen ⊢
                simp only [List.length_cons, List.length_nil] at hlen
                omega
            refine ⟨_, rfl, _, _, rfl, rfl, _, rfl, ?_⟩
            by_cases c24 : (24 : Int) < (many : Nat) + (xs.length : Nat)
            · rw [decide_eq_true c24]
              exact iteT (iteT (hover (.inl (by omega)) H1 sH1))
            rw [decide_eq_false c24]
            refine iteF ⟨_, rfl, ab, xs, rfl, .inr hab1, _, _, rfl, rfl, _, rfl, ?_⟩
            by_cases c0 : (0 : Int) < (xs.length : Nat)
            · rw [decide_eq_true c0]
              refine iteT ⟨_, rfl, _, _, rfl, rfl, _, rfl, ?_⟩
              by_cases c4 : (4 : Int) < (dep : Nat)
              · rw [decide_eq_true (show (4 : Int) < (((PyData.tuple ss, dep).snd : Nat) : Int) from c4)]
                exact iteT (hover (.inr ⟨by omega, by omega⟩) H1 sH1)
              · rw [decide_eq_false (show ¬ (4 : Int) < (((PyData.tuple ss, dep).snd : Nat) : Int) from c4)]
                refine iteF ?_
                exact loop_ok (n := many + xs.length) (dep := dep) (s6 := s6) sH1 nplH hp1 it1 hab hss lss h5 (fun _ => by omega) (by omega) hst hF (hN (by omega) (fun _ => by omega))
            · rw [decide_eq_false c0]
              refine iteF (iteF ?_)
              exact loop_ok (n := many + xs.length) (dep := dep) (s6 := s6) sH1 nplH hp1 it1 hab hss lss h5 (fun h => by omega) (by omega) hst hF (hN (by omega) (fun h => by omega))
        · rintro σ H' Q1 Q2 h ⟨v, e, k, t, q⟩
          exact ⟨v, e, k, t, h _ _ q⟩
    · refine ite2 (fun _ => iteT ?_) (fun c => absurd ?_ c)
      · rw [prog_no (fun k b e => h2 (by injection e with e; rw [e]; rfl))] at q
        exact q H (Same.refl H)
      · rw [Bool.not_eq_true', decide_eq_false_iff_not]
        intro z
        have z' : ((xs.length : Nat) : Int) = 2 := by injection z
        omega
end
/-! ### the bag: a list of two numbers, drawn from -/
def Bag (H : Hp) (b : Addr) : Prop := ∃ c s : Int, H b = some (.lst [.int c, .int s]) ∧ 0 ≤ c ∧ 0 ≤ s ∧ s < 2147483648
/-- all but b stays -/
def Fr (b : Addr) (H H' : Hp) : Prop := ∀ a o, a ≠ b → H a = some o → H' a = some o
def hide (b : Addr) (H : Hp) : Hp := fun a => if a = b then none else H a
theorem Fr.refl (b : Addr) (H : Hp) : Fr b H H := fun _ _ _ h => h
theorem Fr.trans {b : Addr} {H H1 H2 : Hp} (x : Fr b H H1) (y : Fr b H1 H2) : Fr b H H2 := fun a o n h => y a o n (x a o n h)
theorem Fr.of {b : Addr} {H H' : Hp} (x : Same H H') : Fr b H H' := fun a o _ h => x a o h
theorem Fr.upd {b : Addr} {H : Hp} (o : HO) : Fr b H (upd H b o) := fun a u n h => by rw [upd_ne n]; exact h
theorem hide_same (b : Addr) (H : Hp) : Same (hide b H) H := fun a o h => by
  unfold hide at h
  split at h
  · cases h
  · exact h
theorem hide_mono {b : Addr} {H H' : Hp} (x : Fr b H H') : Same (hide b H) (hide b H') := fun a o h => by
  unfold hide at h ⊢
  split at h
  · cases h
  · rename_i n
    rw [if_neg n]
    exact x a o n h
theorem Bag.ne {H : Hp} {b p : Addr} (h : Bag H b) (n : H p = none) : b ≠ p := by
  obtain ⟨c, s, e, _⟩ := h
  exact ne_of_none e n
theorem Bag.keep {H H' : Hp} {b : Addr} (h : Bag H b) (s : Same H H') : Bag H' b := by
  obtain ⟨c, t, e, r⟩ := h
  exact ⟨c, t, s _ _ e, r⟩
/-- a datum, apart from the bag -/
abbrev Da (K : PySem.W.Frag) (b : Addr) (H : Hp) (v : V) (d : PyData) : Prop := Dp K (hide b H) v d
theorem Da.fr {K : PySem.W.Frag} {b : Addr} {H H' : Hp} {v : V} {d : PyData} (h : Da K b H v d) (x : Fr b H H') : Da K b H' v d := dp_mono (hide_mono x) _ _ h
theorem Da.dp {K : PySem.W.Frag} {b : Addr} {H : Hp} {v : V} {d : PyData} (h : Da K b H v d) : Dp K H v d := dp_mono (hide_same b H) _ _ h
section
variable {P : Program} {w : World} {K : PySem.W.Frag} {mg : Str → Option Value} {base : Heap}
end
theorem at2 {x y : V} {r : Int} (h0 : 0 ≤ r) (h1 : r < 2) : ∃ v, atI [x, y] r = some v ∧ (v = x ∨ v = y) := by
  have : r = 0 ∨ r = 1 := by omega
  rcases this with rfl | rfl
  · exact ⟨x, rfl, .inl rfl⟩
  · exact ⟨y, rfl, .inr rfl⟩
section
variable {P : Program} {w : World} {K : PySem.W.Frag} {mg : Str → Option Value} {base : Heap}
end
structure G2 (mg : Str → Option Value) : Prop where
  abs : mg "abs" = none
  max : mg "max" = none
  min : mg "min" = none
  range : mg "range" = none
theorem one_or (b : Bool) : -(2 ^ 64) < (if b = true then (1 : Int) else 0) ∧ (if b = true then (1 : Int) else 0) < 2 ^ 64 := by cases b <;> decide
section
variable {P : Program} {w : World} {K : PySem.W.Frag} {mg : Str → Option Value} {base : Heap}
end
/-! ### data without lists -/
mutual
def noL : PyData → Bool
  | .list _ => false
  | .tuple xs => noLAll xs
  | .none | .bool _ | .int _ | .str _ | .dict _ => true
def noLAll : List PyData → Bool
  | [] => true
  | x :: xs => noL x && noLAll xs
end
theorem Bag.upd {H : Hp} {b D : Addr} {o : HO} (h : Bag H b) (n : D ≠ b) : Bag (upd H D o) b := by
  obtain ⟨c, s, e, r⟩ := h
  exact ⟨c, s, by rw [upd_ne n.symm]; exact e, r⟩
def Fr2 (b m : Addr) (H H' : Hp) : Prop := ∀ a o, a ≠ b → a ≠ m → H a = some o → H' a = some o
theorem Fr2.refl (b m : Addr) (H : Hp) : Fr2 b m H H := fun _ _ _ _ h => h
theorem Fr2.trans {b m : Addr} {H H1 H2 : Hp} (x : Fr2 b m H H1) (y : Fr2 b m H1 H2) : Fr2 b m H H2 := fun a o n1 n2 h => y a o n1 n2 (x a o n1 n2 h)
theorem Fr.two {b m : Addr} {H H' : Hp} (x : Fr b H H') : Fr2 b m H H' := fun a o n _ h => x a o n h
theorem Same.two {b m : Addr} {H H' : Hp} (x : Same H H') : Fr2 b m H H' := fun a o _ _ h => x a o h
section
variable {P : Program} {w : World} {K : PySem.W.Frag} {mg : Str → Option Value} {base : Heap}
end
section
variable {X : Cx}
end
section
variable {P : Program} {w : World} {K : PySem.W.Frag} {mg : Str → Option Value} {base : Heap}
end
section
variable {P : Program} {w : World} {K : PySem.W.Frag} {mg : Str → Option Value} {base : Heap}
end
mutual
def wd (m : Nat) : PyData → Bool
  | .tuple xs => decide (xs.length ≤ m) && wdAll m xs
  | .list xs => decide (xs.length ≤ m) && wdAll m xs
  | .none | .bool _ | .int _ | .str _ | .dict _ => true
def wdAll (m : Nat) : List PyData → Bool
  | [] => true
  | x :: xs => wd m x && wdAll m xs
end
section
variable {P : Program} {w : World} {K : PySem.W.Frag} {mg : Str → Option Value} {base : Heap}
end
section
variable {P : Program} {w : World} {K : PySem.W.Frag} {mg : Str → Option Value} {base : Heap}
end
section
variable {X : Cx}
end
section
variable {P : Program} {w : World} {K : PySem.W.Frag} {mg : Str → Option Value} {base : Heap}
end
def insT (c : PyData) (t : Nat) : PyData := .tuple [.str "test", c, .int (t : Nat)]
def insJ (t : Nat) : PyData := .tuple [.str "jump", .int (t : Nat)]
section
variable {P : Program} {w : World} {K : PySem.W.Frag} {mg : Str → Option Value} {base : Heap}
end
abbrev sLaw : Stmt := top 85
section
variable {P : Program} {w : World} {K : PySem.W.Frag} {mg : Str → Option Value} {base : Heap}
end
/-- an instruction -/
inductive Ins where
  | set (v : Str) (n : Int)
  | add (v : Str) (t : PyData)
  | wait (n : Int)
  | ask (g : Str) (t : PyData) (v : Str)
  | ans (n : Int)
  | grow (t : PyData)
  | lst (t : PyData)
  | test (c : PyData) (t : Nat)
  | jump (t : Nat)
def Ins.toD : Ins → PyData
  | .set v n => .tuple [.str "set", .str v, .int n]
  | .add v t => .tuple [.str "add", .str v, t]
  | .wait n => .tuple [.str "wait", .int n]
  | .ask g t v => .tuple [.str "ask", .str g, t, .str v]
  | .ans n => .tuple [.str "answer", .int n]
  | .grow t => .tuple [.str "grow", t]
  | .lst t => .tuple [.str "list", t]
  | .test c t => insT c t
  | .jump t => insJ t
def okV (v : Str) : Prop := v = "a" ∨ v = "b"
def Ins.ok (k : Str) : Ins → Prop
  | .set v n => okV v ∧ 0 ≤ n ∧ n ≤ 15
  | .add v t => okV v ∧ isTerm t = true
  | .wait n => 1 ≤ n ∧ n ≤ longest
  | .ask g t v => k = "teller" ∧ (g = "+" ∨ g = "-" ∨ g = "=") ∧ isTerm t = true ∧ okV v
  | .ans n => k = "teller" ∧ (n = 0 ∨ n = 1)
  | .grow t => ¬ k = "teller" ∧ isTerm t = true
  | .lst t => ¬ k = "teller" ∧ isTerm t = true
  | .test c _ => isCond c = true
  | .jump _ => True
/-! ### what an instruction does -/
def vget (a b : Int) (v : Str) : Int := if v = "a" then a else b
def tval (a b : Int) : PyData → Int
  | .str z => vget a b z
  | .int i => i
  | _ => 0
def cval (a b : Int) : PyData → Bool
  | .tuple [.str v, .str g, t] => if g = "==" then decide (vget a b v = tval a b t) else if g = "!=" then !decide (vget a b v = tval a b t) else decide (vget a b v < tval a b t)
  | _ => false
def Ins.cost : Ins → Int
  | .wait n => n
  | _ => 1
def Ins.next (pc : Nat) (a b : Int) : Ins → Nat
  | .jump t => t
  | .test c t => if cval a b c = true then pc + 1 else t
  | _ => pc + 1
def vput (v : Str) (n : Int) (p : Int × Int) : Int × Int := if v = "a" then (n, p.2) else (p.1, n)
def Ins.held (a b : Int) : Ins → Int × Int
  | .set v n => vput v n (a, b)
  | .add v t => vput v ((vget a b v + tval a b t) % 16) (a, b)
  | _ => (a, b)
def Ins.grown (a b : Int) : Ins → Int
  | .grow t => tval a b t
  | _ => 0
def place (x a b : Int) (g : Str) (t : PyData) : Int := if g = "+" then x + tval a b t else if g = "-" then x - tval a b t else tval a b t
def in16 (a b : Int) : Prop := (0 ≤ a ∧ a ≤ 15) ∧ 0 ≤ b ∧ b ≤ 15
def Ins.word : Ins → Str
  | .set _ _ => "set"
  | .add _ _ => "add"
  | .wait _ => "wait"
  | .ask _ _ _ => "ask"
  | .ans _ => "answer"
  | .grow _ => "grow"
  | .lst _ => "list"
  | .test _ _ => "test"
  | .jump _ => "jump"
def Ins.parts : Ins → List PyData
  | .set v n => [.str v, .int n]
  | .add v t => [.str v, t]
  | .wait n => [.int n]
  | .ask g t v => [.str g, t, .str v]
  | .ans n => [.int n]
  | .grow t => [t]
  | .lst t => [t]
  | .test c t => [c, .int (t : Nat)]
  | .jump t => [.int (t : Nat)]
theorem dp_solo {K : PySem.W.Frag} {H : Hp} {xs : List V} {d : PyData} (h : DpAll K H xs [d]) : ∃ x, xs = [x] ∧ Dp K H x d := by
  cases h with
  | cons h0 t => cases t; exact ⟨_, rfl, h0⟩
theorem dp_pair {K : PySem.W.Frag} {H : Hp} {xs : List V} {d e : PyData} (h : DpAll K H xs [d, e]) : ∃ x y, xs = [x, y] ∧ Dp K H x d ∧ Dp K H y e := by
  cases h with
  | cons h0 t =>
    obtain ⟨y, rfl, h1⟩ := dp_solo t
    exact ⟨_, _, rfl, h0, h1⟩
/-! ### the object of a walk -/
def wf (cd hd sn : Addr) (pc : Nat) (ct t : Int) (ex : List (Str × V)) : List (Str × V) := ("code", .ref cd) :: ("at", .int pc) :: ("held", .ref hd) :: ("counter", .int ct) :: ("taken", .int t) :: ("seen", .ref sn) :: ex
def hv (a b : Int) : List (Key × V) := [(Sum.inr "a", .int a), (Sum.inr "b", .int b)]
/-- a method of a class -/
structure MCal (P : Program) (w : World) (K : PySem.W.Frag) (mg : Str → Option Value) (base : Heap) (k : Nat) (C : Addr) (x : Str) (ps : List Str) (sp : Sp) where
  f : Addr
  fd : FuncData
  G : FnOk P w K mg base CX0 k f fd ps sp
  b : Binds K fd ps []
  m : Meth K C x f
/-- a walk stands at wk -/
structure WkA (K : PySem.W.Frag) (H : Hp) (C wk dx cd hd sn : Addr) (pc : Nat) (a b ct t : Int) (ex : List (Str × V)) : Prop where
  ob : H wk = some (.ins C dx (wf cd hd sn pc ct t ex))
  hl : H hd = some (.dK (hv a b))
section
variable {P : Program} {w : World} {K : PySem.W.Frag} {mg : Str → Option Value} {base : Heap}
end
/-! ### data stand over a change of objects that are no sequences -/
def seqO : HO → Prop
  | .lst _ => True
  | .tup _ => True
  | .frz _ _ => True
  | _ => False
def KeepS (H H' : Hp) : Prop := ∀ a o, seqO o → H a = some o → H' a = some o
theorem KeepS.rd {H H' : Hp} {a : Addr} {u : HO} (k : KeepS H H') (hu : seqO u) (h : Rd H a u) : Rd H' a u := by
  rcases h with h | ⟨o, h⟩
  · exact .inl (k _ _ hu h)
  · exact .inr ⟨o, k _ _ trivial h⟩
theorem KeepS.tup {K : PySem.W.Frag} {H H' : Hp} {a : Addr} {xs : List V} (k : KeepS H H') (h : SqT K H a xs) : SqT K H' a xs := h.elim (fun r => .inl (k.rd trivial r)) .inr
theorem KeepS.lst {K : PySem.W.Frag} {H H' : Hp} {a : Addr} {xs : List V} (k : KeepS H H') (h : SqL K H a xs) : SqL K H' a xs := h.elim (fun r => .inl (k.rd trivial r)) .inr
theorem KeepS.upd {H : Hp} {p : Addr} {o u : HO} (h : H p = some o) (n : ¬ seqO o) : KeepS H (upd H p u) := fun a x hx e => by
  rw [upd_ne]
  · exact e
  · intro z
    subst z
    rw [h] at e
    cases e
    exact n hx
theorem KeepS.trans {H H' H'' : Hp} (a : KeepS H H') (b : KeepS H' H'') : KeepS H H'' := fun x o hx e => b x o hx (a x o hx e)
theorem KeepS.of {H H' : Hp} (s : Same H H') : KeepS H H' := fun x o _ e => s x o e
/-- nothing but what stands at these places has changed -/
def Fx (S : List Addr) (H H' : Hp) : Prop := ∀ p o, p ∉ S → H p = some o → H' p = some o
theorem Fx.of {S : List Addr} {H H' : Hp} (s : Same H H') : Fx S H H' := fun p o _ e => s p o e
theorem Fx.trans {S : List Addr} {H H' H'' : Hp} (a : Fx S H H') (b : Fx S H' H'') : Fx S H H'' := fun p o n e => b p o n (a p o n e)
theorem Fx.upd {S : List Addr} {H : Hp} {p : Addr} {o : HO} (m : p ∈ S) : Fx S H (upd H p o) := fun q x n e => by
  rw [upd_ne (fun z : q = p => n (by rw [z]; exact m))]
  exact e
theorem Fx.mono {S S' : List Addr} {H H' : Hp} (h : ∀ p ∈ S, p ∈ S') (a : Fx S H H') : Fx S' H H' := fun p o n e => a p o (fun m => n (h p m)) e
/-- what was changed was new: nothing has changed for who stood before -/
theorem Fx.same {S : List Addr} {H0 H H' : Hp} (s : Same H0 H) (n : ∀ p ∈ S, H0 p = none) (a : Fx S H H') : Same H0 H' := fun p o e => a p o (fun m => by rw [n p m] at e; cases e) (s p o e)
def keyS (pc : Nat) (a b : Int) : List Key := [Sum.inl (pc : Int), Sum.inl a, Sum.inl b]
section
variable {P : Program} {w : World} {K : PySem.W.Frag} {mg : Str → Option Value} {base : Heap}
end
/-! ### C.m(e, ..), C a class of the program, m a def of it -/
section
variable {X : Cx} {CX : CXT} {k : Nat} {C f : Addr} {fd : FuncData} {ps : List Str} {ds : List Value} {dvs : List V} {mc : Value} {sp : Sp} {E : XK} {o e : Expr} {es : List Expr} {m : Str} {pos apos : Pos} {ta : TE} {t : TA} {pl : Sem Bool}
end
def exT (x : Int) (pr qs : Addr) : List (Str × V) := [("position", .int x), ("present", .ref pr), ("questions", .ref qs)]
/-- the asked positions as a dict -/
def qD (ps : List Int) : List (Key × V) := ps.map fun p => (Sum.inl p, .bl true)
/-- a teller's walk stands at wk: its present members are those that mem tells, it has asked about ps -/
structure TkA (K : PySem.W.Frag) (H : Hp) (C wk dx cd hd sn pr qs : Addr) (pc : Nat) (a b t x : Int) (mem : Int → Bool) (ps : List Int) : Prop where
  wa : WkA K H C wk dx cd hd sn pc a b 0 t (exT x pr qs)
  pre : ∃ kvs, H pr = some (.dK kvs) ∧ ∀ z : Int, (valV kvs (Sum.inl z : Key)).isSome = mem z
  que : H qs = some (.dK (qD ps))
  apart : pr ≠ qs ∧ hd ≠ pr
def isort (ps : List Int) : List Int := ps.mergeSort (fun x y => decide (x ≤ y))
section
variable {P : Program} {w : World} {K : PySem.W.Frag} {mg : Str → Option Value} {base : Heap}
end
section
variable {P : Program} {w : World} {K : PySem.W.Frag} {mg : Str → Option Value} {base : Heap}
end
structure S3 where
  pc : Nat
  a : Int
  b : Int
deriving DecidableEq
/-- what comes of a run -/
inductive Res where
  | ans (v t : Int) (ps : List Int)
  | ended (t : Int) (ps : List Int)
  | silent (f s : Int) (ps : List Int)
  | run (ps : List Int)
def lookS (s : S3) (seen : List (S3 × Int)) : Option Int := (seen.find? fun e => decide (e.1 = s)).map (·.2)
def over (lim : Option Int) (t : Int) : Bool := match lim with
  | none => false
  | some L => decide (L < t)
def fuel (code : List Ins) : Nat := code.length * 256 + 1
/-! ### at most so many states -/
def okS3 (code : List Ins) (s : S3) : Prop := s.pc < code.length ∧ in16 s.a s.b
/-! ### the dict of states -/
def keyOf (s : S3) : List Key := keyS s.pc s.a s.b
theorem keyOf_inj {s s' : S3} (h : keyOf s = keyOf s') : s = s' := by
  obtain ⟨pc, a, b⟩ := s
  obtain ⟨pc', a', b'⟩ := s'
  unfold keyOf keyS at h
  injection h with h1 h
  injection h with h2 h
  injection h with h3 h
  injection h1 with h1
  injection h2 with h2
  injection h3 with h3
  simp only at h1 h2 h3
  have e1 : pc = pc' := by omega
  rw [e1, h2, h3]
inductive SeenR (H : Hp) : List (List Key × V) → List (S3 × Int) → Prop
  | nil : SeenR H [] []
  | cons {s : S3} {t : Int} {r : Addr} {kvs : List (List Key × V)} {seen : List (S3 × Int)} : H r = some (.tup [.int t, .int 0]) → SeenR H kvs seen → SeenR H ((keyOf s, .ref r) :: kvs) ((s, t) :: seen)
theorem SeenR.len {H : Hp} : ∀ {kvs : List (List Key × V)} {seen : List (S3 × Int)}, SeenR H kvs seen → kvs.length = seen.length
  | _, _, .nil => rfl
  | _, _, .cons _ h => by rw [List.length_cons, List.length_cons, h.len]
theorem SeenR.keep {H H' : Hp} (k : KeepS H H') : ∀ {kvs : List (List Key × V)} {seen : List (S3 × Int)}, SeenR H kvs seen → SeenR H' kvs seen
  | _, _, .nil => .nil
  | _, _, .cons e h => .cons (k _ _ trivial e) (h.keep k)
theorem SeenR.snoc {H : Hp} {s : S3} {t : Int} {r : Addr} (e : H r = some (.tup [.int t, .int 0])) : ∀ {kvs : List (List Key × V)} {seen : List (S3 × Int)}, SeenR H kvs seen → SeenR H (kvs ++ [(keyOf s, .ref r)]) (seen ++ [(s, t)])
  | _, _, .nil => .cons e .nil
  | _, _, .cons e' h => .cons e' (h.snoc e)
theorem SeenR.look {H : Hp} (s : S3) : ∀ {kvs : List (List Key × V)} {seen : List (S3 × Int)}, SeenR H kvs seen →
    (valV kvs (keyOf s) = none ∧ lookS s seen = none) ∨ ∃ r t, valV kvs (keyOf s) = some (.ref r) ∧ lookS s seen = some t ∧ H r = some (.tup [.int t, .int 0])
  | _, _, .nil => .inl ⟨rfl, rfl⟩
  | _, _, .cons (s := s0) (t := t0) (r := r0) (kvs := kvs) (seen := seen) e h => by
    by_cases c : s0 = s
    · subst c
      refine .inr ⟨r0, t0, valV_pos rfl, ?_, e⟩
      simp [lookS]
    · have e1 : lookS s ((s0, t0) :: seen) = lookS s seen := by simp [lookS, List.find?_cons, c]
      have e2 : valV ((keyOf s0, V.ref r0) :: kvs) (keyOf s) = valV kvs (keyOf s) := valV_neg (fun z => c (keyOf_inj z))
      rw [e1, e2]
      exact h.look s
/-! ### the object that tells it -/
def resOut : Res → Str
  | .ans _ _ _ => "answered"
  | .ended _ _ => "ended"
  | .silent _ _ _ => "silent"
  | .run _ => "running"
def resAns : Res → V
  | .ans v _ _ => .int v
  | _ => .non
def resLen : Res → V
  | .ans _ t _ => .int t
  | .ended t _ => .int t
  | _ => .non
def resFst : Res → V
  | .silent f _ _ => .int f
  | _ => .non
def resSnd : Res → V
  | .silent _ s _ => .int s
  | _ => .non
def resPs : Res → List Int
  | .ans _ _ ps => isort ps
  | .ended _ ps => isort ps
  | .silent _ _ ps => isort ps
  | .run ps => isort ps
def rf (o : Str) (an l f s : V) (as : Addr) : List (Str × V) := [("outcome", .str o), ("answer", an), ("length", l), ("first", f), ("second", s), ("asked", .ref as)]
def RunV (H : Hp) (C r dx as : Addr) (o : Str) (an l f s : V) (ns : List Int) : Prop := H r = some (.ins C dx (rf o an l f s as)) ∧ H as = some (.lst (ns.map V.int))
def RunA (H : Hp) (C r : Addr) (R : Res) : Prop := ∃ dx as, RunV H C r dx as (resOut R) (resAns R) (resLen R) (resFst R) (resSnd R) (resPs R)
section
variable {P : Program} {w : World} {K : PySem.W.Frag} {mg : Str → Option Value} {base : Heap}
end
theorem TkA.hq {K : PySem.W.Frag} {H : Hp} {C wk dx cd hd sn pr qs : Addr} {pc : Nat} {a b t x : Int} {mem : Int → Bool} {ps : List Int} (h : TkA K H C wk dx cd hd sn pr qs pc a b t x mem ps) : hd ≠ qs := by
  intro e
  have h1 := h.wa.hl
  rw [e, h.que] at h1
  injection h1 with h1
  injection h1 with h1
  cases ps with
  | nil => cases h1
  | cons p0 r0 =>
    injection h1 with h1 _
    injection h1 with h1 _
    cases h1
section
variable {P : Program} {w : World} {K : PySem.W.Frag} {mg : Str → Option Value} {base : Heap}
end
section
variable {P : Program} {w : World} {K : PySem.W.Frag} {mg : Str → Option Value} {base : Heap}
end
section
variable {code : List Ins} {x : Int} {mem : Int → Bool}
end
section
variable {K : PySem.W.Frag} {f : Addr} {fd : FuncData}
end
section
variable {P : Program} {w : World} {K : PySem.W.Frag} {mg : Str → Option Value} {base : Heap}
end
/-! ### a whole run ends -/
/-! ### the law's own steps -/
section
variable {P : Program} {w : World} {K : PySem.W.Frag} {mg : Str → Option Value} {base : Heap}
end
/-! ### where instructions lead -/
/-! ### the law's dict of states -/
/-! ### data without lists, over a heap whose lists change -/
def tupH (H : Hp) : Hp := fun a => match H a with
  | some (.tup xs) => some (.tup xs)
  | some (.frz o u) => some (.frz o u)
  | _ => none
theorem tupH_same (H : Hp) : Same (tupH H) H := fun a o h => by
  unfold tupH at h
  split at h
  · rename_i e; rw [e]; exact h
  · rename_i e; rw [e]; exact h
  · cases h
def KeepT (H H' : Hp) : Prop := (∀ a xs, H a = some (.tup xs) → H' a = some (.tup xs)) ∧ ∀ a o u, H a = some (.frz o u) → H' a = some (.frz o u)
theorem KeepT.same {H H' : Hp} (k : KeepT H H') : Same (tupH H) (tupH H') := fun a o h => by
  unfold tupH at h
  split at h
  · rename_i e
    unfold tupH
    rw [k.1 _ _ e]
    exact h
  · rename_i e
    unfold tupH
    rw [k.2 _ _ _ e]
    exact h
  · cases h
theorem KeepT.trans {H H' H'' : Hp} (a : KeepT H H') (b : KeepT H' H'') : KeepT H H'' := ⟨fun x xs e => b.1 _ _ (a.1 _ _ e), fun x o u e => b.2 _ _ _ (a.2 _ _ _ e)⟩
theorem KeepT.of {H H' : Hp} (s : Same H H') : KeepT H H' := ⟨fun x xs e => s _ _ e, fun x o u e => s _ _ e⟩
theorem KeepT.fr {b : Addr} {H H' : Hp} (hb : ∃ xs, H b = some (.lst xs)) (f : Fr b H H') : KeepT H H' := by
  obtain ⟨xs, hb⟩ := hb
  exact ⟨fun x ys e => f _ _ (fun z => by rw [z, hb] at e; cases e) e, fun x o u e => f _ _ (fun z => by rw [z, hb] at e; cases e) e⟩
theorem KeepT.upd {b : Addr} {H : Hp} {o : HO} (hb : ∃ xs, H b = some (.lst xs)) : KeepT H (upd H b o) := KeepT.fr hb (Fr.upd o)
abbrev Dt (K : PySem.W.Frag) (H : Hp) (v : V) (d : PyData) : Prop := Dp K (tupH H) v d
theorem Bag.lst {H : Hp} {b : Addr} (h : Bag H b) : ∃ xs, H b = some (.lst xs) := by
  obtain ⟨c, s, e, _⟩ := h
  exact ⟨_, e⟩
/-! ### the walk of a collector -/
inductive LP where
  | fin (rows : List (Int × Int))
  | cyc (f c t ct : Int) (rows : List (Int × Int))
def lookL (s : S3) (seen : List (S3 × (Int × Int))) : Option (Int × Int) := (seen.find? fun e => decide (e.1 = s)).map (·.2)
def rowsOf (t ct : Int) (s : S3) : Ins → List (Int × Int)
  | .lst d => [(t + 1, ct + tval s.a s.b d)]
  | _ => []
def nextL (s : S3) (i : Ins) : S3 := ⟨i.next s.pc s.a s.b, (i.held s.a s.b).1, (i.held s.a s.b).2⟩
def loopL (code : List Ins) : Nat → S3 → Int → Int → List (S3 × (Int × Int)) → List (Int × Int) → LP
  | 0, _, _, _, _, rows => .fin rows
  | n + 1, s, t, ct, seen, rows => match lookL s seen with
    | some fc => .cyc fc.1 fc.2 t ct rows
    | none => match code[s.pc]? with
      | none => .fin rows
      | some i => loopL code n (nextL s i) (t + i.cost) (ct + i.grown s.a s.b) (seen ++ [(s, (t, ct))]) (rows ++ rowsOf t ct s i)
/-- head, cycle, period, shift -/
def lpHead : LP → List (Int × Int)
  | .fin rows => rows
  | .cyc f _ _ _ rows => rows.filter fun r => decide (r.1 ≤ f)
def lpCycle : LP → List (Int × Int)
  | .fin _ => []
  | .cyc f _ _ _ rows => rows.filter fun r => decide (f < r.1)
def lpPer : LP → Int
  | .fin _ => 0
  | .cyc f _ t _ _ => t - f
def lpShift : LP → Int
  | .fin _ => 0
  | .cyc _ c _ ct _ => ct - c
/-- rows as data -/
def rowD (r : Int × Int) : PyData := .tuple [.int r.1, .int r.2]
theorem row_inv {K : PySem.W.Frag} {H : Hp} {v : V} {r : Int × Int} (h : Dp K H v (rowD r)) : ∃ p, v = .ref p ∧ SqT K H p [.int r.1, .int r.2] := by
  obtain ⟨p, xs, rfl, hs, ha⟩ := dp_tup_inv h
  obtain ⟨x, y, rfl, hx, hy⟩ := dp_pair ha
  cases hx
  cases hy
  exact ⟨p, rfl, hs⟩
/-! ### the dict of states -/
inductive SeenL (H : Hp) : List (List Key × V) → List (S3 × (Int × Int)) → Prop
  | nil : SeenL H [] []
  | cons {s : S3} {t ct : Int} {r : Addr} {kvs : List (List Key × V)} {seen : List (S3 × (Int × Int))} : H r = some (.tup [.int t, .int ct]) → SeenL H kvs seen → SeenL H ((keyOf s, .ref r) :: kvs) ((s, (t, ct)) :: seen)
theorem SeenL.len {H : Hp} : ∀ {kvs : List (List Key × V)} {seen : List (S3 × (Int × Int))}, SeenL H kvs seen → kvs.length = seen.length
  | _, _, .nil => rfl
  | _, _, .cons _ h => by rw [List.length_cons, List.length_cons, h.len]
theorem SeenL.keep {H H' : Hp} (k : KeepT H H') : ∀ {kvs : List (List Key × V)} {seen : List (S3 × (Int × Int))}, SeenL H kvs seen → SeenL H' kvs seen
  | _, _, .nil => .nil
  | _, _, .cons e h => .cons (k.1 _ _ e) (h.keep k)
theorem SeenL.snoc {H : Hp} {s : S3} {t ct : Int} {r : Addr} (e : H r = some (.tup [.int t, .int ct])) : ∀ {kvs : List (List Key × V)} {seen : List (S3 × (Int × Int))}, SeenL H kvs seen → SeenL H (kvs ++ [(keyOf s, .ref r)]) (seen ++ [(s, (t, ct))])
  | _, _, .nil => .cons e .nil
  | _, _, .cons e' h => .cons e' (h.snoc e)
theorem SeenL.look {H : Hp} (s : S3) : ∀ {kvs : List (List Key × V)} {seen : List (S3 × (Int × Int))}, SeenL H kvs seen →
    (valV kvs (keyOf s) = none ∧ lookL s seen = none) ∨ ∃ r t ct, valV kvs (keyOf s) = some (.ref r) ∧ lookL s seen = some (t, ct) ∧ H r = some (.tup [.int t, .int ct])
  | _, _, .nil => .inl ⟨rfl, rfl⟩
  | _, _, .cons (s := s0) (t := t0) (ct := c0) (r := r0) (kvs := kvs) (seen := seen) e h => by
    by_cases c : s0 = s
    · subst c
      refine .inr ⟨r0, t0, c0, valV_pos rfl, ?_, e⟩
      simp [lookL]
    · have e1 : lookL s ((s0, (t0, c0)) :: seen) = lookL s seen := by simp [lookL, List.find?_cons, c]
      have e2 : valV ((keyOf s0, V.ref r0) :: kvs) (keyOf s) = valV kvs (keyOf s) := valV_neg (fun z => c (keyOf_inj z))
      rw [e1, e2]
      exact h.look s
/-! ### rows, each a tuple of its own -/
inductive RowsAt (H : Hp) : List V → List (Int × Int) → Prop
  | nil : RowsAt H [] []
  | cons {p : Addr} {r : Int × Int} {xs : List V} {rows : List (Int × Int)} : H p = some (.tup [.int r.1, .int r.2]) → RowsAt H xs rows → RowsAt H (.ref p :: xs) (r :: rows)
theorem RowsAt.len {H : Hp} : ∀ {xs : List V} {rows : List (Int × Int)}, RowsAt H xs rows → xs.length = rows.length
  | _, _, .nil => rfl
  | _, _, .cons _ h => by rw [List.length_cons, List.length_cons, h.len]
theorem RowsAt.keepA {H H' : Hp} (k : ∀ a ys, H a = some (.tup ys) → H' a = some (.tup ys)) : ∀ {xs : List V} {rows : List (Int × Int)}, RowsAt H xs rows → RowsAt H' xs rows
  | _, _, .nil => .nil
  | _, _, .cons e h => .cons (k _ _ e) (h.keepA k)
theorem RowsAt.keep {H H' : Hp} (k : KeepT H H') {xs : List V} {rows : List (Int × Int)} (h : RowsAt H xs rows) : RowsAt H' xs rows := h.keepA k.1
theorem RowsAt.one {H : Hp} {p : Addr} {r : Int × Int} (e : H p = some (.tup [.int r.1, .int r.2])) : RowsAt H [.ref p] [r] := .cons e .nil
theorem RowsAt.get {H : Hp} : ∀ {xs : List V} {rows : List (Int × Int)} {i : Nat} {v : V}, RowsAt H xs rows → xs[i]? = some v → ∃ p r, v = .ref p ∧ rows[i]? = some r ∧ H p = some (.tup [.int r.1, .int r.2])
  | _, _, _, _, .nil, h => nomatch h
  | _, _, 0, _, .cons e _, h => by
    have ev := Option.some.inj h
    subst ev
    exact ⟨_, _, rfl, rfl, e⟩
  | _, _, i + 1, _, .cons _ g, h => g.get (i := i) h
theorem RowsAt.mem {H : Hp} {xs : List V} {rows : List (Int × Int)} (h : RowsAt H xs rows) {v : V} (m : v ∈ xs) : ∃ p r, v = .ref p ∧ r ∈ rows ∧ H p = some (.tup [.int r.1, .int r.2]) := by
  obtain ⟨i, hi⟩ := List.getElem?_of_mem m
  obtain ⟨p, r, rfl, hr, e⟩ := h.get hi
  exact ⟨p, r, rfl, List.mem_of_getElem? hr, e⟩
theorem RowsAt.dp {K : PySem.W.Frag} {H : Hp} : ∀ {xs : List V} {rows : List (Int × Int)}, RowsAt H xs rows → DpAll K (tupH H) xs (rows.map rowD)
  | _, _, .nil => .nil
  | _, _, .cons (p := p) (r := r) e h => .cons (.tup (SqT.of (show tupH H p = some (.tup [.int r.1, .int r.2]) by unfold tupH; rw [e])) (.cons (.int r.1) (.cons (.int r.2) .nil))) h.dp
/-! ### the law's own listing -/
/-- the four parts of a list as a tuple -/
def TupL (K : PySem.W.Frag) (H : Hp) (t : Addr) (L : LP) : Prop := ∃ (h c : Addr) (xs ys : List V), H t = some (.tup [.ref h, .ref c, .int (lpPer L), .int (lpShift L)]) ∧ H h = some (.lst xs) ∧ H c = some (.lst ys) ∧ DpAll K (tupH H) xs ((lpHead L).map rowD) ∧ DpAll K (tupH H) ys ((lpCycle L).map rowD)
def TupLR (K : PySem.W.Frag) (H : Hp) (t : Addr) (L : LP) : Prop := ∃ (h c : Addr) (xs ys : List V), H t = some (.tup [.ref h, .ref c, .int (lpPer L), .int (lpShift L)]) ∧ H h = some (.lst xs) ∧ H c = some (.lst ys) ∧ RowsAt H xs (lpHead L) ∧ RowsAt H ys (lpCycle L)
theorem TupLR.a {K : PySem.W.Frag} {H : Hp} {t : Addr} {L : LP} (h : TupLR K H t L) : TupL K H t L := by
  obtain ⟨hd, cy, xs, ys, h1, h2, h3, h4, h5⟩ := h
  exact ⟨hd, cy, xs, ys, h1, h2, h3, h4.dp, h5.dp⟩
section
variable {P : Program} {w : World} {K : PySem.W.Frag} {mg : Str → Option Value} {base : Heap}
end
/-! ### the program's list_parts -/
/-- the state of the loop: the state stands noted, or was met before -/
structure PrtI (K : PySem.W.Frag) (H0 H : Hp) (C wk dx cd hd sn li : Addr) (code : List Ins) (R : LP) (m : Nat) (s : S3) (t ct : Int) (seen : List (S3 × (Int × Int))) (rows : List (Int × Int)) (bf : V) : Prop where
  sm : Same H0 H
  nw : H0 wk = none
  nh : H0 hd = none
  ns : H0 sn = none
  nl : H0 li = none
  wa : WkA K H C wk dx cd hd sn s.pc s.a s.b ct t []
  ro : ∃ xs, H li = some (.lst xs) ∧ RowsAt H xs rows
  nd : (seen.map (·.1)).Nodup
  ok : ∀ e ∈ seen, okS3 code e.1
  i16 : in16 s.a s.b
  rl : rows.length ≤ seen.length
  eq : loopL code (m + 1) s t ct seen rows = R
  fu : m + 1 + seen.length = fuel code
  bf : (bf = .non ∧ lookL s seen = none ∧ ∃ kvs, H sn = some (.dT kvs) ∧ SeenL H kvs (seen ++ [(s, (t, ct))])) ∨ ∃ r f c, bf = .ref r ∧ lookL s seen = some (f, c) ∧ H r = some (.tup [.int f, .int c])
/-- ahead of a look at the state -/
structure PreI (K : PySem.W.Frag) (H0 H : Hp) (C wk dx cd hd sn li : Addr) (code : List Ins) (R : LP) (m : Nat) (s : S3) (t ct : Int) (seen : List (S3 × (Int × Int))) (rows : List (Int × Int)) (kvs : List (List Key × V)) : Prop where
  sm : Same H0 H
  nw : H0 wk = none
  nh : H0 hd = none
  ns : H0 sn = none
  nl : H0 li = none
  wa : WkA K H C wk dx cd hd sn s.pc s.a s.b ct t []
  ro : ∃ xs, H li = some (.lst xs) ∧ RowsAt H xs rows
  nd : (seen.map (·.1)).Nodup
  ok : ∀ e ∈ seen, okS3 code e.1
  i16 : in16 s.a s.b
  rl : rows.length ≤ seen.length
  eq : loopL code (m + 1) s t ct seen rows = R
  fu : m + 1 + seen.length = fuel code
  sn0 : H sn = some (.dT kvs)
  se : SeenL H kvs seen
section
variable {K : PySem.W.Frag} {H0 H H' : Hp} {C wk dx cd hd sn li : Addr} {code : List Ins} {R : LP} {m : Nat} {s : S3} {t ct : Int} {seen : List (S3 × (Int × Int))} {rows : List (Int × Int)} {kvs : List (List Key × V)} {r : Addr}
theorem PreI.met (L : PreI K H0 H C wk dx cd hd sn li code R m s t ct seen rows kvs) (hv : valV kvs (keyOf s) = some (.ref r)) (u : Same H H') : PrtI K H0 H' C wk dx cd hd sn li code R m s t ct seen rows (.ref r) := by
  obtain ⟨xs, e, d⟩ := L.ro
  refine ⟨L.sm.trans u, L.nw, L.nh, L.ns, L.nl, ⟨u _ _ L.wa.ob, u _ _ L.wa.hl⟩, ⟨xs, u _ _ e, d.keep (KeepT.of u)⟩, L.nd, L.ok, L.i16, L.rl, L.eq, L.fu, .inr ?_⟩
  rcases L.se.look s with ⟨h1, _⟩ | ⟨r', f, c, h1, h2, h3⟩
  · rw [h1] at hv; cases hv
  · rw [h1] at hv
    have e : r' = r := by injection hv with hv; injection hv
    subst e
    exact ⟨r', f, c, rfl, h2, u _ _ h3⟩
theorem PreI.new (L : PreI K H0 H C wk dx cd hd sn li code R m s t ct seen rows kvs) (hv : valV kvs (keyOf s) = none) (f : Fx [sn] H H') (e : H' sn = some (.dT (kvs ++ [(keyOf s, .ref r)]))) (er : H' r = some (.tup [.int t, .int ct])) : PrtI K H0 H' C wk dx cd hd sn li code R m s t ct seen rows .non := by
  obtain ⟨xs, el, d⟩ := L.ro
  have no : ∀ {q : Addr} {o : HO}, H q = some o → (∀ kv, o ≠ .dT kv) → H' q = some o := fun {q o} h n => f q o (fun mq => by
    rw [List.mem_singleton.mp mq, L.sn0] at h
    injection h with h
    exact n _ h.symm) h
  have k : KeepT H H' := ⟨fun x ys h => no h (fun _ z => nomatch z), fun x o u h => no h (fun _ z => nomatch z)⟩
  have hl0 : lookL s seen = none := by
    rcases L.se.look s with ⟨_, h2⟩ | ⟨r', f', c, h1, _, _⟩
    · exact h2
    · rw [h1] at hv; cases hv
  exact ⟨f.same L.sm (fun q mq => by rw [List.mem_singleton.mp mq]; exact L.ns), L.nw, L.nh, L.ns, L.nl, ⟨no L.wa.ob (fun _ z => nomatch z), no L.wa.hl (fun _ z => nomatch z)⟩, ⟨xs, no el (fun _ z => nomatch z), d.keep k⟩, L.nd, L.ok, L.i16, L.rl, L.eq, L.fu, .inl ⟨rfl, hl0, _, e, (L.se.keep k).snoc er⟩⟩
end
section
variable {P : Program} {w : World} {K : PySem.W.Frag} {mg : Str → Option Value} {base : Heap}
end
/-! ### the first step of each integer -/
def putF1 (acc : List (Int × Int)) (r : Int × Int) : List (Int × Int) := if acc.any (fun e => decide (e.1 = r.2)) = true then acc else acc ++ [(r.2, r.1)]
def firstS (rows : List (Int × Int)) : List (Int × Int) := rows.foldl putF1 []
def fsD (acc : List (Int × Int)) : List (Key × V) := acc.map fun e => (Sum.inl e.1, .int e.2)
section
variable {P : Program} {w : World} {K : PySem.W.Frag} {mg : Str → Option Value} {base : Heap}
end
/-! ### the object of a listing -/
def lsF (hd cy : Addr) (per sh : Int) (kh kc hs cs fm : Addr) : List (Str × V) := [("head", .ref hd), ("cycle", .ref cy), ("period", .int per), ("shift", .int sh), ("kept_head", .ref kh), ("kept_cycle", .ref kc), ("head_steps", .ref hs), ("cycle_steps", .ref cs), ("families", .ref fm)]
/-- what tells two listings apart, and what is_endless reads -/
structure LsA (K : PySem.W.Frag) (H : Hp) (C ls : Addr) (L : LP) : Prop where
  ex : ∃ (dx hd cy kh kc hs cs fm : Addr) (xs ys : List V), H ls = some (.ins C dx (lsF hd cy (lpPer L) (lpShift L) kh kc hs cs fm)) ∧ H hd = some (.lst xs) ∧ H cy = some (.lst ys) ∧ DpAll K (tupH H) xs ((lpHead L).map rowD) ∧ DpAll K (tupH H) ys ((lpCycle L).map rowD) ∧
    ∃ zs, SqT K H kc zs ∧ zs.length = (lpCycle L).length
def famZ (sh n : Int) : Int := if 0 < sh then n % sh else n
section
variable {P : Program} {w : World} {K : PySem.W.Frag} {mg : Str → Option Value} {base : Heap}
end
/-! ### a listing made -/
def lpRows : LP → List (Int × Int)
  | .fin rows => rows
  | .cyc _ _ _ _ rows => rows
/-! ### rows over a heap in which a dict is locked -/
def KeepR (H H' : Hp) : Prop := ∀ a ys, Rd H a (.tup ys) → Rd H' a (.tup ys)
theorem KeepR.of {H H' : Hp} (s : Same H H') : KeepR H H' := fun a ys h => by
  rcases h with h | ⟨o, h⟩
  · exact .inl (s _ _ h)
  · exact .inr ⟨o, s _ _ h⟩
theorem KeepR.t {H H' : Hp} (k : KeepT H H') : KeepR H H' := fun a ys h => by
  rcases h with h | ⟨o, h⟩
  · exact .inl (k.1 _ _ h)
  · exact .inr ⟨o, k.2 _ _ _ h⟩
theorem KeepR.trans {H H' H'' : Hp} (a : KeepR H H') (b : KeepR H' H'') : KeepR H H'' := fun x ys h => b _ _ (a _ _ h)
/-- a place that holds no tuple is written -/
theorem KeepR.upd {H : Hp} {d : Addr} {o u : HO} (h : H d = some u) (n1 : ∀ ys, u ≠ .tup ys) (n2 : ∀ q ys, u ≠ .frz q (.tup ys)) : KeepR H (L2.upd H d o) := fun a ys r => by
  have e : a ≠ d := fun z => by
    subst z
    rcases r with r | ⟨q, r⟩
    · rw [h] at r; injection r with r; exact n1 _ r
    · rw [h] at r; injection r with r; exact n2 _ _ r
  rcases r with r | ⟨q, r⟩
  · exact .inl (by rw [upd_ne e]; exact r)
  · exact .inr ⟨q, by rw [upd_ne e]; exact r⟩
theorem rd_tupH {H : Hp} {a : Addr} {ys : List V} (h : Rd H a (.tup ys)) : Rd (tupH H) a (.tup ys) := by
  rcases h with h | ⟨o, h⟩
  · exact .inl (by unfold tupH; rw [h])
  · exact .inr ⟨o, by unfold tupH; rw [h]⟩
theorem row_move {K : PySem.W.Frag} {H H' : Hp} (k : KeepR H H') {v : V} {r : Int × Int} (h : Dp K (tupH H) v (rowD r)) : Dp K (tupH H') v (rowD r) := by
  obtain ⟨p, rfl, hp⟩ := row_inv (dp_mono (tupH_same H) _ _ h)
  have hp' : SqT K (tupH H') p [.int r.1, .int r.2] := by
    rcases hp with hp | hp
    · exact .inl (rd_tupH (k _ _ hp))
    · exact .inr hp
  exact .tup hp' (.cons (.int _) (.cons (.int _) .nil))
theorem rows_move {K : PySem.W.Frag} {H H' : Hp} (k : KeepR H H') : ∀ {xs : List V} {rows : List (Int × Int)}, DpAll K (tupH H) xs (rows.map rowD) → DpAll K (tupH H') xs (rows.map rowD)
  | _, [], h => by cases h; exact .nil
  | _, r :: t, h => by
    rw [List.map_cons] at h
    cases h with
    | cons h1 h2 => exact .cons (row_move k h1) (rows_move k h2)
/-! ### the families -/
def addFam (z : Int) (r : Int × Int) : List (Int × List (Int × Int)) → List (Int × List (Int × Int))
  | [] => [(z, [r])]
  | e :: t => if e.1 = z then (e.1, e.2 ++ [r]) :: t else e :: addFam z r t
def famS (sh : Int) (cs : List (Int × Int)) : List (Int × List (Int × Int)) := cs.foldl (fun f e => addFam (famZ sh e.1) (e.2, e.1) f) []
/-- all rows of all families -/
def allFam (f : List (Int × List (Int × Int))) : Nat := (f.map fun e => e.2.length).sum
inductive FamR (K : PySem.W.Frag) (H : Hp) : List (Key × V) → List (Int × List (Int × Int)) → List Addr → Prop
  | nil : FamR K H [] [] []
  | cons {k : Int} {l : Addr} {xs : List V} {rows : List (Int × Int)} {kvs : List (Key × V)} {fam : List (Int × List (Int × Int))} {la : List Addr} : H l = some (.lst xs) → DpAll K (tupH H) xs (rows.map rowD) → l ∉ la → FamR K H kvs fam la → FamR K H ((Sum.inl k, .ref l) :: kvs) ((k, rows) :: fam) (l :: la)
theorem FamR.len {K : PySem.W.Frag} {H : Hp} : ∀ {kvs : List (Key × V)} {fam : List (Int × List (Int × Int))} {la : List Addr}, FamR K H kvs fam la → kvs.length = fam.length
  | _, _, _, .nil => rfl
  | _, _, _, .cons _ _ _ h => by rw [List.length_cons, List.length_cons, h.len]
theorem FamR.keep {K : PySem.W.Frag} {H H' : Hp} (k : KeepR H H') : ∀ {kvs : List (Key × V)} {fam : List (Int × List (Int × Int))} {la : List Addr}, (∀ a ∈ la, ∀ o, H a = some o → H' a = some o) → FamR K H kvs fam la → FamR K H' kvs fam la
  | _, _, _, _, .nil => .nil
  | _, _, _, m, .cons e d n h => .cons (m _ (List.mem_cons_self ..) _ e) (rows_move k d) n (h.keep k fun a ha => m a (List.mem_cons_of_mem _ ha))
theorem FamR.look {K : PySem.W.Frag} {H : Hp} (z : Int) : ∀ {kvs : List (Key × V)} {fam : List (Int × List (Int × Int))} {la : List Addr}, FamR K H kvs fam la →
    (valV kvs (Sum.inl z : Key) = none ∧ fam.lookup z = none) ∨ ∃ l xs rows, valV kvs (Sum.inl z : Key) = some (.ref l) ∧ l ∈ la ∧ fam.lookup z = some rows ∧ H l = some (.lst xs) ∧ DpAll K (tupH H) xs (rows.map rowD) ∧ rows.length ≤ allFam fam
  | _, _, _, .nil => .inl ⟨rfl, rfl⟩
  | _, _, _, .cons (k := k0) (l := l0) (xs := xs0) (rows := rows0) (kvs := kvs) (fam := fam) (la := la) e d n h => by
    by_cases c : k0 = z
    · subst c
      refine .inr ⟨l0, xs0, rows0, valV_pos rfl, List.mem_cons_self .., ?_, e, d, ?_⟩
      · simp [List.lookup]
      · simp only [allFam, List.map_cons, List.sum_cons]; omega
    · have e1 : ((k0, rows0) :: fam).lookup z = fam.lookup z := by
        rw [List.lookup_cons]
        have : (z == k0) = false := by simp; exact fun q => c q.symm
        rw [this]
      have e2 : valV ((Sum.inl k0, V.ref l0) :: kvs) (Sum.inl z : Key) = valV kvs (Sum.inl z : Key) := valV_neg (fun q => c (by injection q))
      rw [e1, e2]
      rcases h.look z with h | ⟨l, xs, rows, h1, h2, h3, h4, h5, h6⟩
      · exact .inl h
      · refine .inr ⟨l, xs, rows, h1, List.mem_cons_of_mem _ h2, h3, h4, h5, ?_⟩
        simp only [allFam, List.map_cons, List.sum_cons] at h6 ⊢
        omega
theorem FamR.new {K : PySem.W.Frag} {H : Hp} {z : Int} {l : Addr} {v : V} {r : Int × Int} (hv : Dp K (tupH H) v (rowD r)) (hl : H l = some (.lst [v])) : ∀ {kvs : List (Key × V)} {fam : List (Int × List (Int × Int))} {la : List Addr}, FamR K H kvs fam la → l ∉ la → valV kvs (Sum.inl z : Key) = none → FamR K H (kvs ++ [(Sum.inl z, .ref l)]) (addFam z r fam) (la ++ [l])
  | _, _, _, .nil => fun _ _ => .cons hl (.cons hv .nil) (fun m => nomatch m) .nil
  | _, _, _, .cons (k := k0) (l := l0) (xs := xs0) (rows := rows0) (kvs := kvs) (fam := fam) (la := la) e d n h => fun nl q => by
    have c : ¬ k0 = z := fun c => by
      rw [valV_pos (by rw [c])] at q
      cases q
    rw [valV_neg (fun w => c (by injection w))] at q
    unfold addFam
    rw [if_neg c]
    refine .cons e d (fun m => ?_) (h.new hv hl (fun m => nl (List.mem_cons_of_mem _ m)) q)
    rcases List.mem_append.mp m with m | m
    · exact n m
    · rw [List.mem_singleton.mp m] at nl
      exact nl (List.mem_cons_self ..)
/-- a listing, all of it -/
structure LsO (K : PySem.W.Frag) (H0 H : Hp) (C ls : Addr) (L : LP) : Prop where
  ex : ∃ (dx hd cy kh kc hs cs fm : Addr) (xs ys : List V) (kvs : List (Key × V)) (la : List Addr), H ls = some (.ins C dx (lsF hd cy (lpPer L) (lpShift L) kh kc hs cs fm)) ∧ H hd = some (.lst xs) ∧ H cy = some (.lst ys) ∧ RowsAt H xs (lpHead L) ∧ RowsAt H ys (lpCycle L) ∧
    H kh = some (.tup xs) ∧ H kc = some (.tup ys) ∧ H hs = some (.dK (fsD (firstS (lpHead L)))) ∧ H cs = some (.dK (fsD (firstS (lpCycle L)))) ∧ H fm = some (.dK kvs) ∧ FamR K H kvs (famS (lpShift L) (firstS (lpCycle L))) la ∧ H0 hd = none ∧ H0 cy = none ∧ hd ≠ cy ∧ hd ∉ la ∧ cy ∉ la ∧ (lpRows L).length ≤ 100000
theorem LsO.a {K : PySem.W.Frag} {H0 H : Hp} {C ls : Addr} {L : LP} (h : LsO K H0 H C ls L) : LsA K H C ls L := by
  obtain ⟨dx, hd, cy, kh, kc, hs, cs, fm, xs, ys, kvs, la, h1, h2, h3, h4, h5, h6, h7, _⟩ := h.ex
  refine ⟨dx, hd, cy, kh, kc, hs, cs, fm, xs, ys, h1, h2, h3, h4.dp, h5.dp, ys, SqT.of h7, h5.len⟩
section
variable {P : Program} {w : World} {K : PySem.W.Frag} {mg : Str → Option Value} {base : Heap}
end
/-! ### what holds of every walk of a collector -/
def RowsOk (rows : List (Int × Int)) (t ct : Int) : Prop := rows.Pairwise (fun a b => a.1 < b.1) ∧ ∀ r ∈ rows, 1 ≤ r.1 ∧ r.1 ≤ t ∧ 0 ≤ r.2 ∧ r.2 ≤ ct + 15
theorem RowsOk.mono {rows : List (Int × Int)} {t ct t' ct' : Int} (h : RowsOk rows t ct) (h1 : t ≤ t') (h2 : ct ≤ ct') : RowsOk rows t' ct' := ⟨h.1, fun r m => by
  obtain ⟨a, b, c, d⟩ := h.2 r m
  exact ⟨a, by omega, c, by omega⟩⟩
/-! ### until -/
section
variable {P : Program} {w : World} {K : PySem.W.Frag} {mg : Str → Option Value} {base : Heap}
end
section
variable {P : Program} {w : World} {K : PySem.W.Frag} {mg : Str → Option Value} {base : Heap}
end
end My

namespace NeX
open PySem PySem.Spec PyProof.Rows PySem.SeqAt
section
variable {M : Model} {prog : Program} {w : World} {A : Around} {E : Value → Shared → Prop} {s : Shared} {K : PySem.W.Frag} {x C f : Addr} {b : Value} {ox : Obj} {od : Option Obj}
end
end NeX
namespace My
open PySem L2 PySem.Spec PyProof.Rows
/-! ### x == y by the class's own ==, y whatever it is -/
section
variable {P : Program} {w : World} {K : PySem.W.Frag} {mg : Str → Option Value} {base : Heap}
end
def spLaw (K : PySem.W.Frag) : Sp := fun vs H Q _ => ∃ (a : Addr) (ns : List Int), vs = [.ref a] ∧ SqL K H a (ns.map V.int) ∧ ns.length ≤ 63 ∧ ∀ H', Q (.bl true) H'
theorem LsO.same {K : PySem.W.Frag} {H0 H H' : Hp} {C ls : Addr} {L : LP} (h : LsO K H0 H C ls L) (s : Same H H') : LsO K H0 H' C ls L := by
  obtain ⟨dx, hd, cy, kh, kc, hs, cs, fm, xs, ys, kvs, la, h1, h2, h3, h4, h5, h6, h7, h8, h9, h10, h11, r⟩ := h.ex
  exact ⟨dx, hd, cy, kh, kc, hs, cs, fm, xs, ys, kvs, la, s _ _ h1, s _ _ h2, s _ _ h3, h4.keep (KeepT.of s), h5.keep (KeepT.of s), s _ _ h6, s _ _ h7, s _ _ h8, s _ _ h9, s _ _ h10, h11.keep (KeepR.of s) (fun a _ o e => s _ _ e), r⟩
theorem LsA.same {K : PySem.W.Frag} {H H' : Hp} {C ls : Addr} {L : LP} (h : LsA K H C ls L) (s : Same H H') : LsA K H' C ls L := by
  obtain ⟨dx, hd, cy, kh, kc, hs, cs, fm, xs, ys, h1, h2, h3, h4, h5, zs, h6, h7⟩ := h.ex
  exact ⟨dx, hd, cy, kh, kc, hs, cs, fm, xs, ys, s _ _ h1, s _ _ h2, s _ _ h3, dpAll_mono (KeepT.of s).same _ _ h4, dpAll_mono (KeepT.of s).same _ _ h5, zs, Same.tup s h6, h7⟩
theorem TupL.same {K : PySem.W.Frag} {H H' : Hp} {t : Addr} {L : LP} (h : TupL K H t L) (s : Same H H') : TupL K H' t L := by
  obtain ⟨hd, cy, xs, ys, h1, h2, h3, h4, h5⟩ := h
  exact ⟨hd, cy, xs, ys, s _ _ h1, s _ _ h2, s _ _ h3, dpAll_mono (KeepT.of s).same _ _ h4, dpAll_mono (KeepT.of s).same _ _ h5⟩
theorem LsO.base {K : PySem.W.Frag} {H0 H1 H : Hp} {C ls : Addr} {L : LP} (h : LsO K H1 H C ls L) (s : Same H0 H1) : LsO K H0 H C ls L := by
  obtain ⟨dx, hd, cy, kh, kc, hs, cs, fm, xs, ys, kvs, la, h1, h2, h3, h4, h5, h6, h7, h8, h9, h10, h11, h12, h13, r⟩ := h.ex
  exact ⟨dx, hd, cy, kh, kc, hs, cs, fm, xs, ys, kvs, la, h1, h2, h3, h4, h5, h6, h7, h8, h9, h10, h11, s.free h12, s.free h13, r⟩
/-! ### the law's tuple as a datum -/
def tupD (L : LP) : PyData := .tuple [.list ((lpHead L).map rowD), .list ((lpCycle L).map rowD), .int (lpPer L), .int (lpShift L)]
theorem TupL.dp {K : PySem.W.Frag} {H : Hp} {t : Addr} {L : LP} (h : TupL K H t L) : Dp K H (.ref t) (tupD L) := by
  obtain ⟨hd, cy, xs, ys, h1, h2, h3, h4, h5⟩ := h
  exact .tup (SqT.of h1) (.cons (.lst (SqL.of h2) (dpAll_mono (tupH_same H) _ _ h4)) (.cons (.lst (SqL.of h3) (dpAll_mono (tupH_same H) _ _ h5)) (.cons (.int _) (.cons (.int _) .nil))))
end My

namespace My
open PySem PySem.Spec PyProof.Rows L2
/-! ### y = {k: v for .. in ..}, y a local name -/
/-! ### first_outside -/
section
variable {P : Program} {w : World} {K : PySem.W.Frag} {mg : Str → Option Value} {base : Heap}
end
end My

/-! ### min(xs, default=None): a list of ints, a list of pairs of ints -/
namespace MinD
open PySem
abbrev dkw : List (Str × Value) := [("default", .none)]
theorem hname : (toString "min" ++ toString ".loop" : String) = "min.loop" := by decide
abbrev lst2 (xs : Array Value) (c : Nat) : Obj := { cls := .type "list", dict := none, data := .seq xs c, slots := #[] }
section
variable {prog : Program} {w : World} {A : Around} {R : Result → Shared → Prop} {I S : Addr} {fp wr : List Addr} {n : Nat} {P : Nat → Value → Prop} {St : Nat → Heap → Prop} {bt : Nat → Nat → Bool} {G : Heap → Prop}
/-- the order on what the walk yields, in heaps under G -/
def CmpIn (prog : Program) (w : World) (A : Around) (G : Heap → Prop) (P : Nat → Value → Prop) (bt : Nat → Nat → Bool) : Prop :=
  ∀ i j vi vj (s : Shared) (Q : Value → Shared → Prop) (E : Value → Shared → Prop), G s.heap → P i vi → P j vj → Q (.bool (bt i j)) s → wpAny (model prog w) A (richCompare .Lt vi vj) Q E s
theorem loop (W : Walks prog w A.in1 I fp wr n P St) (hcmp : CmpIn prog w A.in1 G P bt) (hG : ∀ h h' : Heap, G h → (∀ b o, b ∉ wr → b ≠ S → h.get? b = some o → h'.get? b = some o) → G h') (hSf : S ∉ fp) :
    ∀ (k j : Nat) (s : Shared) (vb : Value) (c : Nat), n - (j + 1) = k → j + 1 ≤ n → St (j + 1) s.heap → P (argBest bt j) vb → G s.heap → s.heap.get? S = some (lst2 #[vb, vb] c) →
    (∀ v h' tk, P (argBest bt (n - 1)) v → (∀ b o, b ∉ wr → b ≠ S → s.heap.get? b = some o → h'.get? b = some o) → R (.ok (.ret v)) { s with heap := h', toks := tk }) →
    codeAny (model prog w) A (.builtin "min.loop" ⟨[.ref I, .none, .ref S], dkw⟩) R s := by
  have hSw : S ∉ wr := fun h => hSf (W.sub _ h)
  intro k
  induction k with
  | zero =>
    intro j s vb c hk hj hst hPb hg hS hR
    obtain rfl : n = j + 1 := by omega
    refine codeAny_builtin F.entry_min_loop ?_
    rw [Around.under_plainId F.plain_min_loop _]
    show wpAny _ A.in1 (seqItems? (.ref S) >>= _) _ _ s
    refine wpAny_bind (wpAny_seqItems hS rfl ?_)
    show wpAny _ A.in1 (tryCatch (pyNext (.ref I)) _ >>= _) _ _ s
    refine wpAny_bind (wpAny_tryCatch (W.done s _ _ hst fun h' tk hk' => ?_))
    show wpAny _ A.in1 (updateSeq S (fun _ => #[]) >>= _) _ _ _
    refine wpAny_bind (wpAny_updateSeq (hk' S _ hSw hS) rfl (wpAny_bind (wpAny_letGo (wpAny_pure ?_))))
    exact hR vb _ tk hPb fun b o hbw hbS e => (Heap.get?_update_other _ _ (Ne.symm hbS)).trans (hk' b o hbw e)
  | succ k ih =>
    intro j s vb c hk hj hst hPb hg hS hR
    have hlt : j + 1 < n := by omega
    refine codeAny_builtin F.entry_min_loop ?_
    rw [Around.under_plainId F.plain_min_loop _]
    show wpAny _ A.in1 (seqItems? (.ref S) >>= _) _ _ s
    refine wpAny_bind (wpAny_seqItems hS rfl ?_)
    show wpAny _ A.in1 (tryCatch (pyNext (.ref I)) _ >>= _) _ _ s
    refine wpAny_bind (wpAny_tryCatch (W.item (j + 1) s _ _ hlt hst fun v h' tk hP hst' hk' => ?_))
    have hS' := hk' S _ hSw hS
    have hg' : G h' := hG _ _ hg fun b o hbw _ e => hk' b o hbw e
    show wpAny _ A.in1 (tryCatch (holding [v, v] (richCompare .Lt v vb >>= _)) _ >>= _) _ _ _
    refine wpAny_bind (wpAny_tryCatch (wpAny_holding (wpAny_bind (hcmp (j + 1) (argBest bt j) v vb _ _ _ hg' hP hPb ?_))))
    refine wpAny_bind (wpAny_holding (wpAny_truthy_bool (wpAny_bind (wpAny_letGo (wpAny_pure ?_)))))
    cases hb : bt (j + 1) (argBest bt j) with
    | true =>
      simp only [if_true]
      refine wpAny_bind (wpAny_updateSeq hS' rfl (wpAny_bind (wpAny_letGo ?_)))
      rw [hname]
      refine wpAny_pure ⟨plainId_quiet F.plain_min_loop _, ih (j + 1) _ v _ (by omega) hlt (W.frame _ _ _ hst' fun b hbf o e => ?_) (by simp only [argBest, hb, if_true]; exact hP) (hG _ _ hg' fun b o _ hbS e => (Heap.get?_update_other _ _ (Ne.symm hbS)).trans e) (Heap.get?_update_self _ hS' rfl) fun v' h'' tk'' hP' hk'' => ?_⟩
      · exact (Heap.get?_update_other _ _ (fun h : S = b => hSf (by rw [h]; exact hbf))).trans e
      · exact hR v' h'' tk'' hP' fun b o hbw hbS e => hk'' b o hbw hbS ((Heap.get?_update_other _ _ (Ne.symm hbS)).trans (hk' b o hbw e))
    | false =>
      simp only [Bool.false_eq_true, if_false]
      refine wpAny_bind (wpAny_letGo ?_)
      rw [hname]
      exact wpAny_pure ⟨plainId_quiet F.plain_min_loop _, ih (j + 1) _ vb c (by omega) hlt hst' (by simp only [argBest, hb, Bool.false_eq_true, if_false]; exact hPb) hg' hS' fun v' h'' tk'' hP' hk'' => hR v' h'' tk'' hP' fun b o hbw hbS e => hk'' b o hbw hbS (hk' b o hbw e)⟩
theorem first (W : Walks prog w A.in1 I fp wr n P St) (hcmp : CmpIn prog w A.in1 G P bt) (hG : ∀ h h' : Heap, G h → (∀ b o, b ∉ wr → b ≠ S → h.get? b = some o → h'.get? b = some o) → G h') (hSf : S ∉ fp) {s : Shared} {c : Nat} (hst : St 0 s.heap) (hg : G s.heap) (hS : s.heap.get? S = some (lst2 #[] c))
    (h0 : n = 0 → ∀ h' tk, (∀ b o, b ∉ wr → b ≠ S → s.heap.get? b = some o → h'.get? b = some o) → R (.ok (.ret .none)) { s with heap := h', toks := tk })
    (hR : 0 < n → ∀ v h' tk, P (argBest bt (n - 1)) v → (∀ b o, b ∉ wr → b ≠ S → s.heap.get? b = some o → h'.get? b = some o) → R (.ok (.ret v)) { s with heap := h', toks := tk }) :
    codeAny (model prog w) A (.builtin "min.loop" ⟨[.ref I, .none, .ref S], dkw⟩) R s := by
  have hSw : S ∉ wr := fun h => hSf (W.sub _ h)
  refine codeAny_builtin F.entry_min_loop ?_
  rw [Around.under_plainId F.plain_min_loop _]
  show wpAny _ A.in1 (seqItems? (.ref S) >>= _) _ _ s
  refine wpAny_bind (wpAny_seqItems hS rfl ?_)
  show wpAny _ A.in1 (tryCatch (pyNext (.ref I)) _ >>= _) _ _ s
  by_cases hn : n = 0
  · subst hn
    refine wpAny_bind (wpAny_tryCatch (W.done s _ _ hst fun h' tk hk' => ?_))
    show wpAny _ A.in1 (rule _ >>= _) _ _ _
    exact wpAny_bind (wpAny_rule (wpAny_pure (h0 rfl h' tk fun b o hbw _ e => hk' b o hbw e)))
  · have hn' : 0 < n := by omega
    refine wpAny_bind (wpAny_tryCatch (W.item 0 s _ _ hn' hst fun v h' tk hP hst' hk' => ?_))
    have hS' := hk' S _ hSw hS
    have hg' : G h' := hG _ _ hg fun b o hbw _ e => hk' b o hbw e
    show wpAny _ A.in1 (updateSeq S (fun _ => #[v, v]) >>= _) _ _ _
    refine wpAny_bind (wpAny_updateSeq hS' rfl ?_)
    rw [hname]
    refine wpAny_pure ⟨plainId_quiet F.plain_min_loop _, loop W hcmp hG hSf _ 0 _ v _ rfl hn' (W.frame _ _ _ hst' fun b hbf o e => ?_) hP (hG _ _ hg' fun b o _ hbS e => (Heap.get?_update_other _ _ (Ne.symm hbS)).trans e) (Heap.get?_update_self _ hS' rfl) fun v' h'' tk'' hP' hk'' => ?_⟩
    · exact (Heap.get?_update_other _ _ (fun h : S = b => hSf (by rw [h]; exact hbf))).trans e
    · exact hR hn' v' h'' tk'' hP' fun b o hbw hbS e => hk'' b o hbw hbS ((Heap.get?_update_other _ _ (Ne.symm hbS)).trans (hk' b o hbw e))
end
section
variable {prog : Program} {w : World} {A : Around} {E : Value → Shared → Prop} {s : Shared} {bt : Nat → Nat → Bool}
end
end MinD
namespace My
open PySem PySem.Spec PyProof.Rows L2
section
variable {X : Cx}
end
/-! ### first_step, first_inside -/
def minO : List Int → Option Int
  | [] => none
  | x :: t => some (t.foldl (fun a b => if b < a then b else a) x)
def famRows (L : LP) (z : Int) : List (Int × Int) := ((famS (lpShift L) (firstS (lpCycle L))).lookup (famZ (lpShift L) z)).getD []
def candS (L : LP) (z : Int) (rs : List (Int × Int)) : List Int := rs.filterMap fun r => if z = r.2 then some r.1 else if r.2 < z then some (r.1 + (z - r.2) / lpShift L * lpPer L) else none
def fstO (L : LP) (z : Int) : Option Int := match (firstS (lpHead L)).find? (fun e => decide (e.1 = z)) with
  | some e => some e.2
  | none => minO (candS L z (famRows L z))
def optV : Option Int → V
  | none => .non
  | some m => .int m
section
variable {P : Program} {w : World} {K : PySem.W.Frag} {mg : Str → Option Value} {base : Heap}
end
/-! ### first_inside -/
/-- what the first comprehension makes -/
inductive OptAt (L : LP) (H0 H : Hp) : List V → List Int → Prop
  | nil : OptAt L H0 H [] []
  | cons {t : Addr} {z : Int} {vs : List V} {zs : List Int} : H0 t = none → H t = some (.tup [optV (fstO L z), .int z]) → OptAt L H0 H vs zs → OptAt L H0 H (.ref t :: vs) (z :: zs)
theorem OptAt.len {L : LP} {H0 H : Hp} : ∀ {vs : List V} {zs : List Int}, OptAt L H0 H vs zs → vs.length = zs.length
  | _, _, .nil => rfl
  | _, _, .cons _ _ h => by rw [List.length_cons, List.length_cons, h.len]
theorem OptAt.keep {L : LP} {H0 H H' : Hp} (k : KeepT H H') : ∀ {vs : List V} {zs : List Int}, OptAt L H0 H vs zs → OptAt L H0 H' vs zs
  | _, _, .nil => .nil
  | _, _, .cons n e h => .cons n (k.1 _ _ e) (h.keep k)
theorem OptAt.snoc {L : LP} {H0 H : Hp} {t : Addr} {z : Int} (n : H0 t = none) (e : H t = some (.tup [optV (fstO L z), .int z])) : ∀ {vs : List V} {zs : List Int}, OptAt L H0 H vs zs → OptAt L H0 H (vs ++ [.ref t]) (zs ++ [z])
  | _, _, .nil => .cons n e .nil
  | _, _, .cons n' e' h => .cons n' e' (h.snoc n e)
theorem OptAt.get {L : LP} {H0 H : Hp} : ∀ {vs : List V} {zs : List Int} {i : Nat} {v : V}, OptAt L H0 H vs zs → vs[i]? = some v → ∃ t z, v = .ref t ∧ zs[i]? = some z ∧ H0 t = none ∧ H t = some (.tup [optV (fstO L z), .int z])
  | _, _, _, _, .nil, h => by simp at h
  | _, _, 0, _, .cons n e _, h => by simp at h; exact ⟨_, _, h.symm, rfl, n, e⟩
  | _, _, i + 1, _, .cons _ _ r, h => by
    rw [List.getElem?_cons_succ] at h
    obtain ⟨t, z, h1, h2, h3⟩ := r.get h
    exact ⟨t, z, h1, by rw [List.getElem?_cons_succ]; exact h2, h3⟩
section
variable {P : Program} {w : World} {K : PySem.W.Frag} {mg : Str → Option Value} {base : Heap}
end
end My

namespace My
open PySem PySem.Spec PyProof.Rows L2
/-! ### two readings of one expression: the heap decides which of them holds -/
/-! ### {e for .. in .. if ..}, e a whole number -/
section
variable {X : Cx}
end
end My

namespace My
open PySem PySem.Spec PyProof.Rows L2
/-! ### sorted(a set of whole numbers), any number of them -/
/-! ### a part F of the heap H that never changes: it holds all tuples, and no place that may be written -/
structure Fz (F H : Hp) : Prop where
  sm : Same F H
  kt : KeepT H F
def extF (F H H' : Hp) : Hp := fun a => match H a with
  | none => H' a
  | some _ => F a
theorem extF_new {F H H' : Hp} {a : Addr} (h : H a = none) : extF F H H' a = H' a := by unfold extF; rw [h]
theorem extF_old {F H H' : Hp} {a : Addr} (h : H a ≠ none) : extF F H H' a = F a := by
  unfold extF
  cases e : H a with
  | none => exact absurd e h
  | some o => rfl
theorem some_ne {H : Hp} {a : Addr} {o : HO} (h : H a = some o) : H a ≠ none := fun z => by rw [h] at z; cases z
theorem ne_some {H : Hp} {a : Addr} (h : H a ≠ none) : ∃ o, H a = some o := by
  cases e : H a with
  | none => exact absurd e h
  | some o => exact ⟨o, rfl⟩
/-- from (F, H) to (F', H'): only the places of M were written, what was no part of F is none of F' -/
structure Adv (M : List Addr) (F H F' H' : Hp) : Prop where
  fz : Fz F' H'
  kf : ∀ a, H a ≠ none → F' a = F a
  kh : ∀ a o, a ∉ M → H a = some o → H' a = some o
  lv : ∀ a, H a ≠ none → H' a ≠ none
theorem Fz.data {K : PySem.W.Frag} {F H : Hp} (z : Fz F H) {v : V} {d : PyData} (h : Dt K H v d) : Dp K F v d := dp_mono (fun a o e => by
  unfold tupH at e
  split at e
  · rename_i xs e1; cases e; exact z.kt.1 _ _ e1
  · rename_i o1 u e1; cases e; exact z.kt.2 _ _ _ e1
  · cases e) _ _ h
theorem Fz.out {F H : Hp} (z : Fz F H) {a : Addr} (h : H a = none) : F a = none := z.sm.free h
theorem Adv.refl {M : List Addr} {F H : Hp} (z : Fz F H) : Adv M F H F H := ⟨z, fun _ _ => rfl, fun _ _ _ e => e, fun _ e => e⟩
theorem Adv.trans {M : List Addr} {F H F1 H1 F2 H2 : Hp} (a : Adv M F H F1 H1) (b : Adv M F1 H1 F2 H2) : Adv M F H F2 H2 :=
  ⟨b.fz, fun p e => (b.kf p (a.lv p e)).trans (a.kf p e), fun p o n e => b.kh p o n (a.kh p o n e), fun p e => b.lv p (a.lv p e)⟩
theorem Adv.mono {M M' : List Addr} {F H F' H' : Hp} (a : Adv M F H F' H') (h : ∀ p ∈ M, p ∈ M') : Adv M' F H F' H' := ⟨a.fz, a.kf, fun p o n e => a.kh p o (fun m => n (h p m)) e, a.lv⟩
theorem Adv.same {M : List Addr} {F H F' H' : Hp} (a : Adv M F H F' H') (z : Fz F H) : Same F F' := fun p o e => by
  rw [a.kf p (some_ne (z.sm _ _ e))]
  exact e
theorem Adv.sm {F H F' H' : Hp} (a : Adv [] F H F' H') : Same H H' := fun p o e => a.kh p o (by simp) e
theorem Adv.any {M : List Addr} {F H F' H' : Hp} (a : Adv [] F H F' H') : Adv M F H F' H' := a.mono fun p m => nomatch m
theorem Adv.fx {M : List Addr} {F H F' H' : Hp} (a : Adv M F H F' H') : Fx M H H' := fun p o n e => a.kh p o n e
/-- a place that is free behind was free before -/
theorem Adv.free {M : List Addr} {F H F' H' : Hp} (a : Adv M F H F' H') {p : Addr} (h : H' p = none) : H p = none := by
  cases e : H p with
  | none => rfl
  | some o => exact absurd h (a.lv p (some_ne e))
theorem Adv.off {M : List Addr} {F H F' H' : Hp} (a : Adv M F H F' H') {p : Addr} (h : H p ≠ none) (n : F p = none) : F' p = none := (a.kf p h).trans n
/-- a callee has only laid new objects: all of them are taken into F -/
theorem Adv.of {F H H' : Hp} (z : Fz F H) (s : Same H H') : Adv [] F H (extF F H H') H' := by
  refine ⟨⟨fun p o e => ?_, fun p xs e => ?_, fun p o u e => ?_⟩, fun p e => extF_old e, fun p o _ e => s _ _ e, fun p e => ?_⟩
  · cases h : H p with
    | none => rw [extF_new h] at e; exact e
    | some q => rw [extF_old (some_ne h)] at e; exact s _ _ (z.sm _ _ e)
  · cases h : H p with
    | none => rw [extF_new h]; exact e
    | some q =>
      rw [extF_old (some_ne h)]
      rw [s _ _ h] at e
      exact z.kt.1 _ _ (by rw [h]; exact e)
  · cases h : H p with
    | none => rw [extF_new h]; exact e
    | some q =>
      rw [extF_old (some_ne h)]
      rw [s _ _ h] at e
      exact z.kt.2 _ _ _ (by rw [h]; exact e)
  · obtain ⟨o, h⟩ := ne_some e
    exact some_ne (s _ _ h)
/-- one new object, taken into F -/
theorem Adv.new {F H : Hp} (z : Fz F H) {p : Addr} (np : H p = none) (o : HO) : Adv [] F H (upd F p o) (upd H p o) := by
  refine ⟨⟨fun q u e => ?_, fun q xs e => ?_, fun q b u e => ?_⟩, fun q e => ?_, fun q u _ e => ?_, fun q e => ?_⟩
  · by_cases c : q = p
    · subst c; rw [upd_same] at e ⊢; exact e
    · rw [upd_ne c] at e ⊢; exact z.sm _ _ e
  · by_cases c : q = p
    · subst c; rw [upd_same] at e ⊢; exact e
    · rw [upd_ne c] at e ⊢; exact z.kt.1 _ _ e
  · by_cases c : q = p
    · subst c; rw [upd_same] at e ⊢; exact e
    · rw [upd_ne c] at e ⊢; exact z.kt.2 _ _ _ e
  · rw [upd_ne (fun c => e (by rw [c]; exact np))]
  · rw [upd_ne (ne_of_none e np)]; exact e
  · rw [upd_ne (fun c => e (by rw [c]; exact np))]; exact e
/-- no tuple, not locked -/
def soft : HO → Prop
  | .tup _ => False
  | .frz _ _ => False
  | _ => True
/-- one new object that may be written later: it stays out of F -/
theorem Adv.put {M : List Addr} {F H : Hp} (z : Fz F H) {p : Addr} (np : H p = none) {o : HO} (ho : soft o) : Adv M F H F (upd H p o) := by
  refine ⟨⟨fun q u e => ?_, fun q xs e => ?_, fun q b u e => ?_⟩, fun q e => rfl, fun q u _ e => ?_, fun q e => ?_⟩
  · rw [upd_ne (ne_of_none (z.sm _ _ e) np)]; exact z.sm _ _ e
  · by_cases c : q = p
    · subst c; rw [upd_same] at e; cases e; exact ho.elim
    · rw [upd_ne c] at e; exact z.kt.1 _ _ e
  · by_cases c : q = p
    · subst c; rw [upd_same] at e; cases e; exact ho.elim
    · rw [upd_ne c] at e; exact z.kt.2 _ _ _ e
  · rw [upd_ne (ne_of_none e np)]; exact e
  · rw [upd_ne (fun c => e (by rw [c]; exact np))]; exact e
/-- a place that is no part of F is written -/
theorem Adv.write {M : List Addr} {F H : Hp} (z : Fz F H) {p : Addr} (m : p ∈ M) (n : F p = none) {o : HO} (ho : soft o) : Adv M F H F (upd H p o) := by
  refine ⟨⟨fun q u e => ?_, fun q xs e => ?_, fun q b u e => ?_⟩, fun q e => rfl, fun q u nm e => ?_, fun q e => ?_⟩
  · rw [upd_ne (fun c => by rw [c, n] at e; cases e)]; exact z.sm _ _ e
  · by_cases c : q = p
    · subst c; rw [upd_same] at e; cases e; exact ho.elim
    · rw [upd_ne c] at e; exact z.kt.1 _ _ e
  · by_cases c : q = p
    · subst c; rw [upd_same] at e; cases e; exact ho.elim
    · rw [upd_ne c] at e; exact z.kt.2 _ _ _ e
  · rw [upd_ne (fun c => nm (by rw [c]; exact m))]; exact e
  · by_cases c : q = p
    · subst c; rw [upd_same]; exact fun z => nomatch z
    · rw [upd_ne c]; exact e
/-- a place taken out of F again: a new object that may be written later -/
def wo (p : Addr) (F : Hp) : Hp := fun a => if a = p then none else F a
theorem wo_same {p : Addr} {F : Hp} : wo p F p = none := by unfold wo; rw [if_pos rfl]
theorem wo_ne {p a : Addr} {F : Hp} (h : a ≠ p) : wo p F a = F a := by unfold wo; rw [if_neg h]
theorem Adv.drop {M : List Addr} {F H F' H' : Hp} (a : Adv M F H F' H') {p : Addr} (np : H p = none) {o : HO} (e1 : H' p = some o) (ho : soft o) : Adv M F H (wo p F') H' := by
  refine ⟨⟨fun q u e => ?_, fun q xs e => ?_, fun q b u e => ?_⟩, fun q e => ?_, a.kh, a.lv⟩
  · by_cases c : q = p
    · subst c; rw [wo_same] at e; cases e
    · rw [wo_ne c] at e; exact a.fz.sm _ _ e
  · rw [wo_ne (fun c => by subst c; rw [e1] at e; cases e; exact ho.elim)]; exact a.fz.kt.1 _ _ e
  · rw [wo_ne (fun c => by subst c; rw [e1] at e; cases e; exact ho.elim)]; exact a.fz.kt.2 _ _ _ e
  · rw [wo_ne (fun c => e (by rw [c]; exact np))]; exact a.kf q e
/-- an object that is being made stays out of F -/
theorem Fz.made {F H : Hp} (z : Fz F H) {x dx C : Addr} (nx : H x = none) (nd : H dx = none) : Adv [] F H F (upd (upd H dx (.own x)) x (.ins C dx [])) := by
  by_cases c : x = dx
  · subst c
    have a := Adv.put (M := []) z nx (o := .ins C x []) trivial
    have e : upd (upd H x (.own x)) x (.ins C x []) = upd H x (.ins C x []) := by
      funext q
      by_cases c : q = x
      · rw [c, upd_same, upd_same]
      · rw [upd_ne c, upd_ne c, upd_ne c]
    rw [e]
    exact a
  · have a := Adv.put (M := []) z nd (o := .own x) trivial
    exact a.trans (Adv.put a.fz (by rw [upd_ne c]; exact nx) trivial)
/-- it is made: now it is a part -/
theorem Adv.finish {F H : Hp} (z : Fz F H) {x dx C : Addr} {fs : List (Str × V)} {F' H' : Hp} (nx : H x = none) (nd : H dx = none) (a : Adv [x] F (upd (upd H dx (.own x)) x (.ins C dx [])) F' H') (e : H' x = some (.ins C dx fs)) :
    Adv [] F H (upd F' x (.ins C dx fs)) H' := by
  have m := z.made (C := C) nx nd
  have fx : F' x = none := a.off (some_ne upd_same) (z.out nx)
  refine ⟨⟨fun q u h => ?_, fun q xs h => ?_, fun q b u h => ?_⟩, fun q h => ?_, fun q o _ h => ?_, fun q h => a.lv q (m.lv q h)⟩
  · by_cases c : q = x
    · subst c; rw [upd_same] at h; cases h; exact e
    · rw [upd_ne c] at h; exact a.fz.sm _ _ h
  · rw [upd_ne (fun c => by subst c; rw [e] at h; cases h)]; exact a.fz.kt.1 _ _ h
  · rw [upd_ne (fun c => by subst c; rw [e] at h; cases h)]; exact a.fz.kt.2 _ _ _ h
  · rw [upd_ne (fun c => h (by rw [c]; exact nx))]
    exact a.kf q (m.lv q h)
  · exact a.kh q o (by simp; exact ne_of_none h nx) (m.kh q o (by simp) h)
/-! ### lists of numbers and of pairs, sorted -/
def sdS (b : Bool) : Str := if b = true then "right" else "left"
/-! ### machines -/
structure Bdg where
  num : Int
  sd : Bool
  lvl : Int
structure TelM where
  b : Bdg
  d : PyData
  code : List Ins
  beg : List (Int × Option Int)
  don : List (Int × Int)
  pos : Int
  tr : Res
  srv : Bool
structure ColM where
  b : Bdg
  d : PyData
  L : LP
  beg : List (Int × Option Int)
  don : List (Int × Int)
  met : Option Int
inductive MacM where
  | tel (t : TelM)
  | col (c : ColM)
def MacM.b : MacM → Bdg
  | .tel t => t.b
  | .col c => c.b
def MacM.d : MacM → PyData
  | .tel t => t.d
  | .col c => c.d
def MacM.beg : MacM → List (Int × Option Int)
  | .tel t => t.beg
  | .col c => c.beg
def MacM.don : MacM → List (Int × Int)
  | .tel t => t.don
  | .col c => c.don
def MacM.isT : MacM → Bool
  | .tel _ => true
  | .col _ => false
abbrev MacM.num (m : MacM) : Int := m.b.num
abbrev MacM.sd (m : MacM) : Bool := m.b.sd
def MacM.kind (m : MacM) : Str := if m.isT = true then "teller" else "collector"
def MacM.prog (m : MacM) : PyData := .tuple [.str m.kind, m.d]
/-! ### how a house stands -/
structure StM where
  now : Int
  l : List Int
  r : List Int
  ms : List MacM
  ahead : Int
  mark : Int
def StM.set (S : StM) (s : Bool) : List Int := if s = true then S.r else S.l
def emptyM : StM := ⟨0, [], [], [], 0, -1⟩
/-! ### members as a tuple: a teller's walk, its run, the first integer inside -/
section
variable {P : Program} {w : World} {K : PySem.W.Frag} {mg : Str → Option Value} {base : Heap}
end
/-! ### a listing that is made: all that it is made of is new -/
structure LsN (K : PySem.W.Frag) (H0 H : Hp) (C ls : Addr) (L : LP) : Prop where
  ex : ∃ (dx hd cy kh kc hs cs fm : Addr) (xs ys : List V) (kvs : List (Key × V)) (la : List Addr), H ls = some (.ins C dx (lsF hd cy (lpPer L) (lpShift L) kh kc hs cs fm)) ∧ H hd = some (.lst xs) ∧ H cy = some (.lst ys) ∧ RowsAt H xs (lpHead L) ∧ RowsAt H ys (lpCycle L) ∧
    H kh = some (.tup xs) ∧ H kc = some (.tup ys) ∧ H hs = some (.dK (fsD (firstS (lpHead L)))) ∧ H cs = some (.dK (fsD (firstS (lpCycle L)))) ∧ H fm = some (.dK kvs) ∧ FamR K H kvs (famS (lpShift L) (firstS (lpCycle L))) la ∧ H0 hd = none ∧ H0 cy = none ∧ hd ≠ cy ∧ hd ∉ la ∧ cy ∉ la ∧ (lpRows L).length ≤ 100000 ∧
    H0 hs = none ∧ H0 cs = none ∧ H0 fm = none ∧ ∀ a ∈ la, H0 a = none
def noH : Hp := fun _ => none
section
variable {P : Program} {w : World} {K : PySem.W.Frag} {mg : Str → Option Value} {base : Heap}
end
/-! ### how the objects of a house lie in memory: over the part F that never changes -/
structure HCl where
  bg : Addr
  te : Addr
  co : Addr
  st : Addr
  ls : Addr
  ru : Addr
  ho : Addr
def optD : Option Int → PyData
  | none => .none
  | some i => .int i
def begD (l : List (Int × Option Int)) : PyData := .tuple (l.map fun e => .tuple [.int e.1, optD e.2])
def donD (l : List (Int × Int)) : PyData := .tuple (l.map rowD)
def bdF (b : Bdg) (pv : V) : List (Str × V) := [("number", .int b.num), ("program", pv), ("side", .str (sdS b.sd)), ("level", .int b.lvl)]
def BdgR (K : PySem.W.Frag) (F : Hp) (c : HCl) (a : Addr) (b : Bdg) (p : PyData) : Prop := ∃ dx pv, F a = some (.ins c.bg dx (bdF b pv)) ∧ Dp K F pv p
def teF (ab ac : Addr) (vb vd : V) (pos : Int) (r : Addr) (sv : Bool) : List (Str × V) := [("badge", .ref ab), ("code", .ref ac), ("begun", vb), ("done", vd), ("position", .int pos), ("trial", .ref r), ("served", .bl sv)]
def coF (ab al : Addr) (vb vd : V) (mt : Option Int) : List (Str × V) := [("badge", .ref ab), ("listing", .ref al), ("begun", vb), ("done", vd), ("met", optV mt)]
def TelR (K : PySem.W.Frag) (F : Hp) (c : HCl) (a : Addr) (t : TelM) : Prop := ∃ (dx ab ac : Addr) (vb vd : V) (r : Addr) (xs : List V), F a = some (.ins c.te dx (teF ab ac vb vd t.pos r t.srv)) ∧ BdgR K F c ab t.b (.tuple [.str "teller", t.d]) ∧ F ac = some (.lst xs) ∧ DpAll K F xs (t.code.map Ins.toD) ∧
  Dp K F vb (begD t.beg) ∧ Dp K F vd (donD t.don) ∧ RunA F c.ru r t.tr
def ColR (K : PySem.W.Frag) (F : Hp) (c : HCl) (a : Addr) (m : ColM) : Prop := ∃ (dx ab al : Addr) (vb vd : V), F a = some (.ins c.co dx (coF ab al vb vd m.met)) ∧ BdgR K F c ab m.b (.tuple [.str "collector", m.d]) ∧ LsO K noH F c.ls al m.L ∧ Dp K F vb (begD m.beg) ∧ Dp K F vd (donD m.don)
def MacR (K : PySem.W.Frag) (F : Hp) (c : HCl) (a : Addr) : MacM → Prop
  | .tel t => TelR K F c a t
  | .col m => ColR K F c a m
inductive MacsR (K : PySem.W.Frag) (F : Hp) (c : HCl) : List V → List MacM → Prop
  | nil : MacsR K F c [] []
  | cons {a : Addr} {m : MacM} {vs : List V} {ms : List MacM} : MacR K F c a m → MacsR K F c vs ms → MacsR K F c (.ref a :: vs) (m :: ms)
def setsD (tl tr : Addr) : List (Key × V) := [(Sum.inr "left", .ref tl), (Sum.inr "right", .ref tr)]
def StnR (K : PySem.W.Frag) (F : Hp) (c : HCl) (a : Addr) (S : StM) : Prop := ∃ (dx ad tl tr tm : Addr) (vs : List V), F a = some (.ins c.st dx [("now", .int S.now), ("sets", .ref ad), ("machines", .ref tm), ("ahead", .int S.ahead), ("mark", .int S.mark)]) ∧ F ad = some (.dK (setsD tl tr)) ∧
  F tl = some (.tup (S.l.map V.int)) ∧ F tr = some (.tup (S.r.map V.int)) ∧ F tm = some (.tup vs) ∧ MacsR K F c vs S.ms
theorem RunA.same {H H' : Hp} {C r : Addr} {R : Res} (s : Same H H') (h : RunA H C r R) : RunA H' C r R := by
  obtain ⟨dx, as, h1, h2⟩ := h
  exact ⟨dx, as, s _ _ h1, s _ _ h2⟩
section
variable {K : PySem.W.Frag} {F F' : Hp} {c : HCl} {a : Addr}
theorem BdgR.same (s : Same F F') {b : Bdg} {p : PyData} (h : BdgR K F c a b p) : BdgR K F' c a b p := by
  obtain ⟨dx, pv, h1, h2⟩ := h
  exact ⟨dx, pv, s _ _ h1, dp_mono s _ _ h2⟩
theorem TelR.same (s : Same F F') {t : TelM} (h : TelR K F c a t) : TelR K F' c a t := by
  obtain ⟨dx, ab, ac, vb, vd, r, xs, h1, h2, h3, h4, h5, h6, h7⟩ := h
  exact ⟨dx, ab, ac, vb, vd, r, xs, s _ _ h1, h2.same s, s _ _ h3, dpAll_mono s _ _ h4, dp_mono s _ _ h5, dp_mono s _ _ h6, RunA.same s h7⟩
theorem ColR.same (s : Same F F') {t : ColM} (h : ColR K F c a t) : ColR K F' c a t := by
  obtain ⟨dx, ab, al, vb, vd, h1, h2, h3, h4, h5⟩ := h
  exact ⟨dx, ab, al, vb, vd, s _ _ h1, h2.same s, h3.same s, dp_mono s _ _ h4, dp_mono s _ _ h5⟩
theorem MacR.same (s : Same F F') : ∀ {m : MacM}, MacR K F c a m → MacR K F' c a m
  | .tel _, h => TelR.same s h
  | .col _, h => ColR.same s h
theorem MacsR.same (s : Same F F') : ∀ {vs : List V} {ms : List MacM}, MacsR K F c vs ms → MacsR K F' c vs ms
  | _, _, .nil => .nil
  | _, _, .cons h t => .cons (h.same s) (t.same s)
theorem StnR.same (s : Same F F') {S : StM} (h : StnR K F c a S) : StnR K F' c a S := by
  obtain ⟨dx, ad, tl, tr, tm, vs, h1, h2, h3, h4, h5, h6⟩ := h
  exact ⟨dx, ad, tl, tr, tm, vs, s _ _ h1, s _ _ h2, s _ _ h3, s _ _ h4, s _ _ h5, h6.same s⟩
theorem MacsR.len : ∀ {vs : List V} {ms : List MacM}, MacsR K F c vs ms → vs.length = ms.length
  | _, _, .nil => rfl
  | _, _, .cons _ t => by rw [List.length_cons, List.length_cons, t.len]
theorem MacsR.get : ∀ {vs : List V} {ms : List MacM} {i : Nat} {v : V}, MacsR K F c vs ms → vs[i]? = some v → ∃ a m, v = .ref a ∧ ms[i]? = some m ∧ MacR K F c a m
  | _, _, 0, _, .cons h _, e => by
    cases e
    exact ⟨_, _, rfl, rfl, h⟩
  | _, _, i + 1, _, .cons _ t, e => by
    rw [List.getElem?_cons_succ] at e
    obtain ⟨a, m, h1, h2, h3⟩ := t.get e
    exact ⟨a, m, h1, by rw [List.getElem?_cons_succ]; exact h2, h3⟩
theorem MacsR.one {m : MacM} (h : MacR K F c a m) : MacsR K F c [.ref a] [m] := .cons h .nil
end
/-! ### no attribute of a class hides a field -/
structure SnN (K : PySem.W.Frag) (C : Addr) : Prop where
  cl : Cls K C
  nw : NoAttr K C "now"
  se : NoAttr K C "sets"
  ms : NoAttr K C "machines"
  ah : NoAttr K C "ahead"
  mr : NoAttr K C "mark"
/-! ### an __init__ that keeps its arguments -/
def spIni (C : Addr) (ns : List Str) : Sp := fun vs H Q _ => ∃ (x dx : Addr) (as : List V), vs = .ref x :: as ∧ as.length = ns.length ∧ H x = some (.ins C dx []) ∧ ∀ H', (∀ a, a ≠ x → H' a = H a) → H' x = some (.ins C dx (ns.zip as)) → Q .non H'
abbrev nSn : List Str := ["now", "sets", "machines", "ahead", "mark"]
abbrev sSnI : Stmt := inClass (top 72) 0
theorem list5 {xs : List V} (h : xs.length = 5) : ∃ a b c d e, xs = [a, b, c, d, e] := by
  match xs, h with | [a, b, c, d, e], _ => exact ⟨a, b, c, d, e, rfl⟩
section
variable {P : Program} {w : World} {K : PySem.W.Frag} {mg : Str → Option Value} {base : Heap}
theorem scSnI : FnScope ("self" :: nSn) ("self" :: nSn) (defScope sSnI) := ⟨rfl, rfl, rfl, by decide +kernel, rfl, by decide +kernel, by decide +kernel⟩
theorem ok_SnI {f C : Addr} {fd : FuncData} (F : Fun K "__init__" "Standing.__init__" sSnI f fd) (N : SnN K C) : FnOk P w K mg base CX0 1 f fd ("self" :: nSn) (spIni C nSn) := by
  refine F.ok scSnI (fun vs H Q E h => ?_) (fun cdv A outer s H vs Q E hr h => ?_)
  · obtain ⟨x, dx, as, rfl, hl, _⟩ := h
    rw [List.length_cons, hl]; rfl
  obtain ⟨x, dx, as, rfl, hl, hx, q⟩ := h
  obtain ⟨v1, v2, v3, v4, v5, rfl⟩ := list5 hl
  refine ⟨_, (pss_cons (ps_fld (pv 0) (pv 1) rfl) (pss_cons (ps_fld (pv 0) (pv 2) rfl) (pss_cons (ps_fld (pv 0) (pv 3) rfl) (pss_cons (ps_fld (pv 0) (pv 4) rfl) (pss_one (ps_fld (pv 0) (pv 5) rfl)))))), ?_⟩
  refine ⟨_, rfl, _, rfl, x, C, dx, _, rfl, hx, N.cl, N.nw, (by show 0 < 1000; decide), ?_⟩
  refine ⟨_, rfl, _, rfl, x, C, dx, _, rfl, upd_same, N.cl, N.se, (by show 1 < 1000; decide), ?_⟩
  refine ⟨_, rfl, _, rfl, x, C, dx, _, rfl, upd_same, N.cl, N.ms, (by show 2 < 1000; decide), ?_⟩
  refine ⟨_, rfl, _, rfl, x, C, dx, _, rfl, upd_same, N.cl, N.ah, (by show 3 < 1000; decide), ?_⟩
  refine ⟨_, rfl, _, rfl, x, C, dx, _, rfl, upd_same, N.cl, N.mr, (by show 4 < 1000; decide), ?_⟩
  exact q _ (fun a n => by rw [upd_ne n, upd_ne n, upd_ne n, upd_ne n, upd_ne n]) upd_same
/-- a class with such an __init__, its name and its call -/
structure Kl (P : Program) (w : World) (K : PySem.W.Frag) (mg : Str → Option Value) (base : Heap) (C : Addr) (x : Str) (ns : List Str) where
  fI : Addr
  dI : FuncData
  g : mg x = some (.ref C)
  M : Mk K C fI
  G : FnOk P w K mg base CX0 1 fI dI ("self" :: ns) (spIni C ns)
  b : Binds K dI ("self" :: ns) []
theorem mk_adv {C : Addr} {F H H' : Hp} {x dx : Addr} {fs : List (Str × V)} (z : Fz F H) (nx : H x = none) (nd : H dx = none) (keep : ∀ a, a ≠ x → H' a = (upd (upd H dx (.own x)) x (.ins C dx [])) a) (hx : H' x = some (.ins C dx fs)) : Adv [] F H (upd F x (.ins C dx fs)) H' := by
  have m := z.made (C := C) nx nd
  have fx : F x = none := z.out nx
  have a : Adv [x] F (upd (upd H dx (.own x)) x (.ins C dx [])) F H' := by
    have e : H' = upd (upd (upd H dx (.own x)) x (.ins C dx [])) x (.ins C dx fs) := by
      funext q
      by_cases c : q = x
      · rw [c, upd_same]; exact hx
      · rw [upd_ne c]; exact keep q c
    rw [e]
    exact Adv.write m.fz (by simp) fx trivial
  exact Adv.finish z nx nd a hx
/-- such an object is made: it is taken into F -/
theorem mk_new {C : Addr} {ns : List Str} {F H : Hp} (z : Fz F H) {as : List V} (hl : as.length = ns.length) {Q : VK} {E : XK} (k : ∀ x dx H', Adv [] F H (upd F x (.ins C dx (ns.zip as))) H' → H x = none → Q (.ref x) H') :
    ∀ x dx, H x = none → H dx = none → dx ≠ x → spIni C ns (.ref x :: (as ++ [])) (upd (upd H dx (.own x)) x (.ins C dx [])) (fun v H2 => v = .non ∧ Q (.ref x) H2) E := by
  intro x dx nx nd _
  rw [List.append_nil]
  exact ⟨x, dx, as, rfl, hl, upd_same, fun H' keep hx => ⟨rfl, k x dx H' (mk_adv z nx nd keep hx) nx⟩⟩
end
/-! ### data without lists, over a heap whose lists change -/
def tupO : HO → Prop
  | .tup _ => True
  | .frz _ _ => True
  | _ => False
theorem sqT_kT {K : PySem.W.Frag} {H H' : Hp} (k : ∀ a o, tupO o → H a = some o → H' a = some o) {a : Addr} {xs : List V} (h : SqT K H a xs) : SqT K H' a xs := by
  rcases h with (h | ⟨o, h⟩) | h
  · exact .inl (.inl (k _ _ trivial h))
  · exact .inl (.inr ⟨o, k _ _ trivial h⟩)
  · exact .inr h
mutual
theorem dp_kT {K : PySem.W.Frag} {H H' : Hp} (k : ∀ a o, tupO o → H a = some o → H' a = some o) : ∀ (d : PyData) (v : V), noL d = true → Dp K H v d → Dp K H' v d
  | .none, _, _, h => by cases h; exact .non
  | .bool b, _, _, h => by cases h; exact .bl b
  | .int i, _, _, h => by cases h; exact .int i
  | .str x, _, _, h => by cases h; exact .str x
  | .list ds, _, n, h => by simp [noL] at n
  | .tuple ds, _, n, h => by
    cases h with
    | tup hs ha => exact .tup (sqT_kT k hs) (dpAll_kT k ds _ (by simpa [noL] using n) ha)
  | .dict _, _, _, h => by cases h
theorem dpAll_kT {K : PySem.W.Frag} {H H' : Hp} (k : ∀ a o, tupO o → H a = some o → H' a = some o) : ∀ (ds : List PyData) (vs : List V), noLAll ds = true → DpAll K H vs ds → DpAll K H' vs ds
  | [], _, _, h => by cases h; exact .nil
  | d :: ds, _, n, h => by
    simp only [noLAll, Bool.and_eq_true] at n
    cases h with
    | cons hd ht => exact .cons (dp_kT k d _ n.1 hd) (dpAll_kT k ds _ n.2 ht)
end

theorem Fz.dp {K : PySem.W.Frag} {F H : Hp} (z : Fz F H) {v : V} {d : PyData} (n : noL d = true) (h : Dp K H v d) : Dp K F v d := dp_kT (fun a o ho e => by
  cases o with
  | tup xs => exact z.kt.1 _ _ e
  | frz o u => exact z.kt.2 _ _ _ e
  | _ => exact ho.elim) d v n h
/-- a listing that was made, over the part that never changes -/
theorem LsN.take {K : PySem.W.Frag} {F H H' : Hp} {C x dx : Addr} {L : LP} (z : Fz F H) (nx : H x = none) (nd : H dx = none) (f : Fx [x] (upd (upd H dx (.own x)) x (.ins C dx [])) H') (h : LsN K (upd (upd H dx (.own x)) x (.ins C dx [])) H' C x L) :
    ∃ F', Adv [] F H F' H' ∧ LsO K noH F' C x L ∧ H x = none := by
  obtain ⟨dx', hd, cy, kh, kc, hs, cs, fm, xs, ys, kvs, la, h1, h2, h3, h4, h5, h6, h7, h8, h9, h10, h11, n1, n2, n3, n4, n5, hl, n6, n7, n8, n9⟩ := h.ex
  have m := z.made (C := C) nx nd
  have fx : F x = none := z.out nx
  generalize hH1 : upd (upd H dx (.own x)) x (.ins C dx []) = H1 at f m n1 n2 n6 n7 n8 n9
  have e1 : H1 x = some (.ins C dx []) := by rw [← hH1]; exact upd_same
  have keep : Fz (extF F H1 H') H' := by
    refine ⟨fun p o e => ?_, fun p us e => ?_, fun p o u e => ?_⟩
    · cases q : H1 p with
      | none => rw [extF_new q] at e; exact e
      | some u =>
        rw [extF_old (some_ne q)] at e
        exact f p o (by simp; exact fun c => by rw [c, fx] at e; cases e) (m.fz.sm _ _ e)
    · cases q : H1 p with
      | none => rw [extF_new q]; exact e
      | some u =>
        rw [extF_old (some_ne q)]
        have c : p ≠ x := fun c => by rw [c, h1] at e; cases e
        rw [f p u (by simp; exact c) q] at e
        exact m.fz.kt.1 _ _ (by rw [q]; exact e)
    · cases q : H1 p with
      | none => rw [extF_new q]; exact e
      | some w =>
        rw [extF_old (some_ne q)]
        have c : p ≠ x := fun c => by rw [c, h1] at e; cases e
        rw [f p w (by simp; exact c) q] at e
        exact m.fz.kt.2 _ _ _ (by rw [q]; exact e)
  have a : Adv [x] F H1 (extF F H1 H') H' := ⟨keep, fun p e => extF_old e, fun p o n e => f p o n e, fun p e => by
    obtain ⟨o, q⟩ := ne_some e
    by_cases c : p = x
    · rw [c, h1]; exact fun w => nomatch w
    · exact some_ne (f p o (by simp; exact c) q)⟩
  have fin := Adv.finish (C := C) (dx := dx) z nx nd (F' := extF F H1 H') (H' := H') (fs := lsF hd cy (lpPer L) (lpShift L) kh kc hs cs fm) (by rw [hH1]; exact a)
  have edx : dx' = dx ∨ True := .inr trivial
  -- the object's own dict may have another name: it is written as it stands
  have adv : Adv [] F H (upd (extF F H1 H') x (.ins C dx' (lsF hd cy (lpPer L) (lpShift L) kh kc hs cs fm))) H' := by
    have sub : Fz (upd (extF F H1 H') x (.ins C dx' (lsF hd cy (lpPer L) (lpShift L) kh kc hs cs fm))) H' := by
      refine ⟨fun p o e => ?_, fun p us e => ?_, fun p o u e => ?_⟩
      · by_cases c : p = x
        · subst c; rw [upd_same] at e; cases e; exact h1
        · rw [upd_ne c] at e; exact keep.sm _ _ e
      · rw [upd_ne (fun c => by rw [c, h1] at e; cases e)]; exact keep.kt.1 _ _ e
      · rw [upd_ne (fun c => by rw [c, h1] at e; cases e)]; exact keep.kt.2 _ _ _ e
    refine ⟨sub, fun p e => ?_, fun p o _ e => ?_, fun p e => a.lv p (m.lv p e)⟩
    · rw [upd_ne (fun c => e (by rw [c]; exact nx))]
      exact a.kf p (m.lv p e)
    · exact a.kh p o (by simp; exact ne_of_none e nx) (m.kh p o (by simp) e)
  refine ⟨_, adv, ?_, nx⟩
  have put : ∀ p o, p ≠ x → H1 p = none → H' p = some o → (upd (extF F H1 H') x (.ins C dx' (lsF hd cy (lpPer L) (lpShift L) kh kc hs cs fm))) p = some o := fun p o c n e => by rw [upd_ne c, extF_new n]; exact e
  have nex : ∀ p, H1 p = none → p ≠ x := fun p n c => by rw [c, e1] at n; cases n
  have kt := adv.fz.kt
  have kr : KeepR H' (upd (extF F H1 H') x (.ins C dx' (lsF hd cy (lpPer L) (lpShift L) kh kc hs cs fm))) := fun p us r => by
    rcases r with r | ⟨o, r⟩
    · exact .inl (kt.1 _ _ r)
    · exact .inr ⟨o, kt.2 _ _ _ r⟩
  exact ⟨dx', hd, cy, kh, kc, hs, cs, fm, xs, ys, kvs, la, upd_same, put _ _ (nex _ n1) n1 h2, put _ _ (nex _ n2) n2 h3, h4.keep kt, h5.keep kt, kt.1 _ _ h6, kt.1 _ _ h7, put _ _ (nex _ n6) n6 h8, put _ _ (nex _ n7) n7 h9, put _ _ (nex _ n8) n8 h10,
    h11.keep kr (fun p mp o e => put _ _ (nex _ (n9 p mp)) (n9 p mp) e), rfl, rfl, n3, n4, n5, hl⟩
/-! ### what tellers and collectors tell -/
/-- the table of the other sides -/
structure OsT (K : PySem.W.Frag) (w : World) (mg : Str → Option Value) where
  a : Addr
  m : mg "OTHER_SIDE" = some (.ref a)
  t : KTab K w a [("left", .str "right"), ("right", .str "left")]
section
variable {P : Program} {w : World} {K : PySem.W.Frag} {mg : Str → Option Value} {base : Heap} {c : HCl}
end
/-! ### what becomes of tellers and collectors -/
section
variable {P : Program} {w : World} {K : PySem.W.Frag} {mg : Str → Option Value} {base : Heap} {c : HCl}
end
/-! ### machines arrive, go; the clock -/
section
variable {P : Program} {w : World} {K : PySem.W.Frag} {mg : Str → Option Value} {base : Heap} {c : HCl}
end
/-! ### a standing with a machine more, or one less; at another clock -/
section
variable {P : Program} {w : World} {K : PySem.W.Frag} {mg : Str → Option Value} {base : Heap} {c : HCl}
end
/-! ### what is guarded, what is barred, the next act -/
section
variable {P : Program} {w : World} {K : PySem.W.Frag} {mg : Str → Option Value} {base : Heap} {c : HCl}
end
def actF (F : Hp) (v : V) : Option (Int × Int × Int) → Prop
  | none => v = .non
  | some r => ∃ t, v = .ref t ∧ F t = some (.tup [.int r.1, .int r.2.1, .int r.2.2])
theorem actF.same {F F' : Hp} (s : Same F F') {v : V} {o : Option (Int × Int × Int)} (h : actF F v o) : actF F' v o := by
  cases o with
  | none => exact h
  | some r => obtain ⟨t, h1, h2⟩ := h; exact ⟨t, h1, s _ _ h2⟩
section
variable {P : Program} {w : World} {K : PySem.W.Frag} {mg : Str → Option Value} {base : Heap} {c : HCl}
end
end My

namespace My
open PySem PySem.Spec PyProof.Rows L2
/-! ### {**d, k: v}: a dict that begins with the entries of another -/
section
variable {P : Program} {w : World} {A : Around} {E : Value → Shared → Prop} {s : Shared}
abbrev mk2 (P : Program) (w : World) := mixKind P w
end
end My

namespace My
open PySem PySem.Spec PyProof.Rows L2
section
variable {X : Cx}
end
/-! ### an act: helpers -/
section
variable {P : Program} {w : World} {K : PySem.W.Frag} {mg : Str → Option Value} {base : Heap} {c : HCl} {σ : L2.St} {F H : Hp} {b : Addr} {m : MacM} {i : Nat} {t : TA} {Q : VK}
end
/-! ### what stands behind an act -/
section
variable {P : Program} {w : World} {K : PySem.W.Frag} {mg : Str → Option Value} {base : Heap} {c : HCl}
end
end My

namespace My
open PySem PySem.Spec PyProof.Rows L2
/-! ### the keys of a written dict, walked -/
def Itw (ks : List PySem.Str) : It := ⟨fun i _ => i < ks.length, fun i H x H' => H' = H ∧ ∃ z, ks[i]? = some z ∧ x = .str z, fun i _ => ks.length ≤ i⟩
theorem ents_pairs {P : Program} {w : World} : ∀ {l : List DictEntry} {tab : List (PySem.Str × V)}, Ents l tab → ∃ vs : List (Key × Value), vs.map (·.1) = tab.map (fun p => (Sum.inr p.1 : Key)) ∧ Pairs (mk2 P w) l vs
  | _, _, .nil => ⟨[], rfl, .nil⟩
  | _, _, .cons (x := x) (t := t) (u := u) rv r => by
    obtain ⟨vs, h1, h2⟩ := ents_pairs (P := P) (w := w) r
    exact ⟨(Sum.inr x, u) :: vs, by rw [List.map_cons, List.map_cons, h1], .cons (keyIs_str x t) rfl h2⟩
theorem ktab_at {P : Program} {w : World} {K : PySem.W.Frag} {h : Heap} {d : Addr} {tab : List (PySem.Str × V)} (X : K.In h) (T : KTab K w d tab) (nd : (tab.map (·.1)).Nodup) :
    ∃ (o : Obj) (es : Array DictEntry) (n : Nat) (vs : List (Key × Value)), h.get? d = some o ∧ o.ExactDict ∧ o.data = .dict es n ∧ es.size = tab.length ∧ vs.map (·.1) = tab.map (fun p => (Sum.inr p.1 : Key)) ∧ h.DictAt (mk2 P w) d vs n := by
  obtain ⟨es, n, hl, hk, he⟩ := T.ex
  obtain ⟨vs, h1, h2⟩ := ents_pairs (P := P) (w := w) he
  have ho := X _ _ hl
  have len : es.size = tab.length := by
    have a := h2.length
    have b := congrArg List.length h1
    rw [List.length_map, List.length_map] at b
    rw [Array.length_toList] at a
    omega
  refine ⟨_, es, n, vs, ho, ⟨rfl, rfl, rfl⟩, rfl, len, h1, _, es, ho, ⟨rfl, rfl, rfl⟩, rfl, fun e me => ?_, h2, ?_⟩
  · obtain ⟨x, t, e1, e2⟩ := hk.all e (Array.mem_toList_iff.mpr me)
    exact ⟨Sum.inr x, by rw [e1]; exact keyIs_str x t, e2⟩
  · rw [h1]
    have : (tab.map fun p => (Sum.inr p.1 : Key)) = (tab.map (·.1)).map Sum.inr := by rw [List.map_map]; rfl
    rw [this]
    exact List.Pairwise.map _ (fun a b (h : a ≠ b) e => h (Sum.inr.inj e)) nd
section
variable {P : Program} {w : World} {K : PySem.W.Frag} {tg : Expr} {d : Addr} {tab : List (PySem.Str × V)}
theorem turn_keysW {n : Nat} {es : Array DictEntry} (it : Addr) (T : KTab K w d tab) (nd : (tab.map (·.1)).Nodup) (hl : ∃ o, K.lookup d = some o ∧ o.data = .dict es n) : Turn P w K tg (Itw (tab.map (·.1))) [it] it (fun i h => h.IsKeyIter it d i tab.length n) where
  mem := by simp
  obj := fun i h st b hb => by
    have e : b = it := by simpa using hb
    subst e
    obtain ⟨oi, e, c, dd⟩ := st
    exact ⟨oi, e, fun v z => by rw [dd] at z; cases z⟩
  keep := fun i h h' st k => by
    obtain ⟨oi, e, c, dd⟩ := st
    exact ⟨oi, k it (by simp) oi e, c, dd⟩
  item := by
    intro X hP hw hK calm i pins s σ H E I hf st go
    subst hP hw hK
    obtain ⟨f0, f1, f2, f3, f4, f5⟩ := hf it (by simp)
    obtain ⟨o, es', n', vs, ho, hx, hd, hsz, hks, hat⟩ := ktab_at (P := X.prog) I.kIn T nd
    obtain ⟨o2, hl2, hd2⟩ := hl
    have eo : o = o2 := by have := I.kIn _ _ hl2; rw [ho] at this; injection this
    subst eo
    rw [hd] at hd2
    cases hd2
    have hlen : vs.length = tab.length := by
      have := congrArg List.length hks
      rwa [List.length_map, List.length_map] at this
    have hi : i < vs.length := by
      have : i < (tab.map (·.1)).length := go
      rw [List.length_map] at this
      omega
    have hv : vs[i]? = some (vs[i].1, vs[i].2) := List.getElem?_eq_getElem hi
    obtain ⟨z, hz⟩ : ∃ z, (tab.map (·.1))[i]? = some z := ⟨_, List.getElem?_eq_getElem go⟩
    have hkey : vs[i].1 = (Sum.inr z : Key) := by
      have h := congrArg (fun l : List Key => l[i]?) hks
      simp only [List.getElem?_map, hv, Option.map_some] at h
      have hz2 := hz
      rw [List.getElem?_map] at hz2
      cases et : tab[i]? with
      | none => rw [et] at hz2; cases hz2
      | some p =>
        rw [et] at h hz2
        injection h with h
        injection hz2 with hz2
        rw [h, ← hz2]
    rw [← hlen] at st
    refine wpAny_pyNext_dict_item st hat hv fun key h' hk' st' sb => ?_
    have I1 : L2.Inv X pins σ H { s with heap := h' } := I.turned (t' := s.toks) (fun b ob hb e => (sb.2 b hb).trans e) f0 f1 f3 f4 f5
    obtain ⟨oi, e, c, dd⟩ := id st'
    rw [hkey] at hk'
    have rv : L2.RelV (.str z) key := relV_key (k := (Sum.inr z : Key)) hk'
    refine ⟨key, rfl, go_of (s := { s with heap := h' }) e c dd (by decide) ⟨.str z, H, I1, rv, ⟨rfl, _, hz, rfl⟩, ?_, fun b hb => (hf b hb).1⟩⟩
    show h'.IsKeyIter it d (i + 1) tab.length _
    rw [← hlen]
    exact st'
  done := by
    intro X hP hw hK calm i pins s σ H E I hf st stop
    subst hP hw hK
    obtain ⟨f0, f1, f2, f3, f4, f5⟩ := hf it (by simp)
    obtain ⟨o, es', n', vs, ho, hx, hd, hsz, hks, hat⟩ := ktab_at (P := X.prog) I.kIn T nd
    obtain ⟨o2, hl2, hd2⟩ := hl
    have eo : o = o2 := by have := I.kIn _ _ hl2; rw [ho] at this; injection this
    subst eo
    rw [hd] at hd2
    cases hd2
    have ge : tab.length ≤ i := by
      have : (tab.map (·.1)).length ≤ i := stop
      rwa [List.length_map] at this
    exact next_key_end (I.ok.hd calm) st ho hd hsz ge fun h' eb => ⟨rfl, I.turned (t' := s.toks) (fun b ob hb e => eb b ob hb e) f0 f1 f3 f4 f5⟩
  self := fun A i s Q E st h => wpAny_pyIter_keyiter st h
def iKeysW (K : PySem.W.Frag) (w : World) (td : TE) : TI := fun σ H R => td σ H fun x H1 => ∃ (d : Addr) (tab : List (PySem.Str × V)), x = .ref d ∧ KTab K w d tab ∧ (tab.map (·.1)).Nodup ∧ R (Itw (tab.map (·.1))) H1
end
theorem pi_keysW {X : Cx} {tg e : Expr} {td : TE} (he : PE X e td) : PI X tg e (iKeysW X.K X.w td) := by
  refine ⟨fun pins s σ H R I h => ?_⟩
  refine thn (he.run pins s σ H _ I h) fun u s1 ⟨x, H1, I1, rx, d, tab, ex, T, nd, q⟩ => ?_
  subst ex
  obtain rfl : u = Value.ref d := rx
  obtain ⟨o, es, n, vs, ho, hx, hd, hsz, hks, hat⟩ := ktab_at (P := X.prog) I1.kIn T nd
  have hl : ∃ o, X.K.lookup d = some o ∧ o.data = .dict es n := by
    obtain ⟨es', n', hl, _, _⟩ := T.ex
    have := I1.kIn _ _ hl
    rw [ho] at this
    injection this with this
    subst this
    exact ⟨_, hl, hd⟩
  refine iter_keys T.low ho hx hd (pi_one (tk := s1.toks) I1 _ (turn_keysW _ T nd hl) ⟨_, Heap.get?_push_size _ rfl, rfl, ?_⟩ q)
  rw [hsz]
  rfl
theorem walk_keysW {ks : List PySem.Str} : Walk (Itw ks) ks.length (fun _ => True) (fun i H x H' => H' = H ∧ ∃ z, ks[i]? = some z ∧ x = .str z) :=
  ⟨fun _ _ hi _ => hi, fun _ _ => Nat.le_refl _, fun _ _ _ _ _ _ y => y⟩
/-- a dict comprehension over anything that Walk serves -/
theorem dc_it {J : It} {n : Nat} {G : Hp → Prop} {Y : Nat → Hp → V → Hp → Prop} (wk : Walk J n G Y) {g : TG} {tt : TT} {tk tv : TE} {vs : List Nat} {σ : L2.St} {H1 : Hp} {D : Addr} {Qd : Hp → Prop} (Pv : Nat → Hp → Prop) (h0 : Pv 0 (upd H1 D (.dK []))) (hG : ∀ i H, i ≤ n → Pv i H → G H)
    (hs : ∀ i x H H', i < n → Pv i H → Y i H x H' → g x (wipe σ vs) H' fun σ2 H2 => wipe σ2 vs = wipe σ vs ∧ tt σ2 H2 fun b H3 =>
      if b = true then tk σ2 H3 fun y H4 => tv σ2 H4 fun z H5 => ∃ kvs k, y = kV k ∧ H5 D = some (.dK kvs) ∧ kvs.length < sizeLine ∧ Pv (i + 1) (upd H5 D (.dK (putK kvs k z))) else Pv (i + 1) H3) (hd : ∀ H, Pv n H → Qd H) :
    ∃ W : Nat → Nat → Hp → Prop, (∃ m, W 0 m (upd H1 D (.dK []))) ∧ ∀ i m H, W i m H →
      (J.stop i H ∧ Qd H) ∨ (J.go i H ∧ ∃ Nx : Hp → Prop, (∀ H', Nx H' → ∃ m', m' < m ∧ W (i + 1) m' H') ∧ ∀ x H', J.yld i H x H' → g x (wipe σ vs) H' fun σ2 H2 => wipe σ2 vs = wipe σ vs ∧ tt σ2 H2 fun b H3 =>
        if b = true then tk σ2 H3 fun y H4 => tv σ2 H4 fun z H5 => ∃ kvs k, y = kV k ∧ H5 D = some (.dK kvs) ∧ kvs.length < sizeLine ∧ Nx (upd H5 D (.dK (putK kvs k z))) else Nx H3) := by
  refine ⟨fun i m H => m = n - i ∧ i ≤ n ∧ Pv i H, ⟨n, by simp, Nat.zero_le _, h0⟩, ?_⟩
  rintro i m H ⟨rfl, hi, p⟩
  have q := hG i H hi p
  rcases Nat.lt_or_ge i n with lt | ge
  · exact .inr ⟨wk.goes i H lt q, Pv (i + 1), fun H' p' => ⟨n - (i + 1), by omega, rfl, lt, p'⟩, fun x H' y => hs i x H H' lt p (wk.yields i H x H' lt q y)⟩
  · have e : i = n := by omega
    subst e
    exact .inl ⟨wk.stops H q, hd H p⟩
end My

namespace My
open PySem PySem.Spec PyProof.Rows L2
/-! ### repr of data: it asks that no repr is under way, so a promise that says so is wanted -/
/-- a promise kept where no repr is under way -/
structure FnG (P : Program) (w : World) (K : PySem.W.Frag) (mg : Str → Option Value) (base : Heap) (CX : CXT) (k : Nat) (f : Addr) (fd : FuncData) (ps : List Str) (sp : Sp) : Prop where
  len : ∀ vs H Q E, sp vs H Q E → vs.length = ps.length
  run : ∀ (A : Around), A.guards = some [] → ∀ (outer : List Env) (s : Shared) (H : Hp) (args : Args) (us : List Value) (vs : List V) (Q : VK) (E : XK), Room k A → Env0 P w K mg base A outer s H → BindsTo s fd args (ps.zip us) → Vals vs us → sp vs H Q E →
    codeAny (model P w) A (.call (.ref f) args) (CR CX outer P w H s Q E) s
section
variable {P : Program} {w : World} {K : PySem.W.Frag} {mg : Str → Option Value} {base : Heap} {CX : CXT} {k : Nat} {f : Addr} {fd : FuncData} {ps : List Str} {sp : Sp}
theorem FnG.of (F : FnOk P w K mg base CX k f fd ps sp) : FnG P w K mg base CX k f fd ps sp := ⟨F.len, fun A _ outer s H args us vs Q E => F.run A outer s H args us vs Q E⟩
theorem FnG.mono {j : Nat} (F : FnG P w K mg base CX j f fd ps sp) (h : j ≤ k) : FnG P w K mg base CX k f fd ps sp := ⟨F.len, fun A hg outer s H args us vs Q E hr => F.run A hg outer s H args us vs Q E (hr.mono h)⟩
/-- a def of the text keeps such a promise -/
theorem okG {x qual : Str} {st : Stmt} {N : List Str} (F : Fun K x qual st f fd) (S : FnScope N ps (defScope st)) (len : ∀ vs H Q E, sp vs H Q E → vs.length = ps.length)
    (hbody : ∀ (cdv : Value) (A : Around) (outer : List Env) (s : Shared) (H : Hp) (vs : List V) (Q : VK) (E : XK), A.guards = some [] → Room k (A.deeper (envOfC qual (defScope st) s.heap.objs.size f cdv)) → sp vs H Q E →
      ∃ t, PSs (cxOf CX P w K mg base N qual (defScope st) f cdv A outer s H E) (defBody st) t ∧ t { nx := fun _ H' => Q .non H', rt := Q } (start N vs) H) : FnG P w K mg base CX (k + 1) f fd ps sp := by
  obtain ⟨oc, od, kV, doc, pm, an, cdv, ct, osl, rfl, lk, hcd⟩ := F.ex
  constructor
  · exact len
  intro A hg outer s H args us vs Q E hr e0 hb r hsp
  have up : ∀ b o, base.get? b = some o → s.heap.get? b = some o := fun b o e => (e0.bs b o e).1
  have KX : K.In s.heap := e0.mod.kin.keeps up
  have kinds : ∀ y ∈ ps.zip us, (defScope st).names.lookup y.1 = some .local ∨ ((defScope st).names.lookup y.1 = some .cell ∧ ((cellsFrom (s.heap.objs.size + 1) (defScope st).names []).lookup y.1).isSome = true) := by
    rintro ⟨n, v⟩ hy
    exact (S.par n (List.of_mem_zip hy).1).imp id fun q => ⟨q, PySem.W.cellsFrom_some _ _ _ (.inl q)⟩
  obtain ⟨t, ht, hq⟩ := hbody cdv A outer s H vs Q E hg (hr.deeper _) hsp
  refine codeAny_call_function hr.depth (KX _ _ lk) rfl S.co S.gen rfl (PySem.W.codeRec_of KX hcd) (hb _ _ _ _ (wpAny_newFunctionEnv_cells S.kind kinds fun env he s1 x => ?_))
  subst he
  refine ⟨(e0.mod.nolimit.keeps up).keeps x.toInCall.keep, codeAny_func (wpAny_mono (ht.run [] s1 (start N vs) H _ (inv_start S hr.hd e0 (len _ _ _ _ hsp) r x) hq) (fun fl s' hs => ?_) fun e s' hs => hs)⟩
  match fl, hs with
  | .ret u, ⟨v, _, H', J, rv, q⟩ => exact ⟨v, H', J.os, J.bare, J.base, J.hok, rv, q⟩
  | .next, ⟨_, H', J, q⟩ => exact ⟨.non, H', J.os, J.bare, J.base, J.hok, rfl, q⟩
  | .brk, ⟨_, _, _, q⟩ => exact q.elim
  | .cont, ⟨_, _, _, q⟩ => exact q.elim
end
/-- no exception leaves it -/
theorem okG0 {P : Program} {w : World} {K : PySem.W.Frag} {mg : Str → Option Value} {base : Heap} {k : Nat} {f : Addr} {fd : FuncData} {ps : List Str} {sp : Sp} {x qual : Str} {st : Stmt} {N : List Str} (F : Fun K x qual st f fd) (S : FnScope N ps (defScope st)) (len : ∀ vs H Q E, sp vs H Q E → vs.length = ps.length)
    (hbody : ∀ (cdv : Value) (A : Around) (outer : List Env) (s : Shared) (H : Hp) (vs : List V) (Q : VK) (E : XK), A.guards = some [] → Room k (A.deeper (envOfC qual (defScope st) s.heap.objs.size f cdv)) → sp vs H Q E →
      ∃ t, PSs (cxOf CX0 P w K mg base N qual (defScope st) f cdv A outer s H E).nox (defBody st) t ∧ t { nx := fun _ H' => Q .non H', rt := Q } (start N vs) H) : FnG P w K mg base CX0 (k + 1) f fd ps sp :=
  okG F S len fun cdv A outer s H vs Q E hg hr hsp => let ⟨t, h, q⟩ := hbody cdv A outer s H vs Q E hg hr hsp; ⟨t, h.nox, q⟩
/-- such a callee, with all that a caller needs -/
structure CalG (P : Program) (w : World) (K : PySem.W.Frag) (mg : Str → Option Value) (base : Heap) (k : Nat) (x : Str) (ps : List Str) (sp : Sp) where
  f : Addr
  fd : FuncData
  G : FnG P w K mg base CX0 k f fd ps sp
  b : Binds K fd ps []
  kp : PySem.W.keepIn K (.ref f) = true
  m : mg x = some (.ref f)
section
variable {X : Cx} {CX : CXT} {k : Nat} {f : Addr} {fd : FuncData} {ps : List Str} {sp : Sp} {dvs : List V} {ds : List Value} {E : XK} {x : Str} {p pos : Pos} {e : Expr} {es : List Expr} {t : TA}
theorem pe_callG (F : FnG X.prog X.w X.K X.mg X.base CX k f fd ps sp) (gd : X.A.guards = some []) (hr : Room k X.A) (hg : Gl X x) (hm : X.mg x = some (.ref f)) (hk : PySem.W.keepIn X.K (.ref f) = true) (hb : Binds X.K fd ps ds) (hd : Vals dvs ds) (hx : Passes CX X E)
    (ha : PA X (e :: es) t) (hdb : (x == ("__debug__" : Str)) = false := by decide) (he : starEach (e :: es) X.env = (false, eval e X.env) :: starEach es X.env := by rfl) (hpl : (backTo pos (starEach es X.env)).any (·.1) = false := by rfl) :
    PE X (.Call (.Name x p) (e :: es) [] pos) (tCall sp dvs E t) := by
  constructor
  intro pins s σ H Q I h
  refine wpAny_Call_Name_kw (ld_glob I hg hm (PySem.W.callWith_K (h₀ := X.base) I.ok.mod.kin hk (thn (ha.run pos pins s σ H _ I h) fun us s1 ⟨vs, H1, I1, r, q⟩ => ⟨I1.kIn, ?_⟩) he hpl) hdb)
  have r2 : Vals (vs ++ dvs) (us ++ ds) := r.append hd
  refine wpAny_call (codeAny_mono (F.run X.A gd X.stack s1 H1 ⟨us, []⟩ (us ++ ds) (vs ++ dvs) Q E hr I1.env0 (hb s1 us I1.kIn (by rw [← r2.length]; exact F.len _ _ _ _ q)) r2 q) fun r s' hq => ?_)
  match r, hq with
  | .error e, hq => exact hx pins σ H1 s1 e s' I1 hq
  | .ok (.ret u), hq => exact I1.after hq
  | .ok .next, hq => exact hq.elim
  | .ok .brk, hq => exact hq.elim
  | .ok .cont, hq => exact hq.elim
end
/-! #### how long a repr is -/
mutual
def rlD : PyData → Nat
  | .none => 4
  | .bool _ => 5
  | .int i => i.natAbs.log2 + 2
  | .str x => (reprText x).length
  | .list xs => rlAll xs + 3
  | .tuple xs => rlAll xs + 3
  | .dict _ => 0
def rlAll : List PyData → Nat
  | [] => 0
  | x :: xs => rlD x + 2 + rlAll xs
end
theorem join_le : ∀ ts : List Str, (Str.join ", " ts).length ≤ piled ts
  | [] => Nat.le_refl _
  | t :: r => by have := join_length_add (t :: r) (by simp); omega
mutual
theorem shown_len : ∀ d : PyData, d.hasDict = false → d.shown.length ≤ rlD d
  | .none, _ => by simp only [PyData.shown, rlD]; decide
  | .bool b, _ => by cases b <;> simp only [PyData.shown, rlD] <;> decide
  | .int i, _ => by
    rw [PyData.shown_int]
    have := int_text_length_le (a := i) (k := i.natAbs.log2 + 1) (Nat.succ_pos _) (Nat.lt_succ_self _)
    simp only [rlD]
    rw [PySem.ofString_length]
    omega
  | .str x, _ => by rw [PyData.shown_str]; simp only [rlD]; exact Nat.le_refl _
  | .list xs, h => by
    have h1 := shownAll_len xs (by simpa [PyData.hasDict] using h)
    have h2 := join_le (PyData.shownAll xs)
    rw [PyData.shown_list, strLen_append, strLen_append]
    have e1 : (("[" : String) : Str).length = 1 := rfl
    have e2 : (("]" : String) : Str).length = 1 := rfl
    simp only [rlD]
    omega
  | .tuple xs, h => by
    have h1 := shownAll_len xs (by simpa [PyData.hasDict] using h)
    have h2 := join_le (PyData.shownAll xs)
    rw [PyData.shown_tuple, strLen_append, strLen_append]
    have e1 : (("(" : String) : Str).length = 1 := rfl
    have e2 : (((if xs.length == 1 then ",)" else ")" : String)) : Str).length ≤ 2 := by split <;> decide
    simp only [rlD]
    omega
  | .dict _, h => by simp [PyData.hasDict] at h
theorem shownAll_len : ∀ ds : List PyData, PyData.hasDictAll ds = false → piled (PyData.shownAll ds) ≤ rlAll ds
  | [], _ => by simp only [PyData.shownAll, rlAll]; exact Nat.le_refl _
  | x :: xs, h => by
    have h' : x.hasDict = false ∧ PyData.hasDictAll xs = false := by simpa [PyData.hasDictAll] using h
    have h1 := shown_len x h'.1
    have h2 := shownAll_len xs h'.2
    rw [PyData.shownAll_cons, piled_cons]
    simp only [rlAll]
    omega
end
mutual
theorem dp_noD {K : PySem.W.Frag} {H : Hp} : ∀ (d : PyData) (v : V), Dp K H v d → d.hasDict = false
  | .none, _, _ => by simp only [PyData.hasDict]
  | .bool _, _, _ => by simp only [PyData.hasDict]
  | .int _, _, _ => by simp only [PyData.hasDict]
  | .str _, _, _ => by simp only [PyData.hasDict]
  | .list ds, _, h => by
    cases h with
    | lst hs ha => simp only [PyData.hasDict]; exact dpAll_noD ds _ ha
  | .tuple ds, _, h => by
    cases h with
    | tup hs ha => simp only [PyData.hasDict]; exact dpAll_noD ds _ ha
  | .dict _, _, h => by cases h
theorem dpAll_noD {K : PySem.W.Frag} {H : Hp} : ∀ (ds : List PyData) (vs : List V), DpAll K H vs ds → PyData.hasDictAll ds = false
  | [], _, _ => by simp only [PyData.hasDictAll]
  | d :: ds, _, h => by
    cases h with
    | cons hd ht => simp only [PyData.hasDictAll, dp_noD d _ hd, dpAll_noD ds _ ht, Bool.or_self]
end
/-- what repr takes -/
structure ShOk (d : PyData) : Prop where
  sh : d.showable = true
  dp : d.depth ≤ 20
  sz : rlD d ≤ 16000000
section
variable {X : Cx}
theorem call_reprD (gd : X.A.guards = some []) (hu : X.A.units + 65 < cLine) : CallR X (.builtin "repr") (fun xs H Q => ∃ a d, xs = [.ref a] ∧ Dp X.K H (.ref a) d ∧ ShOk d ∧ Q (.str d.shown) H) := by
  intro pins s σ H xs us Q I r h
  obtain ⟨a, d, rfl, hd, ok, q⟩ := h
  obtain rfl : us = [Value.ref a] := by
    cases r with
    | cons ru r2 =>
      cases r2
      exact congrArg (fun u => [u]) (show _ = Value.ref a from ru)
  obtain ⟨as, rd⟩ := Dp.reads I d (.ref a) (.ref a) hd rfl
  have nd := dp_noD d _ hd
  refine repr_of_reads' rd ok.sh (PyData.noDict_hsm nd) gd (by have := ok.dp; omega) (fun _ _ e => e) (fun h' u tk hk => ⟨.str d.shown, H, I.kept hk, ⟨_, rfl⟩, q⟩) ?_
  have := shown_len d nd
  have := ok.sz
  rw [sizeLine_eq]
  omega
end
abbrev sPur : Stmt := top 81
abbrev sTak : Stmt := top 82
abbrev sAlk : Stmt := top 83
/-! ### the purse: a list of three numbers, drawn from -/
/-- j: how many mixed numbers have been drawn at most -/
def Bg (j : Nat) (H : Hp) (b : Addr) : Prop := ∃ c t n : Int, H b = some (.lst [.int c, .int t, .int n]) ∧ 0 ≤ c ∧ 0 ≤ t ∧ t < 2147483647 ∧ 0 ≤ n ∧ n ≤ (j : Int)
theorem Bg.mono {j k : Nat} {H : Hp} {b : Addr} (h : Bg j H b) (le : j ≤ k) : Bg k H b := by
  obtain ⟨c, t, n, e, h1, h2, h3, h4, h5⟩ := h
  exact ⟨c, t, n, e, h1, h2, h3, h4, by omega⟩
theorem Bg.ne {j : Nat} {H : Hp} {b p : Addr} (h : Bg j H b) (n : H p = none) : b ≠ p := by
  obtain ⟨c, t, k, e, _⟩ := h
  exact ne_of_none e n
theorem Bg.keep {j : Nat} {H H' : Hp} {b : Addr} (h : Bg j H b) (s : Same H H') : Bg j H' b := by
  obtain ⟨c, t, n, e, r⟩ := h
  exact ⟨c, t, n, s _ _ e, r⟩
/-- the most that is drawn of at once: 2 ** 1000 -/
def takeMax : Int := 2 ^ 1000
def spPur (K : PySem.W.Frag) : Sp := fun vs H Q _ => ∃ (a : Addr) (ns : List Int) (k : Nat), vs = [.ref a, .int (k : Nat)] ∧ SqL K H a (ns.map V.int) ∧ ns.length ≤ 63 ∧ k < 64 ∧ ∀ H' p, Same H H' → H p = none → Bg 0 H' p → Q (.ref p) H'
def spTak : Sp := fun vs H Q _ => ∃ (b : Addr) (m : Int) (j : Nat), vs = [.ref b, .int m] ∧ Bg j H b ∧ 0 < m ∧ m < takeMax ∧ j ≤ 2 ^ 50 ∧ ∀ H' r, Fr b H H' → Bg (j + 50) H' b → 0 ≤ r → r < m → Q (.int r) H'
theorem reach_lt {i : Nat} {m : Int} (h : ((16777216 ^ i : Nat) : Int) < m) (hm : m < takeMax) : i ≤ 41 := by
  have h1 : ((16777216 ^ i : Nat) : Int) < ((2 ^ 1000 : Nat) : Int) := by
    have : takeMax = ((2 ^ 1000 : Nat) : Int) := by decide +kernel
    omega
  have h2 : 16777216 ^ i < 2 ^ 1000 := Int.ofNat_lt.mp h1
  rw [show (16777216 : Nat) = 2 ^ 24 from rfl, ← Nat.pow_mul] at h2
  have := (Nat.pow_lt_pow_iff_right (by decide : 1 < 2)).mp h2
  omega
section
variable {P : Program} {w : World} {K : PySem.W.Frag} {mg : Str → Option Value} {base : Heap}
theorem scPur : FnScope ["_law_script", "_law_at", "_law_cell", "_law_far"] ["_law_script", "_law_at"] (defScope sPur) := ⟨rfl, rfl, rfl, by decide +kernel, rfl, by decide +kernel, by decide +kernel⟩
theorem ok_pur {f : Addr} {fd : FuncData} (F : Fun K "_law_purse" "_law_purse" sPur f fd) (T : Gs K mg) (ab : mg "abs" = none) : FnOk P w K mg base CX0 1 f fd ["_law_script", "_law_at"] (spPur K) := by
  refine F.ok scPur (fun vs H Q E h => ?_) (fun cdv A outer s H vs Q E hr h => ?_)
  · obtain ⟨a, ns, k, rfl, _⟩ := h
    rfl
  obtain ⟨a, ns, k, rfl, hS, h63, hk, q⟩ := h
  refine ⟨_, (pss_cons (ps_set (i := 2) scPur.nd rfl (.inl rfl) (pe_ifExp (pt_cmpR op_lt (pv 1) (pe_callB call_len_seq (by rfl) T.len PySem.boot_len (pa_cons (pv 0) pa_nil)) (nomark _)) (pe_ix ix_list (pv 0) (pv 1) (fun _ _ => rfl)) pe_int))
    (pss_cons (ps_set (i := 3) scPur.nd rfl (.inl rfl) (pe_callB call_abs (by rfl) ab (by decide +kernel) (pa_cons (pv 2) pa_nil)))
    (pss_one (ps_ret (pe_lst (pa_cons (pe_op op_mul (pv 3) (pe_callTy call_int1 (by rfl) T.int (by decide +kernel) (pa_cons (pe_cmpR op_ge (pv 3) (pe_op op_pow pe_int pe_int) (nomark _)) pa_nil))) (pa_cons (pe_op op_mod (pe_op op_add (pe_op op_add (pe_op op_mod (pv 2) pe_int) (pe_op op_mul pe_int (pv 1))) pe_int) pe_int) (pa_cons pe_int pa_nil)))))))), ?_⟩
  have hl : (ns.map V.int).length = ns.length := List.length_map _
  have fin : ∀ (far : Int) (z : Int), 0 ≤ far → ∀ p, H p = none → Q (.ref p) (upd H p (.lst [.int (far * (if decide ((10 : Int) ^ (18 : Int).toNat ≤ far) then 1 else 0)), .int (z % 2147483647), .int 0])) := fun far z h0 p np => by
    refine q _ p (same_new np _) np ⟨_, _, _, upd_same, ?_, Int.emod_nonneg z (by decide), Int.emod_lt_of_pos z (by decide), Int.le_refl 0, Int.le_refl 0⟩
    split
    · omega
    · omega
  refine ⟨_, rfl, _, rfl, a, _, rfl, .inl hS, _, _, rfl, rfl, _, rfl, ?_⟩
  refine ite2 (fun c => ?_) (fun c => ?_)
  · have c' := of_decide_eq_true c
    rw [hl] at c'
    have hkn : k < ns.length := by omega
    have hat : atI (ns.map V.int) ((k : Nat) : Int) = some (.int ns[k]) := atI_nat (by rw [List.getElem?_map, List.getElem?_eq_getElem hkn]; rfl)
    have h0 : 0 ≤ (if ns[k] < 0 then -ns[k] else ns[k]) := by split <;> omega
    refine ⟨_, rfl, _, rfl, a, _, _, _, rfl, rfl, hS, hat, _, rfl, _, rfl, ?_⟩
    exact ⟨_, rfl, _, rfl, _, _, rfl, rfl, ⟨by decide, by decide, by decide⟩, _, _, rfl, rfl, .inr ⟨_, rfl, _, _, rfl, rfl, Or.inr (one_or _), _, rfl, _, _, rfl, rfl, (by show (0 : Int) < 2147483647; decide), _, rfl, _, _, rfl, rfl, .inl (by decide), _, _, rfl, rfl, _, _, rfl, rfl, _, _, rfl, rfl, (by show (0 : Int) < 2147483647; decide), (by show 3 ≤ sizeLine; decide), fun p np => fin _ _ h0 p np⟩⟩
  · refine ⟨_, rfl, _, rfl, ?_⟩
    exact ⟨_, rfl, _, rfl, _, _, rfl, rfl, ⟨by decide, by decide, by decide⟩, _, _, rfl, rfl, .inr ⟨_, rfl, _, _, rfl, rfl, Or.inr (one_or _), _, rfl, _, _, rfl, rfl, (by show (0 : Int) < 2147483647; decide), _, rfl, _, _, rfl, rfl, .inl (by decide), _, _, rfl, rfl, _, _, rfl, rfl, _, _, rfl, rfl, (by show (0 : Int) < 2147483647; decide), (by show 3 ≤ sizeLine; decide), fun p np => fin _ _ (by decide) p np⟩⟩
theorem scTak : FnScope ["_law_bag", "_law_many", "_law_digit", "_law_found", "_law_reach"] ["_law_bag", "_law_many"] (defScope sTak) := ⟨rfl, rfl, rfl, by decide +kernel, rfl, by decide +kernel, by decide +kernel⟩
theorem ok_tak {f : Addr} {fd : FuncData} (F : Fun K "_law_take" "_law_take" sTak f fd) : FnOk P w K mg base CX0 1 f fd ["_law_bag", "_law_many"] spTak := by
  refine F.ok scTak (fun vs H Q E h => ?_) (fun cdv A outer s H vs Q E hr h => ?_)
  · obtain ⟨b, m, j, rfl, _⟩ := h
    rfl
  obtain ⟨b, m, j, rfl, hB, m0, m1, hj, q⟩ := h
  refine ⟨_, (pss_cons (ps_if (pt_cmpR op_gt (pe_ix ix_list (pv 0) pe_int (fun _ _ => rfl)) pe_int (nomark _))
      (pss_cons (ps_set (i := 2) scTak.nd rfl (.inl rfl) (pe_op op_mod (pe_ix ix_list (pv 0) pe_int (fun _ _ => rfl)) (pv 1)))
      (pss_cons (ps_asg (pe_op op_fdivW (pe_ix ix_list (pv 0) pe_int (fun _ _ => rfl)) (pv 1)) (pg_sub (pv 0) pe_int set_list))
      (pss_one (ps_ret (pv 2)))))
      pss_nil)
    (pss_cons (ps_asg (pe_tup (pa_cons pe_int (pa_cons pe_int pa_nil))) (pg_tup (by rfl) (pgs_cons (pg_name (i := 3) scTak.nd rfl (.inl rfl)) (pgs_cons (pg_name (i := 4) scTak.nd rfl (.inl rfl)) pgs_nil))))
    (pss_cons (ps_while PassesOwn.never (pt_cmpR op_lt (pv 4) (pv 1) (nomark _))
      (pss_cons (ps_asg (pe_op op_add (pe_ix ix_list (pv 0) pe_int (fun _ _ => rfl)) pe_int) (pg_sub (pv 0) pe_int set_list))
      (pss_cons (ps_asg (pe_op op_mod (pe_op op_add (pe_op op_add (pe_op op_mul (pe_ix ix_list (pv 0) pe_int (fun _ _ => rfl)) pe_int) (pe_op op_mul (pe_op op_mul pe_int (pe_ix ix_list (pv 0) pe_int (fun _ _ => rfl))) (pe_ix ix_list (pv 0) pe_int (fun _ _ => rfl)))) pe_int) pe_int) (pg_sub (pv 0) pe_int set_list))
      (pss_cons (ps_set (i := 3) scTak.nd rfl (.inl rfl) (pe_op op_add (pe_op op_mul (pv 3) pe_int) (pe_op op_mod (pe_op op_fdiv (pe_op op_mod (pe_op op_mul (pe_ix ix_list (pv 0) pe_int (fun _ _ => rfl)) (pe_op op_add (pe_op op_fdiv (pe_ix ix_list (pv 0) pe_int (fun _ _ => rfl)) pe_int) pe_int)) pe_int) pe_int) pe_int)))
      (pss_one (ps_set (i := 4) scTak.nd rfl (.inl rfl) (pe_op op_mul (pv 4) pe_int)))))))
    (pss_one (ps_ret (pe_op op_mod (pv 3) (pv 1))))))), ?_⟩
  obtain ⟨c, t, n, hb, c0, t0, t1, n0, n1⟩ := id hB
  refine ⟨_, rfl, b, _, _, _, rfl, rfl, SqL.of hb, atI_nat (j := 0) rfl, _, _, rfl, rfl, _, rfl, ?_⟩
  have md : CDivW c m := wide_div m0 (b := 1000) (by have : takeMax = 2 ^ 1000 := rfl; omega) (by decide) (by decide)
  by_cases h : (0 : Int) < c
  · rw [decide_eq_true h]
    refine iteT ⟨_, rfl, b, _, _, _, rfl, rfl, SqL.of hb, atI_nat (j := 0) rfl, _, rfl, _, _, rfl, rfl, m0, ?_⟩
    refine ⟨_, rfl, b, _, _, _, rfl, rfl, SqL.of hb, atI_nat (j := 0) rfl, _, rfl, _, _, rfl, rfl, md, _, rfl, b, _, _, 0, rfl, rfl, hb, rfl, ?_⟩
    exact ⟨_, rfl, q _ _ (Fr.upd _) ⟨c / m, t, n, upd_same, Int.ediv_nonneg c0 (by omega), t0, t1, n0, by omega⟩ (Int.emod_nonneg _ (by omega)) (Int.emod_lt_of_pos _ m0)⟩
  · rw [decide_eq_false h]
    refine iteF ⟨(by show 2 ≤ sizeLine; decide), fun tp ntp => ⟨tp, _, rfl, SqT.of upd_same, rfl, ?_⟩⟩
    refine ⟨_, _, rfl, _, _, rfl, rfl, seq_while ?_⟩
    refine while_m (fun d σ H' => ∃ (x : Int) (i : Nat), σ = [some (.ref b), some (.int m), none, some (.int x), some (.int ((16777216 ^ i : Nat) : Int))] ∧ Fr b H H' ∧ Bg (j + i) H' b ∧ i ≤ 42 ∧ d = 42 - i) (m0 := 42) ⟨0, 0, rfl, Fr.of (same_new ntp _), hB.keep (same_new ntp _), by decide, rfl⟩ ?_ ?_
    · rintro d σ H' ⟨x, i, rfl, f1, ⟨c', t', n', hb', c0', t0', t1', n0', n1'⟩, hi, rfl⟩
      refine ⟨_, rfl, _, rfl, _, _, rfl, rfl, _, rfl, ?_⟩
      by_cases lt : ((16777216 ^ i : Nat) : Int) < m
      · rw [decide_eq_true lt]
        have hi2 := reach_lt lt m1
        refine iteT ⟨_, rfl, b, _, _, _, rfl, rfl, SqL.of hb', atI_nat (j := 2) rfl, _, _, rfl, rfl, _, rfl, b, _, _, 2, rfl, rfl, hb', rfl, ?_⟩
        have e2 : (upd H' b (.lst ([V.int c', V.int t', V.int n'].set 2 (V.int (n' + 1))))) b = some (.lst [.int c', .int t', .int (n' + 1)]) := upd_same
        have f2 : Fr b H' (upd H' b (.lst ([V.int c', V.int t', V.int n'].set 2 (V.int (n' + 1))))) := Fr.upd _
        generalize upd H' b (.lst ([V.int c', V.int t', V.int n'].set 2 (V.int (n' + 1)))) = H2 at e2 f2 ⊢
        refine ⟨_, rfl, b, _, _, _, rfl, rfl, SqL.of e2, atI_nat (j := 1) rfl, _, _, rfl, rfl, .inr (by decide), _, rfl, b, _, _, _, rfl, rfl, SqL.of e2, atI_nat (j := 2) rfl, _, _, rfl, rfl, .inl (by decide),
          _, rfl, b, _, _, _, rfl, rfl, SqL.of e2, atI_nat (j := 2) rfl, _, _, rfl, rfl, .inr ⟨by omega, by omega⟩, _, _, rfl, rfl, _, _, rfl, rfl, _, _, rfl, rfl, (by show (0 : Int) < 2147483647; decide), _, rfl, b, _, _, 1, rfl, rfl, e2, rfl, ?_⟩
        have u0 : 0 ≤ ((t' * 48271 + 31 * (n' + 1) * (n' + 1) + 11) % 2147483647) := Int.emod_nonneg _ (by decide)
        have u1 : ((t' * 48271 + 31 * (n' + 1) * (n' + 1) + 11) % 2147483647) < 2147483647 := Int.emod_lt_of_pos _ (by decide)
        have e3 : (upd H2 b (.lst ([V.int c', V.int t', V.int (n' + 1)].set 1 (V.int ((t' * 48271 + 31 * (n' + 1) * (n' + 1) + 11) % 2147483647))))) b = some (.lst [.int c', .int ((t' * 48271 + 31 * (n' + 1) * (n' + 1) + 11) % 2147483647), .int (n' + 1)]) := upd_same
        have f3 : Fr b H2 (upd H2 b (.lst ([V.int c', V.int t', V.int (n' + 1)].set 1 (V.int ((t' * 48271 + 31 * (n' + 1) * (n' + 1) + 11) % 2147483647))))) := Fr.upd _
        generalize upd H2 b (.lst ([V.int c', V.int t', V.int (n' + 1)].set 1 (V.int ((t' * 48271 + 31 * (n' + 1) * (n' + 1) + 11) % 2147483647)))) = H3 at e3 f3 ⊢
        generalize ((t' * 48271 + 31 * (n' + 1) * (n' + 1) + 11) % 2147483647) = u at u0 u1 e3 ⊢
        refine ⟨_, rfl, _, _, rfl, rfl, .inr (by decide), _, rfl, b, _, _, _, rfl, rfl, SqL.of e3, atI_nat (j := 1) rfl, _, rfl, b, _, _, _, rfl, rfl, SqL.of e3, atI_nat (j := 1) rfl, _, _, rfl, rfl, ⟨by decide, by decide⟩, _, _, rfl, rfl, _, _, rfl, rfl, .inl ⟨by omega, by omega⟩,
          _, _, rfl, rfl, (by show (0 : Int) < 2147483629; decide), _, _, rfl, rfl, ⟨by decide, by decide⟩, _, _, rfl, rfl, (by show (0 : Int) < 16777216; decide), _, _, rfl, rfl, ?_⟩
        refine ⟨_, rfl, _, _, rfl, rfl, .inr (by decide), ?_⟩
        refine ⟨42 - (i + 1), by omega, x * 16777216 + u * (u / 65536 + 7) % 2147483629 / 64 % 16777216, i + 1, ?_, f1.trans (f2.trans f3), ⟨c', u, n' + 1, e3, c0', u0, u1, by omega, by omega⟩, by omega, rfl⟩
        have e16 : ((16777216 ^ (i + 1) : Nat) : Int) = ((16777216 ^ i : Nat) : Int) * 16777216 := by rw [Nat.pow_succ, Int.natCast_mul]; rfl
        rw [e16]
        rfl
      · rw [decide_eq_false lt]
        exact iteF ⟨_, rfl, _, rfl, _, _, rfl, rfl, m0, q _ _ f1 ⟨c', t', n', hb', c0', t0', t1', n0', by omega⟩ (Int.emod_nonneg _ (by omega)) (Int.emod_lt_of_pos _ m0)⟩
    · rintro σ H' Q1 Q2 h ⟨v, e, v2, e2, i, k, e3, e4, z, e5, q⟩
      exact ⟨v, e, v2, e2, i, k, e3, e4, z, e5, h _ _ q⟩
/-! ### _law_alike: both reprs are the same text -/
theorem scAlk : FnScope ["_law_found", "_law_due"] ["_law_found", "_law_due"] (defScope sAlk) := ⟨rfl, rfl, rfl, by decide +kernel, rfl, by decide +kernel, by decide +kernel⟩
def spAlk (K : PySem.W.Frag) : Sp := fun vs H Q _ => ∃ (a b : Addr) (d : PyData), vs = [.ref a, .ref b] ∧ Dp K H (.ref a) d ∧ Dp K H (.ref b) d ∧ ShOk d ∧ Q (.bl true) H
theorem ok_alk {f : Addr} {fd : FuncData} (F : Fun K "_law_alike" "_law_alike" sAlk f fd) (mr : mg "repr" = none) : FnG P w K mg base CX0 1 f fd ["_law_found", "_law_due"] (spAlk K) := by
  refine okG0 F scAlk (fun vs H Q E h => ?_) (fun cdv A outer s H vs Q E hg hr h => ?_)
  · obtain ⟨a, b, d, rfl, _⟩ := h
    rfl
  obtain ⟨a, b, d, rfl, h1, h2, ok, q⟩ := h
  refine ⟨_, (pss_one (ps_ret (pe_cmpR op_eq (pe_callB (call_reprD hg (hu65 hr)) (by rfl) mr (by decide +kernel) (pa_cons (pv 0) pa_nil)) (pe_callB (call_reprD hg (hu65 hr)) (by rfl) mr (by decide +kernel) (pa_cons (pv 1) pa_nil)) (nomark _)))), ?_⟩
  refine ⟨_, rfl, a, d, rfl, h1, ok, _, rfl, b, d, rfl, h2, ok, rfl, ?_⟩
  rw [decide_eq_true rfl]
  exact q
end
abbrev sMost : Stmt := top 37
abbrev sBus : Stmt := top 38
abbrev sPat : Stmt := top 39
/-! ### bounds: most_acts, busiest -/
def mostStep (acc : List Int) (z : Str) : List Int := acc ++ [if z = "collector" then 1 else 1 + acc.sum]
def mostM (zs : List Str) : List Int := zs.foldl mostStep []
theorem mostM_take {zs : List Str} {i : Nat} {z : Str} (e : zs[i]? = some z) : mostM (zs.take (i + 1)) = mostStep (mostM (zs.take i)) z := by
  unfold mostM
  rw [List.take_add_one, e]
  show List.foldl mostStep [] (zs.take i ++ [z]) = _
  rw [List.foldl_append]
  rfl
theorem mostM_len (zs : List Str) : (mostM zs).length = zs.length := by
  unfold mostM
  have : ∀ (l : List Str) (acc : List Int), (l.foldl mostStep acc).length = acc.length + l.length := by
    intro l
    induction l with
    | nil => intro acc; rfl
    | cons a r ih =>
      intro acc
      rw [List.foldl_cons, ih]
      unfold mostStep
      rw [List.length_append, List.length_cons, List.length_cons, List.length_nil]
      omega
  rw [this, List.length_nil, Nat.zero_add]
def ansD : PyData := .tuple [.str "answer", .int 0]
def patD (L : Int) : PyData := .tuple [.str "teller", .tuple (if L = 1 then [ansD] else [.tuple [.str "wait", .int (L - 1)], ansD])]
def progsUp (n : Nat) : List PyData := (List.range n).map fun i => patD ((2 ^ i : Nat) : Int)
def progsD (n : Nat) : List PyData := (progsUp n).reverse
theorem progsUp_succ (n : Nat) : progsUp (n + 1) = progsUp n ++ [patD ((2 ^ n : Nat) : Int)] := by
  unfold progsUp
  rw [List.range_succ, List.map_append]
  rfl
theorem dpAll_app {K : PySem.W.Frag} {H : Hp} : ∀ {xs ys : List V} {ds es : List PyData}, DpAll K H xs ds → DpAll K H ys es → DpAll K H (xs ++ ys) (ds ++ es)
  | _, _, _, _, .nil, h => h
  | _, _, _, _, .cons a t, h => .cons a (dpAll_app t h)
theorem dpAll_rev {K : PySem.W.Frag} {H : Hp} : ∀ {xs : List V} {ds : List PyData}, DpAll K H xs ds → DpAll K H xs.reverse ds.reverse
  | _, _, .nil => .nil
  | _, _, .cons a t => by
    rw [List.reverse_cons, List.reverse_cons]
    exact dpAll_app (dpAll_rev t) (.cons a .nil)
theorem patD_noL (i : Int) : noL (patD i) = true := by
  unfold patD ansD
  split <;> simp [noL, noLAll]
theorem noLAll_app : ∀ {xs ys : List PyData}, noLAll xs = true → noLAll ys = true → noLAll (xs ++ ys) = true
  | [], _, _, h => h
  | x :: r, ys, h, g => by
    simp only [noLAll, Bool.and_eq_true, List.cons_append] at h ⊢
    exact ⟨h.1, noLAll_app h.2 g⟩
theorem progsUp_noL : ∀ n, noLAll (progsUp n) = true
  | 0 => rfl
  | n + 1 => by
    rw [progsUp_succ]
    exact noLAll_app (progsUp_noL n) (by simp [noLAll, patD_noL])
theorem kT_lst {H : Hp} {D : Addr} {xs ys : List V} (e : H D = some (.lst xs)) : ∀ a o, tupO o → H a = some o → (upd H D (.lst ys)) a = some o := fun a o t h => by
  have n : a ≠ D := fun z => by
    rw [z, e] at h
    cases h
    exact t
  rw [upd_ne n]
  exact h
def spMost (K : PySem.W.Frag) : Sp := fun vs H Q _ => ∃ (a : Addr) (zs : List Str), vs = [.ref a] ∧ SqL K H a (zs.map V.str) ∧ zs.length ≤ 1000 ∧ ∀ H' p, Same H H' → H p = none → H' p = some (.lst ((mostM zs).map V.int)) → Q (.ref p) H'
def spPat (K : PySem.W.Frag) : Sp := fun vs H Q _ => ∃ (i : Int), vs = [.int i] ∧ ∀ H' v, Same H H' → Dp K H' v (patD i) → Q v H'
def spBus (K : PySem.W.Frag) : Sp := fun vs H Q _ => ∃ (n : Nat), vs = [.int (n : Nat)] ∧ 1 ≤ n ∧ n ≤ 8 ∧ ∀ H' p xs, Same H H' → H p = none → H' p = some (.lst xs) → DpAll K H' xs (progsD n) → Q (.ref p) H'
def spBusX (K : PySem.W.Frag) (cS : Addr) : Sp := fun vs H Q E => ∃ (v : V) (d : PyData), vs = [v] ∧ Dp K H v d ∧ intIn d 1 8 = false ∧ ∀ H', Same H H' → E (.ref cS) none H'
/-- what the top has written of an error of the house's that is raised -/
structure EkS (K : PySem.W.Frag) (C cH : Addr) : Prop where
  x : PySem.W.excIn K C [.type "ValueError", .type "Exception", .type "BaseException", .type "object"] "ValueError.__new__" = true
  k : PySem.W.keepIn K (.ref C) = true
  b : PySem.W.subIn K (.ref C) (.type "BaseException") = some true
  t : PySem.W.typeIn K (.ref C) = some (.type "type")
  e : PySem.W.exmOne K (.ref C) (.ref cH) = some true
  c : ExcC K C
structure ErS (K : PySem.W.Frag) (mg : Str → Option Value) where
  cS : Addr
  cH : Addr
  gS : mg "BadSteps" = some (.ref cS)
  gH : mg "HouseError" = some (.ref cH)
  S : EkS K cS cH
section
variable {P : Program} {w : World} {K : PySem.W.Frag} {mg : Str → Option Value} {base : Heap}
theorem scMost : FnScope ["kinds", "numbers", "kind"] ["kinds"] (defScope sMost) := ⟨rfl, rfl, rfl, by decide +kernel, rfl, by decide +kernel, by decide +kernel⟩
theorem ok_Most {f : Addr} {fd : FuncData} (F : Fun K "most_acts" "most_acts" sMost f fd) (ms : mg "sum" = none) : FnOk P w K mg base CX0 1 f fd ["kinds"] (spMost K) := by
  refine F.ok scMost (fun vs H Q E h => ?_) (fun cdv A outer s H vs Q E hr h => ?_)
  · obtain ⟨a, zs, rfl, _⟩ := h
    rfl
  obtain ⟨a, zs, rfl, hS, hz, q⟩ := h
  refine ⟨_, (pss_cons (ps_set (i := 1) scMost.nd rfl (.inl rfl) (pe_lst pa_nil))
    (pss_cons (ps_for PassesOwn.never rfl (pi_list (pv 0)) (pg_name (i := 2) scMost.nd rfl (.inl rfl))
      (pss_one (ps_expr (pe_bm PySem.F.plainAttrs_list PySem.F.slot_list_append PySem.F.type_list_append mt_append (pv 1) (pa_cons (pe_ifExp (pt_cmpR op_eq (pv 2) pe_str (nomark _)) pe_int (pe_op op_add pe_int (pe_callB (cr_sum rfl) (by rfl) ms (by decide +kernel) (pa_cons (pv 1) pa_nil)))) pa_nil)))))
    (pss_one (ps_ret (pv 1))))), ?_⟩
  refine ⟨(by show 0 ≤ sizeLine; decide), fun D nD => ?_⟩
  have u1 := same_new nD (.lst [])
  have e1 : (upd H D (.lst [])) D = some (.lst []) := upd_same
  generalize upd H D (.lst []) = H1 at u1 e1 ⊢
  have hnD : a ≠ D ∨ True := .inr trivial
  refine ⟨_, rfl, a, rfl, ⟨_, Same.seq u1 hS⟩, for_it (walk_list (K := K) (a := a) (xs := zs.map V.str)) (fun i σ Hx => ∃ s2 : Option V, σ = [some (.ref a), some (.ref D), s2] ∧ Same H Hx ∧ Hx D = some (.lst ((mostM (zs.take i)).map V.int))) ⟨none, rfl, u1, e1⟩ (fun i σ Hx _ ⟨_, _, sx, _⟩ => Same.seq sx hS) ?_ ?_⟩
  · rintro i x σ Hx H2 hi ⟨s2, rfl, sx, eD⟩ ⟨rfl, hx⟩
    obtain ⟨z, hz1, hz2⟩ : ∃ z, zs[i]? = some z ∧ x = .str z := by
      rw [List.getElem?_map] at hx
      cases e : zs[i]? with
      | none => rw [e] at hx; cases hx
      | some z => rw [e] at hx; cases hx; exact ⟨z, rfl, rfl⟩
    subst hz2
    have hlen : ((mostM (zs.take i)).map V.int).length < sizeLine := by
      rw [List.length_map, mostM_len, List.length_take]
      exact Nat.lt_of_le_of_lt (Nat.le_trans (Nat.min_le_right _ _) hz) (by decide)
    have nx : ∀ r : Int, r = (if z = "collector" then 1 else 1 + (mostM (zs.take i)).sum) → ∃ s2 : Option V, [some (V.ref a), some (V.ref D), some (V.str z)] = [some (.ref a), some (.ref D), s2] ∧ Same H (upd H2 D (.lst ((mostM (zs.take i)).map V.int ++ [.int r]))) ∧ (upd H2 D (.lst ((mostM (zs.take i)).map V.int ++ [.int r]))) D = some (.lst ((mostM (zs.take (i + 1))).map V.int)) := fun r er => by
      refine ⟨_, rfl, fun p o e => ?_, ?_⟩
      · rw [upd_ne (ne_of_none e nD)]
        exact sx p o e
      · rw [upd_same, mostM_take hz1, er]
        unfold mostStep
        rw [List.map_append]
        rfl
    refine ⟨_, rfl, .inl ⟨rfl, _, SqL.of eD⟩, _, rfl, rfl, _, rfl, ?_⟩
    refine ite2 (fun c => ?_) (fun c => ?_)
    · exact ⟨D, _, _, rfl, rfl, eD, hlen, nx 1 (by rw [if_pos (by have := of_decide_eq_true c; injection this)])⟩
    · refine ⟨_, rfl, D, mostM (zs.take i), rfl, SqL.of eD, _, _, rfl, rfl, D, _, _, rfl, rfl, eD, hlen, nx _ ?_⟩
      rw [if_neg (fun e => c (by rw [e]; exact decide_eq_true rfl))]
  · rintro σ Hx ⟨s2, rfl, sx, eD⟩
    rw [List.length_map, List.take_length] at eD
    exact ⟨_, rfl, q Hx D sx nD eD⟩
theorem scPat : FnScope ["length", "answer"] ["length"] (defScope sPat) := ⟨rfl, rfl, rfl, by decide +kernel, rfl, by decide +kernel, by decide +kernel⟩
theorem ok_Pat {f : Addr} {fd : FuncData} (F : Fun K "patient_teller" "patient_teller" sPat f fd) : FnOk P w K mg base CX0 1 f fd ["length"] (spPat K) := by
  refine F.ok scPat (fun vs H Q E h => ?_) (fun cdv A outer s H vs Q E hr h => ?_)
  · obtain ⟨i, rfl, _⟩ := h
    rfl
  obtain ⟨i, rfl, q⟩ := h
  refine ⟨_, (pss_cons (ps_set (i := 1) scPat.nd rfl (.inl rfl) (pe_tup (pa_cons pe_str (pa_cons pe_int pa_nil))))
    (pss_one (ps_ret (pe_tup (pa_cons pe_str (pa_cons (pe_ifExp (pt_cmpR op_eq (pv 0) pe_int (nomark _)) (pe_tup (pa_cons (pv 1) pa_nil)) (pe_tup (pa_cons (pe_tup (pa_cons pe_str (pa_cons (pe_op op_sub (pv 0) pe_int) pa_nil))) (pa_cons (pv 1) pa_nil)))) pa_nil)))))), ?_⟩
  refine ⟨(by show 2 ≤ sizeLine; decide), fun pa npa => ?_⟩
  have u1 := same_new npa (.tup [.str "answer", .int 0])
  have e1 : (upd H pa (.tup [.str "answer", .int 0])) pa = some (.tup [.str "answer", .int 0]) := upd_same
  generalize upd H pa (.tup [.str "answer", .int 0]) = H1 at u1 e1 ⊢
  have da : Dp K H1 (.ref pa) ansD := .tup (SqT.of e1) (.cons (.str _) (.cons (.int _) .nil))
  refine ⟨_, rfl, rfl, _, rfl, ?_⟩
  refine ite2 (fun c => ?_) (fun c => ?_)
  · have hi : i = 1 := by have := of_decide_eq_true c; injection this
    subst hi
    refine ⟨_, rfl, (by show 1 ≤ sizeLine; decide), fun p2 n2 => ⟨(by show 2 ≤ sizeLine; decide), fun p3 n3 => ?_⟩⟩
    have u2 := same_new n2 (.tup [.ref pa])
    have u3 := same_new n3 (.tup [.str "teller", .ref p2])
    exact q _ _ (u1.trans (u2.trans u3)) (.tup (SqT.of upd_same) (.cons (.str _) (.cons (.tup (SqT.of (u3 _ _ upd_same)) (.cons (dp_mono (u2.trans u3) _ _ da) .nil)) .nil)))
  · have hi : ¬ i = 1 := fun e => c (by rw [e]; exact decide_eq_true rfl)
    refine ⟨_, rfl, _, _, rfl, rfl, (by show 2 ≤ sizeLine; decide), fun p0 n0 => ⟨_, rfl, (by show 2 ≤ sizeLine; decide), fun p2 n2 => ⟨(by show 2 ≤ sizeLine; decide), fun p3 n3 => ?_⟩⟩⟩
    have u0 := same_new n0 (.tup [.str "wait", .int (i - 1)])
    have u2 := same_new n2 (.tup [.ref p0, .ref pa])
    have u3 := same_new n3 (.tup [.str "teller", .ref p2])
    refine q _ _ (u1.trans (u0.trans (u2.trans u3))) ?_
    unfold patD
    rw [if_neg hi]
    exact .tup (SqT.of upd_same) (.cons (.str _) (.cons (.tup (SqT.of (u3 _ _ upd_same)) (.cons (.tup (SqT.of (u3 _ _ (u2 _ _ upd_same))) (.cons (.str _) (.cons (.int _) .nil))) (.cons (dp_mono (u0.trans (u2.trans u3)) _ _ da) .nil))) .nil))
theorem scBus : FnScope ["many", "programs", "length", "place"] ["many"] (defScope sBus) := ⟨rfl, rfl, rfl, by decide +kernel, rfl, by decide +kernel, by decide +kernel⟩
theorem ok_Bus {f : Addr} {fd : FuncData} (F : Fun K "busiest" "busiest" sBus f fd) (mr : mg "range" = none) {tk : Tok} (gM : mg "MOST_TELLERS" = some (.int 8 tk)) (CI : Cal P w K mg base 2 "is_integer_from_to" ["thing", "least", "greatest"] (spInt K)) (CP : Cal P w K mg base 1 "patient_teller" ["length"] (spPat K)) : FnOk P w K mg base CX0 3 f fd ["many"] (spBus K) := by
  refine F.ok scBus (fun vs H Q E h => ?_) (fun cdv A outer s H vs Q E hr h => ?_)
  · obtain ⟨n, rfl, _⟩ := h
    rfl
  obtain ⟨n, rfl, n1, n8, q⟩ := h
  have hr1 : Room 1 _ := hr.mono (by decide)
  refine ⟨_, (pss_cons (ps_if (pt_not (pt_val (pe_call CI.G hr rfl CI.m CI.kp CI.b .nil pass0 (pa_cons (pv 0) (pa_cons pe_int (pa_cons (pe_gint rfl gM) pa_nil)))))) (pss_one ps_never) pss_nil)
    (pss_cons (ps_set (i := 1) scBus.nd rfl (.inl rfl) (pe_lst pa_nil))
    (pss_cons (ps_set (i := 2) scBus.nd rfl (.inl rfl) pe_int)
    (pss_cons (ps_for PassesOwn.never rfl (pi_range1 (by rfl) mr (pa_cons (pv 0) pa_nil)) (pg_name (i := 3) scBus.nd rfl (.inl rfl))
      (pss_cons (ps_expr (pe_bm PySem.F.plainAttrs_list PySem.F.slot_list_append PySem.F.type_list_append mt_append (pv 1) (pa_cons (pe_call CP.G hr1 rfl CP.m CP.kp CP.b .nil pass0 (pa_cons (pv 2) pa_nil)) pa_nil)))
      (pss_one (ps_aug (i := 2) scBus.nd rfl (.inl rfl) pe_int iop_mul))))
    (pss_one (ps_ret (pe_revL (pv 1)))))))), ?_⟩
  refine ⟨_, rfl, .int (n : Nat), .int (n : Nat), 1, 8, rfl, .int _, _, rfl, ?_⟩
  have hin : intIn (.int ((n : Nat) : Int)) 1 8 = true := by
    unfold intIn
    rw [Bool.and_eq_true]
    exact ⟨decide_eq_true (by omega), decide_eq_true (by omega)⟩
  rw [hin]
  refine iteF ⟨(by show 0 ≤ sizeLine; decide), fun D nD => ?_⟩
  have u1 := same_new nD (.lst [])
  have e1 : (upd H D (.lst [])) D = some (.lst []) := upd_same
  generalize upd H D (.lst []) = H1 at u1 e1 ⊢
  refine ⟨_, rfl, _, rfl, by omega, by omega, ?_⟩
  refine for_range (lo := 0) (n := n) (fun i σ Hx => ∃ (s3 : Option V) (xs : List V), σ = [some (.int (n : Nat)), some (.ref D), some (.int ((2 ^ i : Nat) : Int)), s3] ∧ Same H Hx ∧ Hx D = some (.lst xs) ∧ xs.length = i ∧ DpAll K Hx xs (progsUp i)) ⟨none, [], rfl, u1, e1, rfl, .nil⟩ ?_ ?_
  · rintro i σ Hx hi ⟨s3, xs, rfl, sx, eD, hl, da⟩
    refine ⟨_, rfl, .inl ⟨rfl, _, SqL.of eD⟩, _, rfl, _, rfl, fun H2 v s2 dv => ?_⟩
    have eD2 := s2 _ _ eD
    have da2 := dpAll_mono s2 _ _ da
    refine ⟨D, _, _, rfl, rfl, eD2, (by show xs.length < _; rw [hl]; exact Nat.lt_of_lt_of_le hi (Nat.le_trans n8 (by decide))), ?_⟩
    refine ⟨_, rfl, _, _, rfl, rfl, .inr (by decide), some (.int (0 + (i : Nat))), xs ++ [v], ?_, fun p o e => ?_, upd_same, by rw [List.length_append, hl]; rfl, ?_⟩
    · rw [show ((2 ^ (i + 1) : Nat) : Int) = ((2 ^ i : Nat) : Int) * 2 from by rw [Nat.pow_succ, Int.natCast_mul]; rfl]
      rfl
    · rw [upd_ne (ne_of_none e nD)]
      exact s2 _ _ (sx p o e)
    · rw [progsUp_succ]
      refine dpAll_kT (kT_lst eD2) _ _ ?_ (dpAll_app da2 (.cons dv .nil))
      rw [← progsUp_succ]
      exact progsUp_noL _
  · rintro σ Hx ⟨s3, xs, rfl, sx, eD, hl, da⟩
    refine ⟨_, rfl, D, xs, rfl, SqL.of eD, fun p np => ?_⟩
    have u2 := same_new np (.lst xs.reverse)
    refine q _ p _ (sx.trans u2) (sx.free np) upd_same ?_
    exact dpAll_mono u2 _ _ (dpAll_rev da)
end
end My

namespace My
open PySem PySem.Spec PyProof.Rows L2
/-! ### o.m(e, ..) with defaults that fill up, o.m(e, .., k = v); within a try or not -/
def tMethTD (C : Addr) (m : Str) (sp : Sp) (dvs : List V) (E : L2.St → XK) (ta : TE) (t : TA) : TE := fun σ H Q => ta σ H fun x H1 => ∃ a dx fs, x = .ref a ∧ H1 a = some (.ins C dx fs) ∧ fs.lookup m = none ∧ t σ H1 fun vs H2 => sp (.ref a :: vs ++ dvs) H2 Q (E σ)
def tMethTK (C : Addr) (m : Str) (n q : Nat) (sp : Sp) (gV : List V → List V → List V) (E : L2.St → XK) (ta : TE) (t tk : TA) : TE := fun σ H Q => ta σ H fun x H1 => ∃ a dx fs, x = .ref a ∧ H1 a = some (.ins C dx fs) ∧ fs.lookup m = none ∧
  t σ H1 fun vs H2 => tk σ H2 fun zs H3 => vs.length = n ∧ zs.length = q ∧ sp (gV (.ref a :: vs) zs) H3 Q (E σ)
section
variable {X : Cx} {CX : CXT} {k n : Nat} {f C : Addr} {fd : FuncData} {ps ks : List Str} {sp : Sp} {E : L2.St → XK} {m : Str} {pos apos : Pos} {e o : Expr} {es : List Expr} {kws : List Keyword} {ta : TE} {t tk : TA} {dvs : List V} {ds : List Value} {g : List Value → List Value → List Value} {gV : List V → List V → List V}
theorem pe_methTD {pl : Sem Bool} (ho : PE X o ta) (cl : Cls X.K C) (mt : Meth X.K C m f) (G : FnOk X.prog X.w X.K X.mg X.base CX k f fd ps sp) (rm : Room k X.A) (bd : Binds X.K fd ps ds) (hd : Vals dvs ds) (xs : ∀ σ, PassesAt CX X σ (E σ)) (pa : PA X (e :: es) t)
    (st : starEach (e :: es) X.env = (false, eval e X.env) :: starEach es X.env := by rfl) (np : (backTo pos (starEach es X.env)).any (·.1) = false := by rfl)
    (ev : eval (.Call (.Attribute o m apos) (e :: es) [] pos) X.env = (do
      let v ← eval o X.env
      standAt apos.atName
      let (g, first) ← holding [v] (getMethod v m pl)
      callWith pos g first (backTo pos (starEach (e :: es) X.env)) (backToKw pos (keywordEach [] X.env))) := by rfl) :
    PE X (.Call (.Attribute o m apos) (e :: es) [] pos) (tMethTD C m sp dvs E ta t) := by
  refine ⟨fun pins s0 τ H0 Q I0 h0 => PySem.W.methodCall_KW (pl := pl) (thn (ho.run pins s0 τ H0 _ I0 h0) fun u s1 ⟨v, H1, I1, rv, a, dx, fs, hv, ha, hl, q1⟩ => ?_) ev⟩
  cases hv
  cases (show u = Value.ref a from rv)
  refine getmeth_ok I1 ha cl mt hl (PySem.W.callWith_K (first := [.ref a]) (h₀ := X.base) I0.ok.mod.kin mt.kp (thn (pa.run pos pins s1 τ H1 _ I1 q1) fun us s2 ⟨vs, H2, I2, rs, q2⟩ => ⟨I2.kIn, ?_⟩) st np)
  exact run_fnSD (us := .ref a :: us) (vs := .ref a :: vs) G rm bd hd (xs τ) I2 (.cons rfl rs) q2
theorem pe_methTK {pl : Sem Bool} (ho : PE X o ta) (cl : Cls X.K C) (mt : Meth X.K C m f) (G : FnOk X.prog X.w X.K X.mg X.base CX k f fd ps sp) (rm : Room k X.A) (bd : KBn X.K fd ps (n + 1) ks g gV) (xs : ∀ σ, PassesAt CX X σ (E σ)) (pa : PA X (e :: es) t) (pk : PK X kws tk)
    (kA : (backToKw pos (keywordEach kws X.env)).all (·.1.isSome) = true := by rfl) (kS : (backToKw pos (keywordEach kws X.env)).filterMap (·.1) = ks := by rfl)
    (sE : starEach (e :: es) X.env = (false, eval e X.env) :: starEach es X.env := by rfl) (sP : ((backTo pos (starEach (e :: es) X.env)).any (·.1) || (backToKw pos (keywordEach kws X.env)).any (·.1.isNone)) = false := by rfl)
    (ev : eval (.Call (.Attribute o m apos) (e :: es) kws pos) X.env = (do
      let v ← eval o X.env
      standAt apos.atName
      let (g, first) ← holding [v] (getMethod v m pl)
      callWith pos g first (backTo pos (starEach (e :: es) X.env)) (backToKw pos (keywordEach kws X.env))) := by rfl) :
    PE X (.Call (.Attribute o m apos) (e :: es) kws pos) (tMethTK C m n ks.length sp gV E ta t tk) := by
  refine ⟨fun pins s0 τ H0 Q I0 h0 => PySem.W.methodCall_KW (pl := pl) (thn (ho.run pins s0 τ H0 _ I0 h0) fun u s1 ⟨v, H1, I1, rv, a, dx, fs, hv, ha, hl, q1⟩ => ?_) ev⟩
  cases hv
  cases (show u = Value.ref a from rv)
  refine getmeth_ok I1 ha cl mt hl (PySem.W.callWith_KW (first := [.ref a]) (h₀ := X.base) I0.ok.mod.kin mt.kp kA (thn (pa.run pos pins s1 τ H1 _ I1 q1) fun us s2 ⟨vs, H2, I2, rs, q2⟩ => ?_) sP sE)
  refine thn (pk.run pos pins s2 τ H2 _ I2 q2) fun ws s3 ⟨zs, H3, I3, rz, l1, l2, q3⟩ => ⟨I3.kIn, ?_⟩
  rw [kS]
  have r1 : Vals (V.ref a :: vs) (Value.ref a :: us) := .cons rfl rs
  refine wpAny_call (codeAny_mono (G.run X.A X.stack s3 H3 ⟨.ref a :: us, ks.zip ws⟩ (g (.ref a :: us) ws) (gV (.ref a :: vs) zs) Q (E τ) rm I3.env0 (bd.to s3 (.ref a :: us) ws I3.kIn (by rw [← r1.length]; exact congrArg (· + 1) l1) (rz.length.symm.trans l2)) (bd.rel r1 rz) q3) fun out s4 hq => ?_)
  match out, hq with
  | .error er, hq => exact xs τ pins H3 s3 er s4 I3 hq
  | .ok (.ret u), hq => exact I3.after hq
  | .ok .next, hq => exact False.elim hq
  | .ok .brk, hq => exact False.elim hq
  | .ok .cont, hq => exact False.elim hq
end
abbrev sEmp : Stmt := top 73
abbrev cHo : Stmt := top 79
/-! ### a new house -/
structure HoN (K : PySem.W.Frag) (C : Addr) : Prop where
  cl : Cls K C
  sd : NoAttr K C "standing"
  de : NoAttr K C "deeds"
  pa : NoAttr K C "past"
  bu : NoAttr K C "busy"
inductive PastR (K : PySem.W.Frag) (F : Hp) (c : HCl) : List V → List StM → Prop
  | nil : PastR K F c [] []
  | cons {a : Addr} {S : StM} {us : List V} {ps : List StM} : StnR K F c a S → PastR K F c us ps → PastR K F c (.ref a :: us) (S :: ps)
theorem PastR.same {K : PySem.W.Frag} {F F' : Hp} {c : HCl} (s : Same F F') : ∀ {us : List V} {ps : List StM}, PastR K F c us ps → PastR K F' c us ps
  | _, _, .nil => .nil
  | _, _, .cons h t => .cons (h.same s) (t.same s)
def hoF (st de pa : Addr) (bz : Bool) : List (Str × V) := [("standing", .ref st), ("deeds", .ref de), ("past", .ref pa), ("busy", .bl bz)]
/-- the house at hs: it stands as S, its deeds ds, how it stood before them ps -/
structure HouR (K : PySem.W.Frag) (F H : Hp) (c : HCl) (hs : Addr) (de pa : Addr) (S : StM) (ds : List PyData) (ps : List StM) (bz : Bool) : Prop where
  o : ∃ dx st, H hs = some (.ins c.ho dx (hoF st de pa bz)) ∧ StnR K F c st S
  d : ∃ vs, H de = some (.lst vs) ∧ DpAll K F vs ds
  p : ∃ us, H pa = some (.lst us) ∧ PastR K F c us ps
  f1 : F hs = none
  f2 : F de = none
  f3 : F pa = none
  n : de ≠ pa
def spEmp (K : PySem.W.Frag) (c : HCl) : Sp := fun vs H Q _ => ∃ (F : Hp), vs = [] ∧ Fz F H ∧ ∀ F' H' a, Adv [] F H F' H' → StnR K F' c a emptyM → Q (.ref a) H'
def spHoI (K : PySem.W.Frag) (c : HCl) : Sp := fun vs H Q _ => ∃ (x dx : Addr) (F : Hp), vs = [.ref x] ∧ H x = some (.ins c.ho dx []) ∧ Fz F H ∧ F x = none ∧ ∀ F' H' de pa, Adv [x] F H F' H' → HouR K F' H' c x de pa emptyM [] [] false → H de = none → H pa = none → Q .non H'
section
variable {P : Program} {w : World} {K : PySem.W.Frag} {mg : Str → Option Value} {base : Heap} {c : HCl}
theorem put_l (t : Addr) : putK [] (Sum.inr "left" : Key) (V.ref t) = [((Sum.inr "left" : Key), V.ref t)] := rfl
theorem put_r (t1 t2 : Addr) : putK [((Sum.inr "left" : Key), V.ref t1)] (Sum.inr "right" : Key) (V.ref t2) = setsD t1 t2 := by
  have ls : ¬ ("left" : Str) = ("right" : Str) := by decide +kernel
  simp [putK, setsD, ls]
def dcR (H Hx : Hp) (D : Addr) (i : Nat) : Prop := Same H Hx ∧
  ((i = 0 ∧ Hx D = some (.dK [])) ∨ (i = 1 ∧ ∃ t, H t = none ∧ t ≠ D ∧ Hx t = some (.tup []) ∧ Hx D = some (.dK [(Sum.inr "left", .ref t)])) ∨ (i = 2 ∧ ∃ t1 t2, Hx t1 = some (.tup []) ∧ Hx t2 = some (.tup []) ∧ H t1 = none ∧ H t2 = none ∧ Hx D = some (.dK (setsD t1 t2))))
theorem scEmp : FnScope ["side"] [] (defScope sEmp) := ⟨rfl, rfl, rfl, by decide +kernel, rfl, by decide +kernel, by decide +kernel⟩
theorem ok_Emp {f : Addr} {fd : FuncData} (F : Fun K "empty_standing" "empty_standing" sEmp f fd) (C : Kl P w K mg base c.st "Standing" nSn) (O : OsT K w mg) : FnOk P w K mg base CX0 3 f fd [] (spEmp K c) := by
  refine F.ok scEmp (fun vs H Q E h => ?_) (fun cdv A outer s H vs Q E hr h => ?_)
  · obtain ⟨F, rfl, _⟩ := h
    rfl
  obtain ⟨F, rfl, z, q⟩ := h
  refine ⟨_, (pss_one (ps_ret (pe_make C.M C.G hr rfl C.g C.b .nil pass0 (pa_cons pe_int (pa_cons (pe_dc (own := [("side", 0)]) (g := gName 0) (tt := tYes) rfl scEmp.nd (pi_keysW (pe_gref rfl O.m)) (blkOk_by (N := ["side"]) (sc := defScope sEmp) (by decide +kernel)) (fun _ _ _ _ _ => pg_name (i := 0) scEmp.nd rfl (.inl rfl)) (fun _ _ _ _ _ => pts_nil) (fun _ _ _ _ _ => pv 0) (fun _ _ _ _ _ => pe_tup pa_nil)) (pa_cons (pe_tup pa_nil) (pa_cons pe_int (pa_cons (pe_un un_neg pe_int) pa_nil)))))))), ?_⟩
  refine ⟨O.a, _, rfl, O.t, by decide +kernel, fun D nD => dc_it walk_keysW (fun i Hx => dcR H Hx D i) ⟨same_new nD _, .inl ⟨rfl, upd_same⟩⟩ (fun _ _ _ _ => trivial) ?_ ?_⟩
  · rintro i x Hx Hy hi ⟨sx, h⟩ ⟨rfl, y, hy, rfl⟩
    refine ⟨rfl, ?_⟩
    refine (show _ from ⟨_, rfl, (by show 0 ≤ sizeLine; decide), fun t nt => ?_⟩)
    have ut := same_new nt (.tup [])
    rcases h with ⟨rfl, eD⟩ | ⟨rfl, t1, n1, ne1, e1, eD⟩ | ⟨rfl, _⟩
    · obtain rfl : y = "left" := by cases hy; rfl
      have tD : t ≠ D := fun e => by rw [e, eD] at nt; cases nt
      refine ⟨_, Sum.inr "left", rfl, ut _ _ eD, by decide, fun p o e => ?_, .inr (.inl ⟨rfl, t, sx.free nt, tD, ?_, ?_⟩)⟩
      · rw [upd_ne (ne_of_none e nD)]
        exact ut _ _ (sx _ _ e)
      · rw [upd_ne tD]
        exact upd_same
      · rw [upd_same]
        exact congrArg (fun l => some (HO.dK l)) (put_l t)
    · obtain rfl : y = "right" := by cases hy; rfl
      have tD : t ≠ D := fun e => by rw [e, eD] at nt; cases nt
      refine ⟨_, Sum.inr "right", rfl, ut _ _ eD, (by show 1 < sizeLine; decide), fun p o e => ?_, .inr (.inr ⟨rfl, t1, t, ?_, ?_, n1, sx.free nt, ?_⟩)⟩
      · rw [upd_ne (ne_of_none e nD)]
        exact ut _ _ (sx _ _ e)
      · rw [upd_ne ne1]
        exact ut _ _ e1
      · rw [upd_ne tD]
        exact upd_same
      · rw [upd_same]
        exact congrArg (fun l => some (HO.dK l)) (put_r t1 t)
    · exact absurd hi (by decide)
  · rintro Hx ⟨sx, h⟩
    rcases h with ⟨e, _⟩ | ⟨e, _⟩ | ⟨_, t1, t2, e1, e2, n1, n2, eD⟩
    · cases e
    · cases e
    have A1 := Adv.of z sx
    have f1 : (extF F H Hx) t1 = some (.tup []) := by rw [extF_new n1]; exact e1
    have f2 : (extF F H Hx) t2 = some (.tup []) := by rw [extF_new n2]; exact e2
    have fD : (extF F H Hx) D = some (.dK (setsD t1 t2)) := by rw [extF_new nD]; exact eD
    generalize extF F H Hx = F1 at A1 f1 f2 fD
    refine ⟨(by show 0 ≤ sizeLine; decide), fun tm ntm => ?_⟩
    have A2 := A1.trans (Adv.new A1.fz ntm (.tup []))
    have s2 := (Adv.new A1.fz ntm (.tup [])).same A1.fz
    have f3 : (upd F1 tm (.tup [])) tm = some (.tup []) := upd_same
    generalize upd F1 tm (.tup []) = F2 at A2 s2 f3
    generalize upd Hx tm (.tup []) = H2 at A2 ⊢
    refine ⟨_, rfl, ?_⟩
    refine mk_new A2.fz (ns := nSn) (as := [.int 0, .ref D, .ref tm, .int 0, .int (-1)]) rfl fun o dx' H3 A3 no => q _ _ o (A2.trans A3) ?_
    have s3 := A3.same A2.fz
    exact ⟨dx', D, t1, t2, tm, [], upd_same, s3 _ _ (s2 _ _ fD), s3 _ _ (s2 _ _ f1), s3 _ _ (s2 _ _ f2), s3 _ _ f3, .nil⟩
abbrev sHoI : Stmt := inClass cHo 0
theorem scHoI : FnScope ["self"] ["self"] (defScope sHoI) := ⟨rfl, rfl, rfl, by decide +kernel, rfl, by decide +kernel, by decide +kernel⟩
theorem ok_HoI {f : Addr} {fd : FuncData} (F : Fun K "__init__" "House.__init__" sHoI f fd) (N : HoN K c.ho) (CE : Cal P w K mg base 3 "empty_standing" [] (spEmp K c)) : FnOk P w K mg base CX0 4 f fd ["self"] (spHoI K c) := by
  refine F.ok scHoI (fun vs H Q E h => ?_) (fun cdv A outer s H vs Q E hr h => ?_)
  · obtain ⟨x, dx, F, rfl, _⟩ := h
    rfl
  obtain ⟨x, dx, F, rfl, hx, z, fx, q⟩ := h
  refine ⟨_, (pss_cons (ps_fld (pv 0) (pe_call0 CE.G hr rfl CE.m CE.kp CE.b .nil pass0) rfl)
    (pss_cons (ps_fld (pv 0) (pe_lst pa_nil) rfl)
    (pss_cons (ps_fld (pv 0) (pe_lst pa_nil) rfl)
    (pss_one (ps_fld (pv 0) pe_bl rfl))))), ?_⟩
  refine ⟨F, rfl, z, fun F1 H1 st A1 hS => ?_⟩
  have h1 := A1.sm _ _ hx
  have f1 := A1.off (some_ne hx) fx
  refine ⟨_, rfl, x, c.ho, dx, _, rfl, h1, N.cl, N.sd, (by show 0 < 1000; decide), ?_⟩
  have B1 : Adv [x] F H F1 (upd H1 x (.ins c.ho dx [("standing", .ref st)])) := A1.any.trans (Adv.write A1.fz (by simp) f1 trivial)
  have e1 : (upd H1 x (.ins c.ho dx [("standing", .ref st)])) x = some (.ins c.ho dx [("standing", .ref st)]) := upd_same
  change tSeq _ _ _ _ (upd H1 x (.ins c.ho dx [("standing", .ref st)]))
  generalize upd H1 x (.ins c.ho dx [("standing", .ref st)]) = H2 at B1 e1 ⊢
  refine ⟨(by show 0 ≤ sizeLine; decide), fun de nde => ?_⟩
  have fde := B1.fz.out nde
  have B2 := B1.trans (Adv.put B1.fz nde (o := .lst []) trivial)
  have u2 := same_new nde (.lst [])
  have e2 := u2 _ _ e1
  have d2 : (upd H2 de (.lst [])) de = some (.lst []) := upd_same
  have xde : x ≠ de := ne_of_none e1 nde
  generalize upd H2 de (.lst []) = H3 at B2 e2 d2 ⊢
  refine ⟨_, rfl, x, c.ho, dx, _, rfl, e2, N.cl, N.de, (by show 1 < 1000; decide), ?_⟩
  have B3 : Adv [x] F H F1 (upd H3 x (.ins c.ho dx [("standing", .ref st), ("deeds", .ref de)])) := B2.trans (Adv.write B2.fz (by simp) f1 trivial)
  have e3 : (upd H3 x (.ins c.ho dx [("standing", .ref st), ("deeds", .ref de)])) x = some (.ins c.ho dx [("standing", .ref st), ("deeds", .ref de)]) := upd_same
  have d3 : (upd H3 x (.ins c.ho dx [("standing", .ref st), ("deeds", .ref de)])) de = some (.lst []) := by rw [upd_ne xde.symm]; exact d2
  change tSeq _ _ _ _ (upd H3 x (.ins c.ho dx [("standing", .ref st), ("deeds", .ref de)]))
  generalize upd H3 x (.ins c.ho dx [("standing", .ref st), ("deeds", .ref de)]) = H4 at B3 e3 d3 ⊢
  refine ⟨(by show 0 ≤ sizeLine; decide), fun pa npa => ?_⟩
  have fpa := B3.fz.out npa
  have B4 := B3.trans (Adv.put B3.fz npa (o := .lst []) trivial)
  have u4 := same_new npa (.lst [])
  have e4 := u4 _ _ e3
  have d4 := u4 _ _ d3
  have p4 : (upd H4 pa (.lst [])) pa = some (.lst []) := upd_same
  have xpa : x ≠ pa := ne_of_none e3 npa
  have dpa : de ≠ pa := ne_of_none d3 npa
  generalize upd H4 pa (.lst []) = H5 at B4 e4 d4 p4 ⊢
  refine ⟨_, rfl, x, c.ho, dx, _, rfl, e4, N.cl, N.pa, (by show 2 < 1000; decide), ?_⟩
  have B5 : Adv [x] F H F1 (upd H5 x (.ins c.ho dx [("standing", .ref st), ("deeds", .ref de), ("past", .ref pa)])) := B4.trans (Adv.write B4.fz (by simp) f1 trivial)
  have e5 : (upd H5 x (.ins c.ho dx [("standing", .ref st), ("deeds", .ref de), ("past", .ref pa)])) x = some (.ins c.ho dx [("standing", .ref st), ("deeds", .ref de), ("past", .ref pa)]) := upd_same
  have d5 : (upd H5 x (.ins c.ho dx [("standing", .ref st), ("deeds", .ref de), ("past", .ref pa)])) de = some (.lst []) := by rw [upd_ne xde.symm]; exact d4
  have p5 : (upd H5 x (.ins c.ho dx [("standing", .ref st), ("deeds", .ref de), ("past", .ref pa)])) pa = some (.lst []) := by rw [upd_ne xpa.symm]; exact p4
  change tSeq _ _ _ _ (upd H5 x (.ins c.ho dx [("standing", .ref st), ("deeds", .ref de), ("past", .ref pa)]))
  generalize upd H5 x (.ins c.ho dx [("standing", .ref st), ("deeds", .ref de), ("past", .ref pa)]) = H6 at B5 e5 d5 p5 ⊢
  refine ⟨_, rfl, x, c.ho, dx, _, rfl, e5, N.cl, N.bu, (by show 3 < 1000; decide), ?_⟩
  refine q F1 _ de pa (B5.trans (Adv.write B5.fz (by simp) f1 trivial)) ⟨⟨dx, st, upd_same, hS⟩, ⟨[], ?_, .nil⟩, ⟨[], ?_, .nil⟩, f1, fde, fpa, dpa⟩ (B1.free nde) (B3.free npa)
  · rw [upd_ne xde.symm]
    exact d5
  · rw [upd_ne xpa.symm]
    exact p5
/-! #### what may be asked of it: the clock, the history -/
abbrev sHoC : Stmt := inClass cHo 11
abbrev sHoH : Stmt := inClass cHo 20
abbrev sHoA : Stmt := inClass cHo 6
def spHoC (K : PySem.W.Frag) (c : HCl) : Sp := fun vs H Q _ => ∃ (hs de pa : Addr) (F : Hp) (S : StM) (ds : List PyData) (ps : List StM) (bz : Bool), vs = [.ref hs] ∧ Same F H ∧ HouR K F H c hs de pa S ds ps bz ∧ Q (.int S.now) H
def spHoH (K : PySem.W.Frag) (c : HCl) : Sp := fun vs H Q _ => ∃ (hs de pa : Addr) (F : Hp) (S : StM) (ds : List PyData) (ps : List StM) (bz : Bool), vs = [.ref hs] ∧ HouR K F H c hs de pa S ds ps bz ∧ ∀ p xs, H p = none → DpAll K F xs ds → Q (.ref p) (upd H p (.lst xs))
def mostSteps : Int := 1000000000000000000000000000000000000000000000000000000000000
def spHoAX (K : PySem.W.Frag) (cS : Addr) : Sp := fun vs H Q E => ∃ (h v wv : V) (d : PyData), vs = [h, v, wv] ∧ Dp K H v d ∧ intIn d 0 mostSteps = false ∧ ∀ H', Same H H' → E (.ref cS) none H'
theorem scHoC : FnScope ["self"] ["self"] (defScope sHoC) := ⟨rfl, rfl, rfl, by decide +kernel, rfl, by decide +kernel, by decide +kernel⟩
theorem ok_HoC {f : Addr} {fd : FuncData} (F : Fun K "clock" "House.clock" sHoC f fd) (N : HoN K c.ho) (NS : SnN K c.st) : FnOk P w K mg base CX0 1 f fd ["self"] (spHoC K c) := by
  refine F.ok scHoC (fun vs H Q E h => ?_) (fun cdv A outer s H vs Q E hr h => ?_)
  · obtain ⟨hs, de, pa, F, S, ds, ps, bz, rfl, _⟩ := h
    rfl
  obtain ⟨hs, de, pa, F, S, ds, ps, bz, rfl, z, ⟨⟨dx, st, ho, hS⟩, _⟩, q⟩ := h
  obtain ⟨dx', ad, tl, tr, tm, vs, h1, _⟩ := hS
  refine ⟨_, (pss_one (ps_ret (pe_fld (pe_fld (pv 0) rfl) rfl))), ?_⟩
  exact ⟨_, rfl, hs, _, dx, _, _, rfl, ho, N.cl, N.sd, rfl, st, _, dx', _, _, rfl, z _ _ h1, NS.cl, NS.nw, rfl, q⟩
theorem scHoH : FnScope ["self"] ["self"] (defScope sHoH) := ⟨rfl, rfl, rfl, by decide +kernel, rfl, by decide +kernel, by decide +kernel⟩
theorem ok_HoH {f : Addr} {fd : FuncData} (F : Fun K "history" "House.history" sHoH f fd) (N : HoN K c.ho) (ml : mg "list" = none) : FnOk P w K mg base CX0 1 f fd ["self"] (spHoH K c) := by
  refine F.ok scHoH (fun vs H Q E h => ?_) (fun cdv A outer s H vs Q E hr h => ?_)
  · obtain ⟨hs, de, pa, F, S, ds, ps, bz, rfl, _⟩ := h
    rfl
  obtain ⟨hs, de, pa, F, S, ds, ps, bz, rfl, ⟨⟨dx, st, ho, hS⟩, ⟨xs, ed, dd⟩, _⟩, q⟩ := h
  refine ⟨_, (pss_one (ps_ret (pe_callTy call_list_of (by rfl) ml (by decide +kernel) (pa_cons (pe_fld (pv 0) rfl) pa_nil)))), ?_⟩
  exact ⟨_, rfl, hs, _, dx, _, _, rfl, ho, N.cl, N.de, rfl, de, xs, rfl, .inl (SqL.of ed), fun p np => q p xs np dd⟩
abbrev psAdv : List Str := ["self", "many", "watch"]
theorem scHoA : FnScope psAdv psAdv (defScope sHoA) := ⟨rfl, rfl, rfl, by decide +kernel, rfl, by decide +kernel, by decide +kernel⟩
theorem adv_b2 {f : Addr} {fd : FuncData} (F : FunD K "advance" "House.advance" (defArgs sHoA) (defBody sHoA) (defScope sHoA) [V.int 1] [("watch", V.non)] f fd) : ∃ ds, Vals [V.non] ds ∧ Binds K fd psAdv ds :=
  F.binds (ps := psAdv) 2 1 (by simp) rfl (fun T D doc pm an cdv ct us its ks h1 h2 h3 => match us, its, ks, h1, h2, h3 with | [_, _], [_], [_], _, _, _ => ⟨_, rfl, ⟨_, _, _, _, _, _, rfl, rfl, rfl⟩⟩) (by simp)
theorem adv_k2 {f : Addr} {fd : FuncData} (F : FunD K "advance" "House.advance" (defArgs sHoA) (defBody sHoA) (defScope sHoA) [V.int 1] [("watch", V.non)] f fd) : ∃ g, KBn K fd psAdv 2 ["watch"] g (fun vs zs => vs ++ zs) := by
  obtain ⟨its, mv, h⟩ := F.kbinds (ps := psAdv) 2 ["watch"] [] (fun us its mv ws => us ++ ws) (by simp) (by simp) (fun q m => nomatch m) (fun r1 r2 r3 r4 => r1.append r4)
    (fun T D doc pm an cdv ct us its mv ws h1 h2 h3 h4 => match us, its, mv, ws, h1, h2, h3, h4 with | [_, _], [_], [], [_], _, _, _, _ => ⟨_, rfl, rfl⟩)
  exact ⟨_, h⟩
end
end My

namespace My
open PySem L2 PySem.Spec PyProof.Rows
/-- isinstance(e, c), e the error that the suite holds, whatever its class -/
theorem call_isG {X : Cx} {a : Addr} {cls : Value} {d : Option Addr} {oe : Obj} {pn : List (Addr × Obj)} (hz : Zc cls d oe) (hf : ∃ vs, oe.data = .fields vs) :
    CallR (X.suite a ((a, oe) :: pn)) (.builtin "isinstance") (fun xs H Q => ∃ D, cls = .ref D ∧ d = none ∧ ExcC X.K D ∧ rIsE X.K D a xs H Q) := by
  intro pins s σ H xs us Q I r h
  obtain ⟨D, rfl, rfl, C, h⟩ := h
  exact call_isE C hz hf pins s σ H xs us Q I r h
end My

namespace My
open PySem PySem.Spec PyProof.Rows L2 HotX
/-! ### any(a list) in an except suite: the end of the walk raises while an exception is handled -/
section
variable {prog : Program} {w : World} {A : Around} {E : Value → Shared → Prop} {s : Shared}
theorem list_end_hot {it l x1 : Addr} {i : Nat} {items : Array Value} {Q : Option Value → Shared → Prop} (hot : HotAt A x1 s.heap) (ne : it ≠ x1) (hit : s.heap.IsListIter it l i) (hl : s.heap.IsList l items) (hx : items[i]? = none)
    (hQ : ∀ h', (∀ b o, b ≠ it → s.heap.get? b = some o → h'.get? b = some o) → Q none { s with heap := h' }) : wpAny (model prog w) A (pyNext (.ref it)) Q E s := by
  obtain ⟨o, ho, hc, hd⟩ := id hit
  obtain ⟨ol, hol, _, nl, hdl⟩ := hl
  obtain ⟨hh, o1, vs1, h1, d1, c1⟩ := hot
  unfold pyNext
  refine wpAny_bind (wpAny_attempt (wpAny_callSpecial?_slot (name := Str.ofString "__next__") hit.typeIs PySem.slot_listiter_next
    (wpAny_call_entry PySem.slot_listiter_next hit.typeIs PySem.entry_listiter_next ?_ (PySem.args_listiter_next _))))
  show wpAny _ _ (field (.ref it) 0 >>= _) _ _ s
  refine wpAny_bind (wpAny_field ho hd (x := .ref l) rfl ?_)
  show wpAny _ _ (if (Value.ref l == Value.none) = true then _ else _) _ _ s
  rw [if_neg (show ¬ ((Value.ref l == Value.none) = true) from Bool.false_ne_true)]
  show wpAny _ _ (field (.ref it) 1 >>= _) _ _ s
  refine wpAny_bind (wpAny_field ho hd (x := .int i 0) rfl ?_)
  show wpAny _ _ (seqItems? (.ref l) >>= _) _ _ s
  refine wpAny_bind (wpAny_seqItems hol hdl ?_)
  simp only [Int.toNat_natCast, hx]
  refine wpAny_bind (wpAny_rule (wpAny_bind (wpAny_setField ho hd (by simp) ?_)))
  show wpAny _ _ (newExc (.type "StopIteration") [] >>= _) _ _ _
  refine wpAny_bind ?_
  simp only [newExc, newTuple]
  refine wpAny_bind (wpAny_newObj_type ?_ (by size_fits))
  refine wpAny_bind (m := firstArgMember _ _) (wpAny_of_eq (a := Value.none) (by first | rfl | (simp only [firstArgMember]; rfl)) ?_)
  refine wpAny_newObj_type ?_ (by size_fits)
  have keep : ∀ b u, b ≠ it → s.heap.get? b = some u → (s.heap.update it (Obj.mapFields (·.setIfInBounds 0 Value.none))).get? b = some u := fun b u n e => by
    rw [Heap.get?_update_other _ _ (Ne.symm n)]
    exact e
  have k1 := Heap.get?_push_of_some { cls := .type "StopIteration", dict := none, data := .fields #[] } (keep x1 _ (Ne.symm ne) h1)
  refine raiseNew_hot ⟨hh, o1, vs1, Heap.get?_push_of_some _ (Heap.get?_push_of_some _ (keep x1 _ (Ne.symm ne) h1)), d1, c1⟩ (Nat.ne_of_lt (Heap.lt_size (Heap.get?_push_of_some _ (keep x1 _ (Ne.symm ne) h1)))) (Heap.get?_push_size _ rfl) rfl (by first | (simp; done) | (simp; omega) | (simp only [Array.size_append]; simp; omega)) ?_
  refine wpAny_bind (wpAny_isInstance (T := "StopIteration") (b := true) ⟨_, Heap.get?_update_self _ (Heap.get?_push_size _ rfl) rfl, rfl⟩ isSubtype_stop ?_)
  refine wpAny_pure (hQ _ fun b o n e => ?_)
  rw [Heap.get?_update_other _ _ (Nat.ne_of_gt (Heap.lt_size (Heap.get?_push_of_some _ (keep b _ n e))))]
  exact Heap.get?_push_of_some _ (Heap.get?_push_of_some _ (keep b _ n e))
end
theorem walks_hot {prog : Program} {w : World} {A : Around} {x1 : Addr} {o1 : Obj} {vs1 : Array Value} (hh : A.handled = some (.ref x1)) (d1 : o1.data = .fields vs1) (c1 : vs1[2]? = some .none) (I ax : Addr) (hne : ax ≠ I) (hn1 : I ≠ x1) (items : Array Value) :
    Walks prog w A I [I, ax, x1] [I] items.size (fun i v => items[i]? = some v) (fun i h => h.IsListIter I ax i ∧ h.IsList ax items ∧ h.get? x1 = some o1) where
  sub := fun b hb => by simp at hb; simp [hb]
  frame := fun _ _ _ st hk => ⟨st.1.at fun o e => hk I (by simp) o e, st.2.1.at fun o e => hk ax (by simp) o e, hk x1 (by simp) _ st.2.2⟩
  item := fun i s Q E hi st hQ => by
    refine wpAny_pyNext_list_item st.1 st.2.1 (x := items[i]) (by simp [hi]) fun h' hit' hs' => ?_
    exact hQ _ h' s.toks (by simp [hi]) ⟨hit', st.2.1.extBut hs'.extBut hne, hs'.extBut x1 _ (Ne.symm hn1) st.2.2⟩ fun b o hb e => hs'.extBut b o (fun h => hb (by simp [h])) e
  done := fun s Q E st hQ => list_end_hot ⟨hh, o1, vs1, st.2.2, d1, c1⟩ hn1 st.1 st.2.1 (by simp) fun h' he' => hQ h' s.toks fun b o hb e => he' b o (fun h => hb (by simp [h])) e
  self := fun _ _ _ _ st hQ => wpAny_pyIter_listiter st.1 hQ
theorem call_anyHot {X : Cx} {a : Addr} {cls : Value} {d : Option Addr} {oe : Obj} {pn : List (Addr × Obj)} (hz : L2N.Zn cls d oe) (hf : ∃ vs, oe.data = .fields vs) : CallR (X.suite a ((a, oe) :: pn)) (.builtin "any") (rAny X.K) := by
  intro pins s σ H vs us Q I r h
  obtain ⟨l, bs, rfl, hs, q⟩ := h
  obtain ⟨its, rv, hl, _⟩ := I.list hs
  obtain ⟨vs, hv⟩ := hf
  obtain ⟨hget, hn, _⟩ := I.pin (a, oe) (List.mem_append.mpr (.inl List.mem_cons_self))
  rw [Vals.ref1 r]
  have hb := rv.bls
  have lt : a < s.heap.objs.size := Heap.lt_size hget
  refine call_any_walk (iter_any hl.isList fun s₂ e2 st hne => ?_)
  subst e2
  refine ⟨_, _, _, _, _, _, _, rfl, walks_hot (x1 := a) rfl hv (hz.2.2 vs hv) _ l hne (Nat.ne_of_gt lt) its.toArray, ⟨st.1, st.2, Heap.get?_push_of_some _ hget⟩, truth_bools hb, fun h' tk hk => ?_⟩
  refine ⟨.bl _, H, I.kept fun b o eo => hk b o (fun hmem => ?_) (Heap.get?_push_of_some _ eo), ?_, q⟩
  · rcases List.mem_cons.mp hmem with e1 | hmem
    · exact absurd (e1 ▸ Heap.lt_size eo) (Nat.lt_irrefl _)
    · cases hmem
  · show Value.bool _ = Value.bool _
    rw [← L2.any_range, hb, List.size_toArray, List.length_map]
/-- a def without defaults as one that might have them -/
theorem funD_of {K : PySem.W.Frag} {x qual : Str} {st : Stmt} {f : Addr} {fd : FuncData} (F : Fun K x qual st f fd) : FunD K x qual (defArgs st) (defBody st) (defScope st) [] [] f fd := by
  obtain ⟨oc, od, kV, doc, pm, an, cdv, ct, osl, e1, e2, e3⟩ := F.ex
  exact ⟨⟨oc, od, .none, kV, doc, pm, an, cdv, ct, osl, e1, e2, e3, .inl ⟨rfl, rfl⟩, .inl rfl⟩, F.kp⟩
/-! ### busiest and advance that raise, where nothing is handled -/
section
variable {P : Program} {w : World} {K : PySem.W.Frag} {mg : Str → Option Value} {base : Heap} {c : HCl}
theorem ok_BusX {f : Addr} {fd : FuncData} (F : Fun K "busiest" "busiest" sBus f fd) (R : ErS K mg) {tk : Tok} (gM : mg "MOST_TELLERS" = some (.int 8 tk)) (CI : Cal P w K mg base 2 "is_integer_from_to" ["thing", "least", "greatest"] (spInt K)) : FnOk P w K mg base (L2N.CX P w) 3 f fd ["many"] (spBusX K R.cS) := by
  refine (funD_of F).ok scBus (fun vs H Q E h => ?_) (fun cdv A outer s H vs Q E hr h => ?_)
  · obtain ⟨v, d, rfl, _⟩ := h
    rfl
  obtain ⟨v, d, rfl, hd, hf, q⟩ := h
  refine ⟨_, (pss_cons (ps_if (pt_not (pt_val (pe_call CI.G hr rfl CI.m CI.kp CI.b .nil pass0 (pa_cons (pv 0) (pa_cons pe_int (pa_cons (pe_gint rfl gM) pa_nil)))))) (pss_one (L2N.ps_raise rfl (L2N.takes_of rfl rfl rfl rfl) (L2N.pmk_own PySem.F.excBase_ValueError R.S.x R.gS R.S.k (raises_own R.S.b R.S.t) rfl))) pss_nil)
    (pss_cons ps_never (pss_cons ps_never (pss_cons ps_never (pss_one ps_never))))), ?_⟩
  refine ⟨_, rfl, v, d, 1, 8, rfl, hd, _, rfl, ?_⟩
  rw [hf]
  exact iteT (q _ (Same.refl _))
theorem ok_HoAX {f : Addr} {fd : FuncData} {dvs : List V} {kws : List (Str × V)} (F : FunD K "advance" "House.advance" (defArgs sHoA) (defBody sHoA) (defScope sHoA) dvs kws f fd) (R : ErS K mg) {tk : Tok} (gM : mg "MOST_STEPS" = some (.int mostSteps tk)) (CI : Cal P w K mg base 2 "is_integer_from_to" ["thing", "least", "greatest"] (spInt K)) :
    FnOk P w K mg base (L2N.CX P w) 3 f fd psAdv (spHoAX K R.cS) := by
  refine F.ok scHoA (fun vs H Q E h => ?_) (fun cdv A outer s H vs Q E hr h => ?_)
  · obtain ⟨h, v, wv, d, rfl, _⟩ := h
    rfl
  obtain ⟨h, v, wv, d, rfl, hd, hf, q⟩ := h
  refine ⟨_, (pss_cons (ps_if (pt_not (pt_val (pe_call CI.G hr rfl CI.m CI.kp CI.b .nil pass0 (pa_cons (pv 1) (pa_cons pe_int (pa_cons (pe_gint rfl gM) pa_nil)))))) (pss_one (L2N.ps_raise rfl (L2N.takes_of rfl rfl rfl rfl) (L2N.pmk_own PySem.F.excBase_ValueError R.S.x R.gS R.S.k (raises_own R.S.b R.S.t) rfl))) pss_nil)
    (pss_cons ps_never (pss_one ps_never))), ?_⟩
  refine ⟨_, rfl, v, d, 0, mostSteps, rfl, hd, _, rfl, ?_⟩
  rw [hf]
  exact iteT (q _ (Same.refl _))
end
end My

namespace My
open PySem L2 PySem.Spec PyProof.Rows
abbrev sRf : Stmt := top 84
structure Er47 (K : PySem.W.Frag) (mg : Str → Option Value) extends ErS K mg where
  cP : Addr
  cB : Addr
  gP : mg "BadProgram" = some (.ref cP)
  gB : mg "BadSide" = some (.ref cB)
  mV : mg "ValueError" = none
  kP : PySem.W.kitOne K (.ref cS) (.ref cP) = some false
  kB : PySem.W.kitOne K (.ref cS) (.ref cB) = some false
  kV : PySem.W.kitOne K (.ref cS) (.type "ValueError") = some true
  kS : PySem.W.kitOne K (.ref cS) (.ref cS) = some true
theorem takesN {X : Cx} : L2N.Takes X (fun _ _ _ _ => False) := fun u s' ⟨a, B, sI, pins, σ, H, cls, d, e, I, nb, up, sky, na, os, ag, w⟩ => w.elim
def spRf (K : PySem.W.Frag) (c : HCl) : Sp := fun vs H Q _ => ∃ (hs dx : Addr) (fs : List (Str × V)) (v : V) (d : PyData) (i : Int), vs = [.ref hs, v, .int i] ∧ H hs = some (.ins c.ho dx fs) ∧ fs.lookup ("advance" : Str) = none ∧ Dp K H v d ∧ (i = 0 → intIn d 1 8 = false) ∧ (i ≠ 0 → intIn d 0 mostSteps = false) ∧ ∀ H', Same H H' → Q (.bl true) H'
section
variable {P : Program} {w : World} {K : PySem.W.Frag} {mg : Str → Option Value} {base : Heap} {c : HCl}
theorem scRf : FnScope ["_law_house", "_law_thing", "_law_way", "e", "_law_others"] ["_law_house", "_law_thing", "_law_way"] (defScope sRf) := ⟨rfl, rfl, rfl, by decide +kernel, rfl, by decide +kernel, by decide +kernel⟩
theorem ok_rf {f fA fB : Addr} {fd dA dB : FuncData} (F : Fun K "_law_refused" "_law_refused" sRf f fd) (T : Gs K mg) (R : Er47 K mg) (my : mg "any" = none) (N : HoN K c.ho) (GB : FnOk P w K mg base (L2N.CX P w) 3 fB dB ["many"] (spBusX K R.cS)) (bB : Binds K dB ["many"] []) (kB : PySem.W.keepIn K (.ref fB) = true) (mB : mg "busiest" = some (.ref fB))
    (GA : FnOk P w K mg base (L2N.CX P w) 3 fA dA psAdv (spHoAX K R.cS)) (mA : Meth K c.ho "advance" fA) (bA : ∃ ds, Vals [V.non] ds ∧ Binds K dA psAdv ds) (bK : ∃ g, KBn K dA psAdv 2 ["watch"] g (fun vs zs => vs ++ zs)) :
    FnOk P w K mg base CX0 4 f fd ["_law_house", "_law_thing", "_law_way"] (spRf K c) := by
  refine F.ok scRf (fun vs H Q E h => ?_) (fun cdv A outer s H vs Q E hr h => ?_)
  · obtain ⟨hs, dx, fs, v, d, i, rfl, _⟩ := h
    rfl
  obtain ⟨hs, dx, fs, v, d, i, rfl, ho, lk, hd, h1, h0, q⟩ := h
  obtain ⟨ds, hds, bA⟩ := bA
  obtain ⟨g, bK⟩ := bK
  refine ⟨_, pss_cons (L2N.ps_try_as (i := 3) (tb := fun W => tIfS (tTest (tOp rEq (tVar 2) (tC (.int 0)))) (tDrop (tCallS (spBusX K R.cS) (WE W) (tCons (tVar 1) tNil)))
        (tIfS (tTest (tOp rEq (tVar 2) (tC (.int 1)))) (tDrop (tMethTD c.ho "advance" (spHoAX K R.cS) [V.non] (WE W) (tVar 0) (tCons (tVar 1) tNil)))
          (tDrop (tMethTK c.ho "advance" 1 (["watch"] : List Str).length (spHoAX K R.cS) (fun vs zs => vs ++ zs) (WE W) (tVar 0) (tCons (tVar 1) tNil) (tCons (tC .non) tNil)))))
      (ts := fun a cls d => tSeq (tAsg (tLst (tCons (tCB (fun xs H Q => ∃ D, cls = .ref D ∧ d = none ∧ ExcC K D ∧ rIsE K D a xs H Q) (tCons (tVar 3) (tCons (tC (.ref R.cP)) tNil))) (tCons (tCB (fun xs H Q => ∃ D, cls = .ref D ∧ d = none ∧ ExcC K D ∧ rIsE K D a xs H Q) (tCons (tVar 3) (tCons (tC (.ref R.cB)) tNil)))
          (tCons (tNotV (tCB (fun xs H Q => ∃ D, cls = .ref D ∧ d = none ∧ ExcC K D ∧ rIsE K D a xs H Q) (tCons (tVar 3) (tCons (tC (.ty "ValueError")) tNil)))) tNil)))) (gName 4))
        (tRet (tAndV (tCB (fun xs H Q => ∃ D, cls = .ref D ∧ d = none ∧ ExcC K D ∧ rIsE K D a xs H Q) (tCons (tVar 3) (tCons (tC (.ref R.cS)) tNil))) (tNotV (tCB (rAny K) (tCons (tVar 4) tNil))))))
      (Wout := fun _ _ _ _ => False) rfl rfl scRf.nd rfl rfl ⟨rfl, by decide, .inl R.gH⟩ takesN
      (fun W pn xe tk _ => pss_one (ps_if (by exact (pt_cmpR op_eq (pv 2) pe_int (nomark _))) (pss_one (ps_expr (by exact (pe_callS GB hr rfl mB kB bB (fun σ => L2N.passAt tk σ) (by exact (pa_cons (pv 1) pa_nil))))))
        (pss_one (ps_if (by exact (pt_cmpR op_eq (pv 2) pe_int (nomark _))) (pss_one (ps_expr (by exact (pe_methTD (pv 0) N.cl mA GA hr bA hds (fun σ => L2N.passAt tk σ) (by exact (pa_cons (pv 1) pa_nil))))))
          (pss_one (ps_expr (by exact (pe_methTK (pv 0) N.cl mA GA hr bK (fun σ => L2N.passAt tk σ) (by exact (pa_cons (pv 1) pa_nil)) (by exact (pk_cons pe_non pk_nil))))))))))
      (fun a oe cls d pn hz hf => pss_cons (ps_set (i := 4) scRf.nd rfl (.inl rfl) (by exact (pe_lst (pa_cons (pe_callB (call_isG hz.zc hf) (by rfl) T.isi (by decide +kernel) (pa_cons (pv 3) (pa_cons (pe_gref rfl R.gP) pa_nil))) (pa_cons (pe_callB (call_isG hz.zc hf) (by rfl) T.isi (by decide +kernel) (pa_cons (pv 3) (pa_cons (pe_gref rfl R.gB) pa_nil)))
          (pa_cons (pe_not (pe_callB (call_isG hz.zc hf) (by rfl) T.isi (by decide +kernel) (pa_cons (pv 3) (pa_cons (pe_bltn (v := .ty "ValueError") (by rfl) R.mV (by decide +kernel) rfl) pa_nil)))) pa_nil))))))
        (pss_one (ps_ret (by exact (pe_and (pe_callB (call_isG hz.zc hf) (by rfl) T.isi (by decide +kernel) (pa_cons (pv 3) (pa_cons (pe_gref rfl R.gS) pa_nil))) (pe_one (pe_not (pe_callB (call_anyHot hz hf) (by rfl) my (by decide +kernel) (pa_cons (pv 4) pa_nil))))))))))
    (pss_one (ps_ret pe_bl)), ?_⟩
  refine ⟨_, rfl, rfl, _, rfl, ?_⟩
  refine ite2 (fun ci => ?_) (fun ci => ?_)
  rotate_left
  · have h0 := h0 (fun e => ci (by rw [e]; exact decide_eq_true rfl))
    refine ⟨_, rfl, rfl, _, rfl, ?_⟩
    refine ite2 (fun _ => ?_) (fun _ => ?_)
    rotate_left
    · refine ⟨_, rfl, hs, dx, fs, rfl, ho, lk, _, rfl, rfl, rfl, .ref hs, v, .non, d, rfl, hd, h0, fun H1 s1 => ?_⟩
      refine ⟨true, R.S.e, fun _ a na => ?_, fun z => nomatch z⟩
      refine ⟨_, rfl, R.cS, rfl, rfl, R.S.c, .ref R.cP, .ref R.cP, false, rfl, fun u h => h, R.kP, _, rfl, R.cS, rfl, rfl, R.S.c, .ref R.cB, .ref R.cB, false, rfl, fun u h => h, R.kB, _, rfl, R.cS, rfl, rfl, R.S.c, .ty "ValueError", .type "ValueError", true, rfl, fun u h => h, R.kV, _, rfl, (by show 3 ≤ sizeLine; decide), fun ls nls => ?_⟩
      refine ⟨_, rfl, R.cS, rfl, rfl, R.S.c, .ref R.cS, .ref R.cS, true, rfl, fun u h => h, R.kS, _, rfl, iteT ?_⟩
      exact ⟨_, rfl, ls, [false, false, false], rfl, SqL.of upd_same, _, rfl, q _ (s1.trans (same_new nls _))⟩
    · refine ⟨_, rfl, hs, dx, fs, rfl, ho, lk, _, rfl, .ref hs, v, .non, d, rfl, hd, h0, fun H1 s1 => ?_⟩
      refine ⟨true, R.S.e, fun _ a na => ?_, fun z => nomatch z⟩
      refine ⟨_, rfl, R.cS, rfl, rfl, R.S.c, .ref R.cP, .ref R.cP, false, rfl, fun u h => h, R.kP, _, rfl, R.cS, rfl, rfl, R.S.c, .ref R.cB, .ref R.cB, false, rfl, fun u h => h, R.kB, _, rfl, R.cS, rfl, rfl, R.S.c, .ty "ValueError", .type "ValueError", true, rfl, fun u h => h, R.kV, _, rfl, (by show 3 ≤ sizeLine; decide), fun ls nls => ?_⟩
      refine ⟨_, rfl, R.cS, rfl, rfl, R.S.c, .ref R.cS, .ref R.cS, true, rfl, fun u h => h, R.kS, _, rfl, iteT ?_⟩
      exact ⟨_, rfl, ls, [false, false, false], rfl, SqL.of upd_same, _, rfl, q _ (s1.trans (same_new nls _))⟩
  · have h1 := h1 (by have := of_decide_eq_true ci; injection this)
    refine ⟨_, rfl, v, d, rfl, hd, h1, fun H1 s1 => ?_⟩
    refine ⟨true, R.S.e, fun _ a na => ?_, fun z => nomatch z⟩
    refine ⟨_, rfl, R.cS, rfl, rfl, R.S.c, .ref R.cP, .ref R.cP, false, rfl, fun u h => h, R.kP, _, rfl, R.cS, rfl, rfl, R.S.c, .ref R.cB, .ref R.cB, false, rfl, fun u h => h, R.kB, _, rfl, R.cS, rfl, rfl, R.S.c, .ty "ValueError", .type "ValueError", true, rfl, fun u h => h, R.kV, _, rfl, (by show 3 ≤ sizeLine; decide), fun ls nls => ?_⟩
    refine ⟨_, rfl, R.cS, rfl, rfl, R.S.c, .ref R.cS, .ref R.cS, true, rfl, fun u h => h, R.kS, _, rfl, iteT ?_⟩
    exact ⟨_, rfl, ls, [false, false, false], rfl, SqL.of upd_same, _, rfl, q _ (s1.trans (same_new nls _))⟩
end
/-! ### k47: what its data are -/
theorem dpi {K : PySem.W.Frag} {H : Hp} : ∀ ns : List Int, DpAll K H (ns.map V.int) (ns.map PyData.int)
  | [] => .nil
  | n :: r => .cons (.int n) (dpi r)
def Up (acc : List Int) (k : Nat) : Prop := (∀ z ∈ acc, 0 ≤ z ∧ z < 2 ^ k) ∧ 0 ≤ acc.sum ∧ acc.sum < 2 ^ k
theorem up_step {acc : List Int} {k : Nat} {z : Str} (h : Up acc k) : Up (mostStep acc z) (k + 1) := by
  obtain ⟨h1, h2, h3⟩ := h
  have e2 : (2 : Int) ^ (k + 1) = 2 * 2 ^ k := by rw [Int.pow_succ]; omega
  have hr : 0 ≤ (if z = "collector" then 1 else 1 + acc.sum) ∧ (if z = "collector" then 1 else 1 + acc.sum) ≤ 1 + acc.sum := by split <;> omega
  unfold mostStep
  generalize (if z = "collector" then 1 else 1 + acc.sum) = r at hr
  refine ⟨fun y m => ?_, ?_, ?_⟩
  · rcases List.mem_append.mp m with m | m
    · have := h1 y m
      omega
    · rw [List.mem_singleton.mp m]
      omega
  · rw [List.sum_append, List.sum_cons, List.sum_nil]
    omega
  · rw [List.sum_append, List.sum_cons, List.sum_nil]
    omega
theorem up_fold : ∀ (l : List Str) (acc : List Int) (k : Nat), Up acc k → Up (l.foldl mostStep acc) (k + l.length)
  | [], _, _, h => h
  | z :: r, acc, k, h => by
    rw [List.foldl_cons, List.length_cons, show k + (r.length + 1) = (k + 1) + r.length from by omega]
    exact up_fold r _ _ (up_step h)
theorem up_most (zs : List Str) : Up (mostM zs) zs.length := by
  have := up_fold zs [] 0 ⟨(fun z m => nomatch m), Int.le_refl _, by decide⟩
  rw [Nat.zero_add] at this
  exact this
theorem rl_ints {L : Nat} : ∀ ns : List Int, (∀ z ∈ ns, z.natAbs.log2 ≤ L) → rlAll (ns.map PyData.int) ≤ ns.length * (L + 4)
  | [], _ => by simp [rlAll]
  | n :: r, h => by
    have h1 := h n List.mem_cons_self
    have h2 := rl_ints r fun z m => h z (List.mem_cons_of_mem _ m)
    rw [List.map_cons, List.length_cons, Nat.succ_mul]
    simp only [rlAll, rlD]
    omega
theorem dep_ints : ∀ ns : List Int, PyData.depthAll (ns.map PyData.int) = 0
  | [] => rfl
  | n :: r => by simp only [List.map_cons, PyData.depthAll, PyData.depth, dep_ints r]; rfl
theorem most_sh {zs : List Str} (hz : zs.length ≤ 200) : ShOk (.list ((mostM zs).map PyData.int)) := by
  obtain ⟨h1, _, _⟩ := up_most zs
  have lg : ∀ z ∈ mostM zs, z.natAbs.log2 ≤ 200 := fun z m => by
    obtain ⟨a, b⟩ := h1 z m
    have b2 : (2 : Int) ^ zs.length ≤ 2 ^ 200 := by
      have := Nat.pow_le_pow_right (n := 2) (by decide) hz
      have e1 : ((2 ^ zs.length : Nat) : Int) = (2 : Int) ^ zs.length := Int.natCast_pow 2 zs.length
      have e2 : ((2 ^ 200 : Nat) : Int) = (2 : Int) ^ 200 := Int.natCast_pow 2 200
      omega
    have e2 : ((2 ^ 200 : Nat) : Int) = (2 : Int) ^ 200 := Int.natCast_pow 2 200
    have : z.natAbs < 2 ^ 200 := by omega
    have := PySem.Flt.log2_lt_of (by decide) this
    omega
  refine ⟨?_, ?_, ?_⟩
  · simp only [PyData.showable]
    exact PyData.showableAll_ints _ fun z m => Nat.lt_of_le_of_lt (lg z m) (by decide)
  · simp only [PyData.depth, dep_ints]
    decide
  · have := rl_ints (L := 200) _ lg
    rw [mostM_len] at this
    simp only [rlD]
    have : zs.length * (200 + 4) ≤ 200 * 204 := Nat.mul_le_mul_right _ hz
    omega
theorem progs_sh {n : Nat} (h : n ≤ 8) : ShOk (.list (progsD n)) := by
  have : n = 0 ∨ n = 1 ∨ n = 2 ∨ n = 3 ∨ n = 4 ∨ n = 5 ∨ n = 6 ∨ n = 7 ∨ n = 8 := by omega
  rcases this with rfl | rfl | rfl | rfl | rfl | rfl | rfl | rfl | rfl <;> exact ⟨by decide +kernel, by decide +kernel, by decide +kernel⟩
theorem progs_ok {n : Nat} (h : n ≤ 8) : ∀ d ∈ progsD n, isProg d = true ∧ PyData.canLay0 d = true ∧ ∃ e, d = .tuple [.str "teller", e] := by
  intro d m
  unfold progsD progsUp at m
  rw [List.mem_reverse, List.mem_map] at m
  obtain ⟨i, hi, rfl⟩ := m
  have hi := List.mem_range.mp hi
  have : i = 0 ∨ i = 1 ∨ i = 2 ∨ i = 3 ∨ i = 4 ∨ i = 5 ∨ i = 6 ∨ i = 7 := by omega
  refine ⟨?_, ?_, _, rfl⟩
  · rcases this with rfl | rfl | rfl | rfl | rfl | rfl | rfl | rfl <;> decide +kernel
  · rcases this with rfl | rfl | rfl | rfl | rfl | rfl | rfl | rfl <;> decide +kernel
theorem progs_len (n : Nat) : (progsD n).length = n := by
  unfold progsD progsUp
  rw [List.length_reverse, List.length_map, List.length_range]
theorem shaped_strs (zs : List Str) (h : zs.all PyData.strOk = true) : SeqAt.shaped (.list (zs.map PyData.str)) = true := by
  show ((PyData.list (zs.map PyData.str)).canLay0 && decide ((PyData.list (zs.map PyData.str)).depth ≤ 64)) = true
  simp only [PyData.canLay0, lay_strs zs h, PyData.depth, depth_strs]
  decide
abbrev ns47 : List Str := ["_law_script", "_law_bag", "_law_many", "_law_kinds", "_law_handed", "_law_due", "_law_kind", "_law_told", "_law_house", "_law_kept", "_law_odd", "_law_thing", "_law_turn", "_law_one", "_law_way"]
/-- what the law uses -/
structure U47 (P : Program) (w : World) (K : PySem.W.Frag) (mg : Str → Option Value) (base : Heap) (c : HCl) where
  T : Gs K mg
  mr : mg "range" = none
  ms : mg "sum" = none
  ml : mg "list" = none
  mp : mg "repr" = none
  CPu : Cal P w K mg base 1 "_law_purse" ["_law_script", "_law_at"] (spPur K)
  CTa : Cal P w K mg base 1 "_law_take" ["_law_bag", "_law_many"] spTak
  CMo : Cal P w K mg base 1 "most_acts" ["kinds"] (spMost K)
  CBu : Cal P w K mg base 3 "busiest" ["many"] (spBus K)
  CPr : Cal P w K mg base 7 "is_program" ["thing"] (spProg K)
  CRf : Cal P w K mg base 4 "_law_refused" ["_law_house", "_law_thing", "_law_way"] (spRf K c)
  CAl : CalG P w K mg base 1 "_law_alike" ["_law_found", "_law_due"] (spAlk K)
  fI : Addr
  dI : FuncData
  gH : mg "House" = some (.ref c.ho)
  MH : Mk K c.ho fI
  GI : FnOk P w K mg base CX0 4 fI dI ["self"] (spHoI K c)
  bI : Binds K dI ["self"] []
  N : HoN K c.ho
  MC : MCal P w K mg base 1 c.ho "clock" ["self"] (spHoC K c)
  MHi : MCal P w K mg base 1 c.ho "history" ["self"] (spHoH K c)
theorem tm {m : Int} (h : m ≤ 10 ^ 40) : m < takeMax := Int.lt_of_le_of_lt h (by decide +kernel)
def kd (z : Str) : Prop := z = "teller" ∨ z = "collector"
theorem kd_ok : ∀ zs : List Str, (∀ z ∈ zs, kd z) → zs.all PyData.strOk = true
  | [], _ => rfl
  | z :: r, h => by
    rw [List.all_cons, kd_ok r fun y m => h y (List.mem_cons_of_mem _ m)]
    rcases h z List.mem_cons_self with rfl | rfl <;> decide +kernel
theorem kd_step {acc : List Int} {z : Str} (h : kd z) : (1 : Int) + acc.sum * (if decide (V.str z = V.str "teller") = true then 1 else 0) = (if z = "collector" then 1 else 1 + acc.sum) := by
  rcases h with rfl | rfl
  · rw [if_pos (decide_eq_true rfl), if_neg (by decide +kernel)]
    omega
  · rw [if_neg (by decide +kernel), if_pos rfl]
    omega
theorem Fr.same {H0 H H' : Hp} {b : Addr} (s : Same H0 H) (n : H0 b = none) (f : Fr b H H') : Same H0 H' := fun a o e => f a o (ne_of_none e n) (s a o e)
theorem Bg.upd {j : Nat} {H : Hp} {b D : Addr} (g : Bg j H b) (n : D ≠ b) (o : HO) : Bg j (upd H D o) b := by
  obtain ⟨c, t, k, e, r⟩ := g
  exact ⟨c, t, k, by rw [upd_ne n.symm]; exact e, r⟩
theorem Fr.nw {b p : Addr} {H0 H H' : Hp} (f : Fr b H0 H) (n : H0 p = none) (g : Fr p H H') : Fr b H0 H' := fun a o h e => g a o (ne_of_none e n) (f a o h e)
theorem Fr.free {b p : Addr} {H0 H : Hp} (f : Fr b H0 H) {o : HO} (eb : H b = some o) (n : H p = none) : H0 p = none := by
  cases e : H0 p with
  | none => rfl
  | some u =>
    by_cases c : p = b
    · rw [c, eb] at n; cases n
    · have := f p u c e
      rw [n] at this; cases this
theorem Bg.ex {j : Nat} {H : Hp} {b : Addr} (g : Bg j H b) : ∃ o, H b = some o := by
  obtain ⟨c, t, k, e, _⟩ := g
  exact ⟨_, e⟩
theorem map_rep (n : Nat) (z : Str) : (List.replicate n z).map V.str = List.replicate n (V.str z) := List.map_replicate
theorem map_repB (n : Nat) : (List.replicate n true).map V.bl = List.replicate n (V.bl true) := List.map_replicate
theorem rep_all (n : Nat) : (List.replicate n true).all id = true := by
  rw [List.all_eq_true]
  intro x m
  rw [(List.mem_replicate.mp m).2]
  rfl
theorem rep_snoc (n : Nat) (v : V) : List.replicate n v ++ [v] = List.replicate (n + 1) v := List.replicate_succ'.symm
theorem tup_fz (H : Hp) : Fz (tupH H) H := ⟨tupH_same H, fun a xs e => by unfold tupH; rw [e], fun a o u e => by unfold tupH; rw [e]⟩
theorem Bg.tupH {j : Nat} {H : Hp} {b : Addr} (g : Bg j H b) : My.tupH H b = none := by
  obtain ⟨c, t, k, e, _⟩ := g
  unfold My.tupH
  rw [e]
theorem Bg.fr {j : Nat} {H H' : Hp} {b D : Addr} (g : Bg j H b) (n : b ≠ D) (f : Fr D H H') : Bg j H' b := by
  obtain ⟨c, t, k, e, r⟩ := g
  exact ⟨c, t, k, f _ _ n e, r⟩
section
variable {P : Program} {w : World} {K : PySem.W.Frag} {mg : Str → Option Value} {base : Heap} {c : HCl}
theorem scLaw : FnScope ns47 ["_law_script"] (defScope sLaw) := ⟨rfl, rfl, rfl, by decide +kernel, rfl, by decide +kernel, by decide +kernel⟩
theorem ok_law {f : Addr} {fd : FuncData} (F : Fun K "law" "law" sLaw f fd) (U : U47 P w K mg base c) : FnG P w K mg base CX0 8 f fd ["_law_script"] (spLaw K) := by
  refine okG0 F scLaw (fun vs H Q E h => ?_) (fun cdv A outer s H vs Q E hg hr h => ?_)
  · obtain ⟨a, ns, rfl, _⟩ := h
    rfl
  obtain ⟨a, ns, rfl, hS, h63, q⟩ := h
  have hr1 : Room 1 _ := hr.mono (by decide)
  have hr3 : Room 3 _ := hr.mono (by decide)
  have hr4 : Room 4 _ := hr.mono (by decide)
  have hr5 : Room 5 _ := hr.mono (by decide)
  obtain ⟨T, mr, ms, ml, mp, CPu, CTa, CMo, CBu, CPr, CRf, CAl, fI, dI, gH, MH, GI, bI, N, MC, MHi⟩ := U
  refine ⟨_, (pss_cons (ps_set (i := 1) scLaw.nd rfl (.inr rfl) (pe_call CPu.G hr1 rfl CPu.m CPu.kp CPu.b .nil pass0 (pa_cons (pv 0) (pa_cons pe_int pa_nil))))
  (pss_cons (ps_set (i := 2) scLaw.nd rfl (.inl rfl) (pe_call CTa.G hr1 rfl CTa.m CTa.kp CTa.b .nil pass0 (pa_cons (pv 1) (pa_cons (pe_ix ix_list (pe_lst (pa_cons pe_int (pa_cons pe_int pa_nil))) (pe_call CTa.G hr1 rfl CTa.m CTa.kp CTa.b .nil pass0 (pa_cons (pv 1) (pa_cons pe_int pa_nil))) (fun _ _ => rfl)) pa_nil))))
  (pss_cons (ps_setLc (i := 3) (own := [("_law_turn", 12)]) (g := gName 12) (tt := tYes) rfl scLaw.nd rfl rfl (sw_true rfl rfl rfl (by decide +kernel)) (pi_range1 (by rfl) mr (pa_cons (pv 2) pa_nil)) (blkOk_by (N := ns47) (sc := defScope sLaw) (by decide +kernel)) (fun _ _ _ _ _ => pg_name (i := 12) scLaw.nd rfl (.inl rfl)) (fun _ _ _ _ _ => pts_nil) (fun _ _ _ _ _ => pe_ix (r := rIxL K) ix_list (pe_lst (pa_cons pe_str (pa_cons pe_str pa_nil))) (pe_callTy call_int1 (by rfl) T.int (by decide +kernel) (pa_cons (pe_cmpR op_eq (pe_call CTa.G hr1 rfl CTa.m CTa.kp CTa.b .nil pass0 (pa_cons (pv 1) (pa_cons pe_int pa_nil))) pe_int (nomark _)) pa_nil)) (fun _ _ => rfl)))
  (pss_cons (ps_par (i := 4) (j := 5) rfl scLaw.nd rfl rfl (by decide) rfl rfl (pa_cons (pe_callTy call_list_of (by rfl) ml (by decide +kernel) (pa_cons (pv 3) pa_nil)) (pa_cons (pe_lst pa_nil) pa_nil)) (by rfl))
  (pss_cons (ps_for PassesOwn.never rfl (pi_list (pv 3)) (pg_name (i := 6) scLaw.nd rfl (.inl rfl))
    (pss_one (ps_expr (pe_bm PySem.F.plainAttrs_list PySem.F.slot_list_append PySem.F.type_list_append mt_append (pv 5) (pa_cons (pe_op op_add pe_int (pe_op op_mul (pe_callB (cr_sum rfl) (by rfl) ms (by decide +kernel) (pa_cons (pv 5) pa_nil)) (pe_callTy call_int1 (by rfl) T.int (by decide +kernel) (pa_cons (pe_cmpR op_eq (pv 6) pe_str (nomark _)) pa_nil)))) pa_nil)))))
  (pss_cons (ps_set (i := 7) scLaw.nd rfl (.inl rfl) (pe_call CMo.G hr1 rfl CMo.m CMo.kp CMo.b .nil pass0 (pa_cons (pv 4) pa_nil)))
  (pss_cons (ps_if (PW.pt (pw_or (pt_not (pt_val (pe_callG CAl.G hg hr1 rfl CAl.m CAl.kp CAl.b .nil pass0 (pa_cons (pv 7) (pa_cons (pv 5) pa_nil))))) (pw_or1 (pt_cmpR (op_neD hr.units) (pv 4) (pv 3) (nomark _)))))
    (pss_one (ps_ret pe_bl))
    pss_nil)
  (pss_cons (ps_expr (pe_bm PySem.F.plainAttrs_list PySem.F.slot_list_append PySem.F.type_list_append mt_append (pv 7) (pa_cons pe_int pa_nil)))
  (pss_cons (ps_if (PW.pt (pw_or (pt_not (pt_val (pe_callG CAl.G hg hr1 rfl CAl.m CAl.kp CAl.b .nil pass0 (pa_cons (pe_call CMo.G hr1 rfl CMo.m CMo.kp CMo.b .nil pass0 (pa_cons (pv 4) pa_nil)) (pa_cons (pv 5) pa_nil))))) (pw_or (pt_cmpR (op_neD hr.units) (pe_call CMo.G hr1 rfl CMo.m CMo.kp CMo.b .nil pass0 (pa_cons (pe_lst pa_nil) pa_nil)) (pe_lst pa_nil) (nomark _)) (pw_or1 (pt_cmpR (op_neD hr.units) (pe_call CMo.G hr1 rfl CMo.m CMo.kp CMo.b .nil pass0 (pa_cons (pe_lst (pa_cons pe_str (pa_cons pe_str pa_nil))) pa_nil)) (pe_lst (pa_cons pe_int (pa_cons pe_int pa_nil))) (nomark _))))))
    (pss_one (ps_ret pe_bl))
    pss_nil)
  (pss_cons (ps_asg (pe_tup (pa_cons (pe_call CPu.G hr1 rfl CPu.m CPu.kp CPu.b .nil pass0 (pa_cons (pv 0) (pa_cons pe_int pa_nil))) (pa_cons (pe_make0 MH GI hr5 rfl gH bI .nil pass0) pa_nil))) (pg_tup (by rfl) (pgs_cons (pg_name (i := 1) scLaw.nd rfl (.inr rfl)) (pgs_cons (pg_name (i := 8) scLaw.nd rfl (.inr rfl)) pgs_nil))))
  (pss_cons (ps_set (i := 2) scLaw.nd rfl (.inl rfl) (pe_op op_add pe_int (pe_call CTa.G hr1 rfl CTa.m CTa.kp CTa.b .nil pass0 (pa_cons (pv 1) (pa_cons pe_int pa_nil)))))
  (pss_cons (ps_set (i := 7) scLaw.nd rfl (.inl rfl) (pe_call CBu.G hr3 rfl CBu.m CBu.kp CBu.b .nil pass0 (pa_cons (pv 2) pa_nil)))
  (pss_cons (ps_if (PW.pt (pw_or (pt_not (pt_val (pe_callB call_isi (by rfl) T.isi (by decide +kernel) (pa_cons (pv 7) (pa_cons (pe_bltn (v := .ty "list") (by rfl) ml (by decide +kernel) rfl) pa_nil))))) (pw_or (pt_cmpR op_ne (pe_callB call_len_seq (by rfl) T.len PySem.boot_len (pa_cons (pv 7) pa_nil)) (pv 2) (nomark _)) (pw_or1 (pt_cmpR (op_neD hr.units) (pe_lc (own := [("_law_one", 13)]) (g := gName 13) (tt := tYes) rfl scLaw.nd (pi_list (pv 7)) (blkOk_by (N := ns47) (sc := defScope sLaw) (by decide +kernel)) (fun _ _ _ _ _ => pg_name (i := 13) scLaw.nd rfl (.inl rfl)) (fun _ _ _ _ _ => pts_nil) (fun _ _ _ _ _ => pe_ix (r := rIxT K) ix_tup (pv 13) pe_int (fun _ _ => rfl))) (pe_op op_rep (pe_lst (pa_cons pe_str pa_nil)) (pv 2)) (nomark _))))))
    (pss_one (ps_ret pe_bl))
    pss_nil)
  (pss_cons (ps_if (pt_not (pt_val (pe_callB (cr_all rfl) (by rfl) T.all (by decide +kernel) (pa_cons (pe_lc (own := [("_law_one", 13)]) (g := gName 13) (tt := tYes) rfl scLaw.nd (pi_list (pv 7)) (blkOk_by (N := ns47) (sc := defScope sLaw) (by decide +kernel)) (fun _ _ _ _ _ => pg_name (i := 13) scLaw.nd rfl (.inl rfl)) (fun _ _ _ _ _ => pts_nil) (fun _ _ _ _ _ => pe_call CPr.G hr rfl CPr.m CPr.kp CPr.b .nil pass0 (pa_cons (pv 13) pa_nil))) pa_nil))))
    (pss_one (ps_ret pe_bl))
    pss_nil)
  (pss_cons (ps_set (i := 9) scLaw.nd rfl (.inl rfl) (pe_callB (call_reprD hg (hu65 hr)) (by rfl) mp (by decide +kernel) (pa_cons (pv 7) pa_nil)))
  (pss_cons (ps_expr (pe_bm0 PySem.F.plainAttrs_list PySem.F.slot_list_clear PySem.F.type_list_clear mt_clear (pv 7)))
  (pss_cons (ps_if (pt_cmpR op_ne (pe_callB (call_reprD hg (hu65 hr)) (by rfl) mp (by decide +kernel) (pa_cons (pe_call CBu.G hr3 rfl CBu.m CBu.kp CBu.b .nil pass0 (pa_cons (pv 2) pa_nil)) pa_nil)) (pv 9) (nomark _))
    (pss_one (ps_ret pe_bl))
    pss_nil)
  (pss_cons (ps_set (i := 1) scLaw.nd rfl (.inr rfl) (pe_call CPu.G hr1 rfl CPu.m CPu.kp CPu.b .nil pass0 (pa_cons (pv 0) (pa_cons pe_int pa_nil))))
  (pss_cons (ps_set (i := 10) scLaw.nd rfl (.inl rfl) (pe_ix ix_list (pe_lst (pa_cons pe_bl (pa_cons pe_bl (pa_cons pe_non (pa_cons pe_str (pa_cons (pe_tup (pa_cons pe_int pa_nil)) (pa_cons (pe_lst (pa_cons pe_int pa_nil)) (pa_cons (pe_op op_sub (pe_un un_neg pe_int) (pe_call CTa.G hr1 rfl CTa.m CTa.kp CTa.b .nil pass0 (pa_cons (pv 1) (pa_cons (pe_op op_pow pe_int pe_int) pa_nil)))) (pa_cons pe_str pa_nil))))))))) (pe_call CTa.G hr1 rfl CTa.m CTa.kp CTa.b .nil pass0 (pa_cons (pv 1) (pa_cons pe_int pa_nil))) (fun _ _ => rfl)))
  (pss_cons (ps_for PassesOwn.never rfl (pi_list (pe_lst (pa_cons (pv 10) (pa_cons (pe_un un_neg pe_int) (pa_cons (pe_op op_add (pe_op op_pow pe_int pe_int) pe_int) (pa_cons (pe_op op_mulW (pe_op op_pow pe_int pe_int) (pe_op op_pow pe_int pe_int)) pa_nil)))))) (pg_name (i := 11) scLaw.nd rfl (.inr rfl))
    (pss_one (ps_if (pt_not (pt_val (pe_callB (cr_all rfl) (by rfl) T.all (by decide +kernel) (pa_cons (pe_lc (own := [("_law_way", 14)]) (g := gName 14) (tt := tYes) rfl scLaw.nd (pi_range1 (by rfl) mr (pa_cons pe_int pa_nil)) (blkOk_by (N := ns47) (sc := defScope sLaw) (by decide +kernel)) (fun _ _ _ _ _ => pg_name (i := 14) scLaw.nd rfl (.inl rfl)) (fun _ _ _ _ _ => pts_nil) (fun _ _ _ _ _ => pe_call CRf.G hr4 rfl CRf.m CRf.kp CRf.b .nil pass0 (pa_cons (pv 8) (pa_cons (pv 11) (pa_cons (pv 14) pa_nil))))) pa_nil))))
      (pss_one (ps_ret pe_bl))
      pss_nil)))
  (pss_cons (ps_if (PW.pt (pw_or (pt_not (pt_val (pe_call CRf.G hr4 rfl CRf.m CRf.kp CRf.b .nil pass0 (pa_cons (pv 8) (pa_cons pe_int (pa_cons pe_int pa_nil)))))) (pw_or1 (pt_not (pt_val (pe_call CRf.G hr4 rfl CRf.m CRf.kp CRf.b .nil pass0 (pa_cons (pv 8) (pa_cons (pe_op op_add pe_int (pe_call CTa.G hr1 rfl CTa.m CTa.kp CTa.b .nil pass0 (pa_cons (pv 1) (pa_cons (pe_op op_pow pe_int pe_int) pa_nil)))) (pa_cons pe_int pa_nil)))))))))
    (pss_one (ps_ret pe_bl))
    pss_nil)
  (pss_one (ps_ret (pe_and (pe_cmpR op_eq (pe_meth0 (pv 8) N.cl MC.m MC.G hr1 MC.b .nil pass0) pe_int (nomark _)) (pe_one (pe_cmpR (op_eqD hr.units) (pe_meth0 (pv 8) N.cl MHi.m MHi.G hr1 MHi.b .nil pass0) (pe_lst pa_nil) (nomark _))))))))))))))))))))))))))), ?_⟩
  -- the first bag, the number of kinds
  refine ⟨_, rfl, a, ns, 0, rfl, hS, h63, by decide, fun H1 b s1 nb g1 => ?_⟩
  refine ⟨_, rfl, (by show 2 ≤ sizeLine; decide), fun l nl => ⟨_, rfl, b, 2, 0, rfl, g1.keep (same_new nl _), by decide, tm (by decide), by decide, fun H2 r f2 g2 r0 r1 => ?_⟩⟩
  have nlb : l ≠ b := (g1.ne nl).symm
  have el := f2 l _ nlb upd_same
  have s2 : Same H H2 := Fr.same (s1.trans (same_new nl _)) nb f2
  obtain ⟨v, hv, hvv⟩ := at2 (x := V.int 5) (y := V.int 201) r0 r1
  obtain ⟨m, rfl, m0, m1⟩ : ∃ m : Int, v = .int m ∧ 0 < m ∧ m ≤ 201 := by
    rcases hvv with rfl | rfl
    · exact ⟨5, rfl, by decide, by decide⟩
    · exact ⟨201, rfl, by decide, by decide⟩
  refine ⟨l, _, r, _, rfl, rfl, SqL.of el, hv, b, m, 50, rfl, g2, m0, tm (Int.le_trans m1 (by decide)), by decide, fun H3 k f3 g3 k0 k1 => ?_⟩
  have s3 : Same H H3 := Fr.same s2 nb f3
  clear hv hvv el f2 g2 f3
  -- the kinds
  refine ⟨_, rfl, k, rfl, by omega, by omega, fun D nD => ?_⟩
  have nbD : D ≠ b := (g3.ne nD).symm
  have nHD : H D = none := s3.free nD
  refine lc_it (walk_range (lo := 0) (n := k.toNat)) (fun i Hx => Same H Hx ∧ Bg (100 + 50 * i) Hx b ∧ ∃ zs : List Str, zs.length = i ∧ (∀ z ∈ zs, kd z) ∧ Hx D = some (.lst (zs.map V.str))) ⟨s3.trans (same_new nD _), g3.keep (same_new nD _), [], rfl, (fun z h => nomatch h), upd_same⟩ (fun _ _ _ _ => trivial) ?_ ?_
  · rintro i x Hx Hy hi ⟨sx, gx, zs, hl, hz, eD⟩ ⟨rfl, rfl⟩
    refine ⟨rfl, ?_⟩
    have hi2 : i < 201 := by omega
    refine (show _ from ⟨(by show 2 ≤ sizeLine; decide), fun l2 nl2 => ⟨_, rfl, b, 4, _, rfl, gx.keep (same_new nl2 _), by decide, tm (by decide), (by have : 100 + 50 * i ≤ 20000 := (by omega); exact Nat.le_trans this (by decide)), fun H5 t f5 g5 t0 t1 => ⟨rfl, .inr ⟨_, rfl, ?_⟩⟩⟩⟩)
    have nl2b : l2 ≠ b := (gx.ne nl2).symm
    have el2 := f5 l2 _ nl2b upd_same
    have eD5 := f5 D _ nbD (same_new nl2 _ _ _ eD)
    have s5 : Same H H5 := Fr.same (sx.trans (same_new nl2 _)) nb f5
    obtain ⟨v, hv, hvv⟩ := at2 (x := V.str "teller") (y := V.str "collector") (r := (if decide (V.int t = V.int 0) = true then 1 else 0)) (by split <;> decide) (by split <;> decide)
    obtain ⟨z, rfl, hz2⟩ : ∃ z, v = .str z ∧ kd z := by
      rcases hvv with rfl | rfl
      · exact ⟨_, rfl, .inl rfl⟩
      · exact ⟨_, rfl, .inr rfl⟩
    refine ⟨l2, _, _, _, rfl, rfl, SqL.of el2, hv, _, eD5, ?_, same_upd s5 nHD _, (g5.mono (by omega)).upd nbD _, zs ++ [z], ?_, ?_, ?_⟩
    · rw [List.length_map, hl]
      exact Nat.lt_of_lt_of_le hi2 (by decide)
    · rw [List.length_append, hl]
      rfl
    · intro y m
      rcases List.mem_append.mp m with m | m
      · exact hz y m
      · rw [List.mem_singleton.mp m]
        exact hz2
    · rw [upd_same, List.map_append]
      rfl
  rintro H4 ⟨s4, g4, zs, hl, hz, eD⟩
  have hl2 : zs.length ≤ 200 := by omega
  -- copies
  refine ⟨_, rfl, D, _, rfl, .inl (SqL.of eD), fun l4 n4 => ⟨(by show 0 ≤ sizeLine; decide), fun l5 n5 => ⟨_, _, rfl, ?_⟩⟩⟩
  have u4 := same_new n4 (.lst (zs.map V.str))
  have e4 : (upd H4 l4 (.lst (zs.map V.str))) l4 = some (.lst (zs.map V.str)) := upd_same
  have s4' := s4.trans u4
  have g4' := g4.keep u4
  have eD' := u4 _ _ eD
  generalize upd H4 l4 (.lst (zs.map V.str)) = H5 at u4 e4 s4' g4' eD' n5 ⊢
  have u5 := same_new n5 (.lst [])
  have e5 : (upd H5 l5 (.lst [])) l5 = some (.lst []) := upd_same
  have s5 := s4'.trans u5
  have g5 := g4'.keep u5
  have eD5 := u5 _ _ eD'
  have e45 := u5 _ _ e4
  have n5D : D ≠ l5 := ne_of_none eD' n5
  have n54 : l4 ≠ l5 := ne_of_none e4 n5
  have n5b : b ≠ l5 := g4'.ne n5
  have nH5 : H l5 = none := s4'.free n5
  generalize upd H5 l5 (.lst []) = H6 at u5 e5 s5 g5 eD5 e45 ⊢
  clear u4 u5
  -- what is due
  refine ⟨_, rfl, D, rfl, ⟨_, SqL.of eD5⟩, for_it (walk_list (K := K) (a := D) (xs := zs.map V.str)) (fun i σ Hx => ∃ s6 : Option V, σ = [some (.ref a), some (.ref b), some (.int k), some (.ref D), some (.ref l4), some (.ref l5), s6, none, none, none, none, none, none, none, none] ∧ Fr l5 H6 Hx ∧ Hx l5 = some (.lst ((mostM (zs.take i)).map V.int))) ⟨none, rfl, Fr.refl _ _, e5⟩ (fun i σ Hx _ ⟨_, _, fx, _⟩ => SqL.of (fx _ _ n5D eD5)) ?_ ?_⟩
  · rintro i x σ Hx H2 hi ⟨s6, rfl, fx, ex⟩ ⟨rfl, hx⟩
    obtain ⟨z, hz1, hz2⟩ : ∃ z, zs[i]? = some z ∧ x = .str z := by
      rw [List.getElem?_map] at hx
      cases e : zs[i]? with
      | none => rw [e] at hx; cases hx
      | some z => rw [e] at hx; cases hx; exact ⟨z, rfl, rfl⟩
    subst hz2
    have hk := hz z (List.mem_of_getElem? hz1)
    refine ⟨_, rfl, .inl ⟨rfl, _, SqL.of ex⟩, _, rfl, l5, mostM (zs.take i), rfl, SqL.of ex, _, rfl, rfl, .inr ⟨_, rfl, _, _, rfl, rfl, Or.inr (one_or _), _, _, rfl, rfl, l5, _, _, rfl, rfl, ex, ?_, some (.str z), rfl, fx.trans (Fr.upd _), ?_⟩⟩
    · rw [List.length_map, mostM_len, List.length_take]
      exact Nat.lt_of_le_of_lt (Nat.le_trans (Nat.min_le_right _ _) hl2) (by decide)
    · rw [upd_same, mostM_take hz1]
      unfold mostStep
      rw [List.map_append, ← kd_step hk]
      rfl
  rintro σ H7 ⟨s6, rfl, f7, e7⟩
  rw [List.length_map, List.take_length] at e7
  have eD7 := f7 _ _ n5D eD5
  have e47 := f7 _ _ n54 e45
  have g7 := g5.fr n5b f7
  have s7 : Same H H7 := Fr.same s5 nH5 f7
  clear f7 e5 s5 g5 eD5 e45 eD' e4 g4' s4' nD eD g4 s4
  -- what is told
  refine ⟨_, rfl, l4, zs, rfl, SqL.of e47, Nat.le_trans hl2 (by decide), fun H8 p8 u8 n8 e8 => ?_⟩
  have sh := most_sh hl2
  have dp : ∀ {Hx : Hp} {p : Addr}, Hx p = some (.lst ((mostM zs).map V.int)) → Dp K Hx (.ref p) (.list ((mostM zs).map PyData.int)) := fun e => .lst (SqL.of e) (dpi _)
  have ds : ∀ {Hx : Hp} {p : Addr}, Hx p = some (.lst (zs.map V.str)) → Dp K Hx (.ref p) (.list (zs.map PyData.str)) := fun e => .lst (SqL.of e) (dp_strs _)
  have hsz := shaped_strs zs (kd_ok zs hz)
  refine ⟨_, rfl, _, rfl, p8, l5, _, rfl, dp e8, dp (u8 _ _ e7), sh, _, rfl, iteF ⟨_, rfl, _, rfl, _, _, ds (u8 _ _ e47), ds (u8 _ _ eD7), hsz, hsz, _, rfl, ?_⟩⟩
  rw [SeqAt.eqv_refl _ (SeqAt.canLay_of_shaped hsz)]
  refine iteF ?_
  -- it is changed
  refine ⟨_, rfl, .inl ⟨rfl, _, SqL.of e8⟩, p8, _, _, rfl, rfl, e8, ?_, ?_⟩
  · rw [List.length_map, mostM_len]
    exact Nat.lt_of_le_of_lt hl2 (by decide)
  have n58 : l5 ≠ p8 := ne_of_none e7 n8
  have n48 : l4 ≠ p8 := ne_of_none e47 n8
  have nb8 : b ≠ p8 := g7.ne n8
  have f9 : Fr p8 H8 (upd H8 p8 (.lst ((mostM zs).map V.int ++ [.int 0]))) := Fr.upd _
  have e79 := f9 _ _ n58 (u8 _ _ e7)
  have e49 := f9 _ _ n48 (u8 _ _ e47)
  have g9 := (g7.keep u8).fr nb8 f9
  have s9 : Same H (upd H8 p8 (.lst ((mostM zs).map V.int ++ [.int 0]))) := Fr.same (s7.trans u8) (s7.free n8) f9
  change tSeq _ _ _ _ (upd H8 p8 (.lst ((mostM zs).map V.int ++ [.int 0])))
  generalize upd H8 p8 (.lst ((mostM zs).map V.int ++ [.int 0])) = H9 at e79 e49 g9 s9 ⊢
  clear f9 u8 e8 n8 g7 s7 e47 e7 eD7 n5b n5D n54 n58 n48 nb8
  -- told again, and of two lists
  refine ⟨_, rfl, l4, zs, rfl, SqL.of e49, Nat.le_trans hl2 (by decide), fun H10 p10 u10 n10 e10 => ⟨_, rfl, p10, l5, _, rfl, dp e10, dp (u10 _ _ e79), sh, _, rfl, iteF ?_⟩⟩
  refine ⟨(by show 0 ≤ sizeLine; decide), fun la na => ⟨la, [], rfl, SqL.of upd_same, by decide, fun H11 p11 u11 n11 e11 => ⟨(by show 0 ≤ sizeLine; decide), fun lb nlb => ?_⟩⟩⟩
  have ua := same_new na (.lst [])
  have ub := same_new nlb (.lst [])
  refine ⟨.list [], .list [], .lst (SqL.of (ub _ _ e11)) .nil, .lst (SqL.of upd_same) .nil, by decide +kernel, by decide +kernel, _, rfl, ?_⟩
  rw [SeqAt.eqv_refl _ (by decide +kernel)]
  refine iteF ⟨(by show 2 ≤ sizeLine; decide), fun lc nlc => ⟨lc, ["teller", "teller"], rfl, SqL.of upd_same, by decide, fun H12 p12 u12 n12 e12 => ⟨(by show 2 ≤ sizeLine; decide), fun ld nld => ?_⟩⟩⟩
  have uc := same_new nlc (.lst [.str "teller", .str "teller"])
  have ud := same_new nld (.lst [.int 1, .int 2])
  have em : mostM ["teller", "teller"] = [1, 2] := by decide +kernel
  rw [em] at e12
  refine ⟨.list [.int 1, .int 2], .list [.int 1, .int 2], .lst (SqL.of (ud _ _ e12)) (.cons (.int _) (.cons (.int _) .nil)), .lst (SqL.of upd_same) (.cons (.int _) (.cons (.int _) .nil)), by decide +kernel, by decide +kernel, _, rfl, ?_⟩
  rw [SeqAt.eqv_refl _ (by decide +kernel)]
  refine iteF ?_
  have uz : Same H9 (upd H12 ld (.lst [.int 1, .int 2])) := u10.trans (ua.trans (u11.trans (ub.trans (uc.trans (u12.trans ud)))))
  have sA : Same H (upd H12 ld (.lst [.int 1, .int 2])) := s9.trans uz
  change tSeq _ _ _ _ (upd H12 ld (.lst [.int 1, .int 2]))
  generalize upd H12 ld (.lst [.int 1, .int 2]) = HA at sA ⊢
  clear uz ud uc ub ua e79 e49 g9 s9 e10 e11 e12 n10 n11 n12 nld nlc nlb na u10 u11 u12 sh dp ds hsz hl hl2 hz
  -- the second bag, a house
  refine ⟨_, rfl, a, ns, 1, rfl, Same.seq sA hS, h63, by decide, fun HB b2 uB nb2 gB => ?_⟩
  have fz := tup_fz HB
  have fb2 : tupH HB b2 = none := gB.tupH
  refine fun x dx nx ndx ne => ⟨x, dx, tupH HB, rfl, upd_same, (fz.made nx ndx).fz, fz.out nx, fun F1 HC de pa A hou nde npa => ⟨rfl, ?_⟩⟩
  refine ⟨(by show 2 ≤ sizeLine; decide), fun tp ntp => ⟨tp, _, rfl, SqT.of upd_same, rfl, ⟨_, _, rfl, _, _, rfl, rfl, ?_⟩⟩⟩
  have b2x : b2 ≠ x := gB.ne nx
  have b2d : b2 ≠ dx := gB.ne ndx
  have gC : Bg 0 HC b2 := by
    obtain ⟨c1, t1, k1', e, r⟩ := gB
    exact ⟨c1, t1, k1', A.kh b2 _ (by simp; exact b2x) (by rw [upd_ne b2x, upd_ne b2d]; exact e), r⟩
  have nHb2 : H b2 = none := sA.free (nb2)
  have sHC : Same H HC := fun p o e => by
    have e2 := uB _ _ (sA _ _ e)
    have p1 : p ≠ x := ne_of_none e2 nx
    exact A.kh p o (by simp; exact p1) (by rw [upd_ne p1, upd_ne (ne_of_none e2 ndx)]; exact e2)
  have fF1 : F1 b2 = none := A.off (by rw [upd_ne b2x, upd_ne b2d]; obtain ⟨o, e⟩ := gB.ex; rw [e]; simp) fb2
  have sF1 : Same F1 HC := A.fz.sm
  have deb : de ≠ b2 := fun e => by
    rw [e, upd_ne b2x, upd_ne b2d] at nde
    obtain ⟨o, eo⟩ := gB.ex
    rw [eo] at nde
    cases nde
  have pab : pa ≠ b2 := fun e => by
    rw [e, upd_ne b2x, upd_ne b2d] at npa
    obtain ⟨o, eo⟩ := gB.ex
    rw [eo] at npa
    cases npa
  clear A fz fb2 ne nde npa
  have ud := same_new ntp (.tup [.ref b2, .ref x])
  have gD := gC.keep ud
  have kD : Fr b2 HC (upd HC tp (.tup [.ref b2, .ref x])) := Fr.of ud
  change tSeq _ _ _ _ (upd HC tp (.tup [.ref b2, .ref x]))
  generalize upd HC tp (.tup [.ref b2, .ref x]) = HD at gD kD ⊢
  clear ud
  -- the busiest programs
  refine ⟨_, rfl, b2, 8, 0, rfl, gD, by decide, tm (by decide), by decide, fun HE u fE gE u0 u1 => ⟨_, _, rfl, rfl, ?_⟩⟩
  have kE := kD.trans fE
  obtain ⟨n, hn⟩ : ∃ n : Nat, 1 + u = n := ⟨(1 + u).toNat, by omega⟩
  have n1 : 1 ≤ n := by omega
  have n8 : n ≤ 8 := by omega
  refine (show tSeq _ _ _ (List.set _ 2 (some (V.int (1 + u)))) HE from ?_)
  rw [hn]
  clear u0 u1 hn
  refine ⟨_, rfl, n, rfl, n1, n8, fun HG p7 ys uG nG eG dG => ?_⟩
  have hlen : ys.length = n := by rw [dpAll_len dG, progs_len]
  have kG := kE.trans (Fr.of uG)
  have gG := gE.keep uG
  have nC7 : HC p7 = none := by obtain ⟨o, e⟩ := gE.ex; exact kE.free e nG
  have dl : ∀ {Hx : Hp}, Same HG Hx → Dp K Hx (.ref p7) (.list (progsD n)) := fun sx => .lst (SqL.of (sx _ _ eG)) (dpAll_mono sx _ _ dG)
  have row : ∀ {i : Nat} {y : V}, ys[i]? = some y → ∃ t xs d, y = .ref t ∧ SqT K HG t xs ∧ xs[0]? = some (.str "teller") ∧ Dp K HG y d ∧ isProg d = true ∧ Lay d := fun {i y} hy => by
    obtain ⟨d, hd, dp⟩ := dpAll_get dG hy
    obtain ⟨p1, p2, e, rfl⟩ := progs_ok n8 d (List.mem_of_getElem? hd)
    obtain ⟨t, xs, rfl, ht, ha⟩ := dp_tup_inv dp
    obtain ⟨x0, x1, rfl, hx0, hx1⟩ := dp_pair ha
    cases hx0
    exact ⟨t, _, _, rfl, ht, rfl, dp, p1, p2⟩
  have n7b : p7 ≠ b2 := (gE.ne nG).symm
  clear uG fE gE kE gD kD
  have d7 := dl (Same.refl HG)
  refine ⟨_, rfl, .ref p7, .ty "list", _, _, _, rfl, .ty _, dp_ty d7, kit_isT (.list (progsD n)) (by simp) (dp_nd d7), _, rfl, ?_⟩
  rw [show isT (.list (progsD n)) "list" = true from rfl]
  refine iteF ⟨_, rfl, p7, ys, rfl, .inl (SqL.of eG), _, rfl, rfl, _, rfl, ?_⟩
  refine iteNS (show V.int ((ys.length : Nat) : Int) = V.int ((n : Nat) : Int) from by rw [hlen]) ?_
  refine ⟨_, rfl, p7, rfl, ⟨_, SqL.of eG⟩, fun D1 nD1 => lc_it (walk_list (K := K) (a := p7) (xs := ys)) (fun i Hx => Same HG Hx ∧ Hx D1 = some (.lst (List.replicate i (V.str "teller")))) ⟨same_new nD1 _, upd_same⟩ (fun i Hx _ ⟨sx, _⟩ => SqL.of (sx _ _ eG)) ?_ ?_⟩
  · rintro i y Hx Hy hi ⟨sx, eD⟩ ⟨rfl, hy⟩
    obtain ⟨t, xs, d, rfl, ht, h0, _⟩ := row hy
    refine ⟨rfl, ?_⟩
    refine (show _ from ⟨_, rfl, t, xs, 0, _, rfl, rfl, Same.tup sx ht, atI_nat (j := 0) h0, _, eD, ?_, same_upd sx nD1 _, ?_⟩)
    · rw [List.length_replicate]
      exact Nat.lt_of_lt_of_le hi (Nat.le_trans (by omega) (by decide : 8 ≤ sizeLine))
    · rw [upd_same, rep_snoc]
  rintro HI ⟨sI, eI⟩
  rw [hlen] at eI
  refine ⟨(by show 1 ≤ sizeLine; decide), fun lx nlx => ⟨_, rfl, lx, (n : Nat), [.str "teller"], rfl, rfl, upd_same, Int.le_trans (by decide) (Int.natCast_nonneg n), Int.lt_of_le_of_lt (by omega : ((n : Nat) : Int) ≤ 8) (by decide), ?_, fun ly nly => ?_⟩⟩
  · rw [Int.toNat_natCast]
    exact Nat.le_trans (by show 1 * n ≤ 8; omega) (by decide)
  have hZ : SeqAt.shaped (.list ((List.replicate n ("teller" : Str)).map PyData.str)) = true := shaped_strs _ (kd_ok _ fun z m => .inl (List.mem_replicate.mp m).2)
  have ux := same_new nlx (.lst [.str "teller"])
  have uy := same_new nly (.lst (List.replicate ((n : Nat) : Int).toNat [V.str "teller"]).flatten)
  have efl : (List.replicate ((n : Nat) : Int).toNat [V.str "teller"]).flatten = (List.replicate n ("teller" : Str)).map V.str := by
    rw [Int.toNat_natCast, map_rep]
    exact List.flatten_replicate_singleton
  rw [← map_rep] at eI
  refine ⟨_, _, .lst (SqL.of (uy _ _ (ux _ _ eI))) (dp_strs (List.replicate n ("teller" : Str))), .lst (SqL.of (by rw [upd_same, efl])) (dp_strs (List.replicate n ("teller" : Str))), hZ, hZ, _, rfl, ?_⟩
  rw [SeqAt.eqv_refl _ (SeqAt.canLay_of_shaped hZ)]
  refine iteF ?_
  have sJ : Same HG (upd (upd HI lx (.lst [.str "teller"])) ly (.lst (List.replicate ((n : Nat) : Int).toNat [V.str "teller"]).flatten)) := sI.trans (ux.trans uy)
  change tSeq _ _ _ _ (upd (upd HI lx (.lst [.str "teller"])) ly (.lst (List.replicate ((n : Nat) : Int).toNat [V.str "teller"]).flatten))
  generalize upd (upd HI lx (.lst [.str "teller"])) ly (.lst (List.replicate ((n : Nat) : Int).toNat [V.str "teller"]).flatten) = HJ at sJ ⊢
  clear ux uy efl hZ eI sI nlx nly
  -- all of them are programs
  refine ⟨_, rfl, p7, rfl, ⟨_, SqL.of (sJ _ _ eG)⟩, fun D2 nD2 => lc_it (walk_list (K := K) (a := p7) (xs := ys)) (fun i Hx => Same HG Hx ∧ Hx D2 = some (.lst (List.replicate i (V.bl true)))) ⟨sJ.trans (same_new nD2 _), upd_same⟩ (fun i Hx _ ⟨sx, _⟩ => SqL.of (sx _ _ eG)) ?_ ?_⟩
  · rintro i y Hx Hy hi ⟨sx, eD⟩ ⟨rfl, hy⟩
    obtain ⟨t, xs, d, rfl, ht, h0, dp, p1, p2⟩ := row hy
    refine ⟨rfl, ?_⟩
    refine (show _ from ⟨_, rfl, .ref t, d, rfl, dp_mono sx _ _ dp, p2, fun Hz sz => ⟨_, sz _ _ eD, ?_, same_upd (sx.trans sz) (sJ.free nD2) _, ?_⟩⟩)
    · rw [List.length_replicate]
      exact Nat.lt_of_lt_of_le hi (Nat.le_trans (by omega) (by decide : 8 ≤ sizeLine))
    · rw [upd_same, p1, rep_snoc]
  rintro HK ⟨sK, eK⟩
  rw [hlen, ← map_repB] at eK
  refine ⟨D2, _, rfl, SqL.of eK, _, rfl, ?_⟩
  rw [rep_all]
  refine iteF ?_
  -- shown, cleared, made again
  refine ⟨_, rfl, p7, _, rfl, dl sK, progs_sh n8, ?_⟩
  have eG7 := sK _ _ eG
  refine ⟨_, rfl, .inl ⟨rfl, _, SqL.of eG7⟩, p7, _, rfl, rfl, eG7, ?_⟩
  have kL : Fr b2 HC (upd HK p7 (.lst [])) := (kG.trans (Fr.of sK)).nw nC7 (Fr.upd _)
  have gL := (gG.keep sK).upd n7b (.lst [])
  change tSeq _ _ _ _ (upd HK p7 (.lst []))
  generalize upd HK p7 (.lst []) = HL at kL gL ⊢
  clear sK eK eG7 sJ nD2 nD1 row dl d7 dG eG gG kG
  refine ⟨_, rfl, n, rfl, n1, n8, fun HM p8 zs8 uM nM eM dM => ⟨p8, _, rfl, .lst (SqL.of eM) dM, progs_sh n8, _, rfl, rfl, _, rfl, ?_⟩⟩
  refine iteNS rfl ?_
  have kM := kL.trans (Fr.of uM)
  have gM := gL.keep uM
  have sM : Same H HM := Fr.same sHC nHb2 kM
  -- the third bag, what is no number of steps
  refine ⟨_, rfl, a, ns, 2, rfl, Same.seq sM hS, h63, by decide, fun HN b3 uN nN gN => ?_⟩
  have kN := kM.trans (Fr.of uN)
  have nC3 : HC b3 = none := by obtain ⟨o, e⟩ := gM.ex; exact kM.free e nN
  clear uM nM eM dM uN kL gL kM gM
  refine ⟨(by show 1 ≤ sizeLine; decide), fun t1 nt1 => ⟨(by show 1 ≤ sizeLine; decide), fun l1 nl1 => ⟨1, rfl, _, rfl, _, _, rfl, rfl, ⟨by decide, by decide, by decide⟩, b3, _, 0, rfl, (gN.keep (same_new nt1 _)).keep (same_new nl1 _), by decide, tm (by decide), by decide, fun Ho u2 fO gO v0 v1 => ⟨_, _, rfl, rfl, (by show 8 ≤ sizeLine; decide), fun l8 nl8 => ⟨_, rfl, b3, 8, _, rfl, gO.keep (same_new nl8 _), by decide, tm (by decide), by decide, fun Hq r8 fP gP w0 w1 => ?_⟩⟩⟩⟩⟩
  have n3t : t1 ≠ b3 := (gN.ne nt1).symm
  have n3l : l1 ≠ b3 := ((gN.keep (same_new nt1 (.tup [.int 1]))).ne nl1).symm
  have n38 : l8 ≠ b3 := (gO.ne nl8).symm
  have et := fP t1 _ n3t (same_new nl8 _ _ _ (fO t1 _ n3t (same_new nl1 _ _ _ upd_same)))
  have el := fP l1 _ n3l (same_new nl8 _ _ _ (fO l1 _ n3l upd_same))
  have e8 := fP l8 _ n38 upd_same
  have kP : Fr b2 HC Hq := ((((kN.trans (Fr.of (same_new nt1 _))).trans (Fr.of (same_new nl1 _))).nw nC3 fO).trans (Fr.of (same_new nl8 _))).nw nC3 fP
  obtain ⟨v, d, hv, hd, h1, h0⟩ : ∃ v d, atI [V.bl true, V.bl false, V.non, V.str "1", V.ref t1, V.ref l1, V.int (-1 - u2), V.str ""] r8 = some v ∧ Dp K Hq v d ∧ intIn d 1 8 = false ∧ intIn d 0 mostSteps = false := by
    have : r8 = 0 ∨ r8 = 1 ∨ r8 = 2 ∨ r8 = 3 ∨ r8 = 4 ∨ r8 = 5 ∨ r8 = 6 ∨ r8 = 7 := by omega
    rcases this with rfl | rfl | rfl | rfl | rfl | rfl | rfl | rfl
    · exact ⟨_, _, rfl, .bl _, rfl, rfl⟩
    · exact ⟨_, _, rfl, .bl _, rfl, rfl⟩
    · exact ⟨_, _, rfl, .non, rfl, rfl⟩
    · exact ⟨_, _, rfl, .str _, rfl, rfl⟩
    · exact ⟨_, _, rfl, .tup (SqT.of et) (.cons (.int 1) .nil), rfl, rfl⟩
    · exact ⟨_, _, rfl, .lst (SqL.of el) (.cons (.int 1) .nil), rfl, rfl⟩
    · refine ⟨_, _, rfl, .int _, ?_, ?_⟩
      · show (decide (1 ≤ -1 - u2) && decide (-1 - u2 ≤ 8)) = false
        rw [decide_eq_false (by omega)]
        rfl
      · show (decide (0 ≤ -1 - u2) && decide (-1 - u2 ≤ mostSteps)) = false
        rw [decide_eq_false (by omega)]
        rfl
    · exact ⟨_, _, rfl, .str _, rfl, rfl⟩
  refine ⟨l8, _, r8, v, rfl, rfl, SqL.of e8, hv, ?_⟩
  clear et el e8 fP fO nl8 nl1 nt1 n3t n3l n38 hv
  -- each of four is refused in three ways
  obtain ⟨⟨dxh, st, ho, hSt⟩, hd2, hp2, f1, f2, f3, nn⟩ := id hou
  have b2x' : x ≠ b2 := b2x.symm
  have hoq := kP _ _ b2x' ho
  refine ⟨_, rfl, 1, rfl, _, _, rfl, rfl, ⟨by decide, by decide, by decide⟩, _, _, rfl, rfl, _, _, rfl, rfl, ⟨by decide, by decide, by decide⟩, _, _, rfl, rfl, ⟨by decide, by decide, by decide⟩, _, _, rfl, rfl, (by unfold CMulW; decide +kernel), (by show 4 ≤ sizeLine; decide), fun lt nlt => ?_⟩
  have ut := same_new nlt (.lst [v, .int (-1), .int (10 ^ (60 : Int).toNat + 1), .int (10 ^ (49 : Int).toNat * 10 ^ (50 : Int).toNat)])
  have elt : (upd Hq lt (.lst [v, .int (-1), .int (10 ^ (60 : Int).toNat + 1), .int (10 ^ (49 : Int).toNat * 10 ^ (50 : Int).toNat)])) lt = some (.lst [v, .int (-1), .int (10 ^ (60 : Int).toNat + 1), .int (10 ^ (49 : Int).toNat * 10 ^ (50 : Int).toNat)]) := upd_same
  refine ⟨lt, rfl, ⟨_, SqL.of elt⟩, for_it (walk_list (K := K) (a := lt) (xs := [v, .int (-1), .int (10 ^ (60 : Int).toNat + 1), .int (10 ^ (49 : Int).toNat * 10 ^ (50 : Int).toNat)])) (fun i σ Hx => ∃ s11 : Option V, σ = [some (.ref a), some (.ref b3), some (.int (n : Nat)), some (.ref D), some (.ref l4), some (.ref l5), s6, some (.ref p7), some (.ref x), some (.str (PyData.list (progsD n)).shown), some v, s11, none, none, none] ∧ Same Hq Hx ∧ Hx lt = some (.lst [v, .int (-1), .int (10 ^ (60 : Int).toNat + 1), .int (10 ^ (49 : Int).toNat * 10 ^ (50 : Int).toNat)])) ⟨none, rfl, ut, elt⟩ (fun i σ Hx _ ⟨_, _, _, e⟩ => SqL.of e) ?_ ?_⟩
  · rintro i y σ Hx Hy hi ⟨s11, rfl, sx, ex⟩ ⟨rfl, hy⟩
    obtain ⟨d', hd', q1, q0⟩ : ∃ d', Dp K Hy y d' ∧ intIn d' 1 8 = false ∧ intIn d' 0 mostSteps = false := by
      have : i = 0 ∨ i = 1 ∨ i = 2 ∨ i = 3 := by
        have : i < 4 := hi
        omega
      rcases this with rfl | rfl | rfl | rfl
      · cases hy
        exact ⟨d, dp_mono sx _ _ hd, h1, h0⟩
      · cases hy
        exact ⟨_, .int _, by decide +kernel, by decide +kernel⟩
      · cases hy
        exact ⟨_, .int _, by decide +kernel, by decide +kernel⟩
      · cases hy
        exact ⟨_, .int _, by decide +kernel, by decide +kernel⟩
    refine ⟨3, rfl, by decide, by decide, fun D3 nD3 => lc_it (walk_range (lo := 0) (n := (3 : Int).toNat)) (fun j Hz => Same Hy Hz ∧ Hz D3 = some (.lst (List.replicate j (V.bl true)))) ⟨same_new nD3 _, upd_same⟩ (fun _ _ _ _ => trivial) ?_ ?_⟩
    · rintro j z Hz Hw hj ⟨sz, eD⟩ ⟨rfl, rfl⟩
      refine ⟨rfl, ?_⟩
      refine (show _ from ⟨_, rfl, _, rfl, _, rfl, x, dxh, _, y, d', _, rfl, sz _ _ (sx _ _ hoq), rfl, dp_mono sz _ _ hd', (fun _ => q1), (fun _ => q0), fun Hw sw => ⟨_, sw _ _ eD, ?_, same_upd (sz.trans sw) nD3 _, ?_⟩⟩)
      · rw [List.length_replicate]
        exact Nat.lt_of_lt_of_le hj (by decide)
      · rw [upd_same, rep_snoc]
    · rintro Hz ⟨sz, eD⟩
      rw [← map_repB] at eD
      refine ⟨D3, _, rfl, SqL.of eD, _, rfl, ?_⟩
      rw [rep_all]
      exact iteF ⟨_, rfl, sx.trans sz, sz _ _ ex⟩
  rintro σ Hr ⟨s11, rfl, sr, _⟩
  refine ⟨_, rfl, x, dxh, _, .int 0, .int 0, 0, rfl, sr _ _ hoq, rfl, .int 0, (fun _ => by decide), (fun e => absurd rfl e), fun Hs ss => ⟨_, rfl, iteF ?_⟩⟩
  have gS := (gP.keep sr).keep ss
  refine ⟨_, rfl, _, rfl, _, _, rfl, rfl, ⟨by decide, by decide, by decide⟩, b3, _, _, rfl, gS, by decide, tm (by decide), by decide, fun Ht u3 fT gT x0 x1 => ?_⟩
  have kT := (kP.trans (Fr.of (sr.trans ss))).nw nC3 fT
  have hot := kT _ _ b2x' ho
  refine ⟨_, _, rfl, rfl, x, dxh, _, .int (9 + u3), .int (9 + u3), 0, rfl, hot, rfl, .int _, (fun _ => ?_), (fun e => absurd rfl e), fun Hu su => ⟨_, rfl, iteF ?_⟩⟩
  · show (decide (1 ≤ 9 + u3) && decide (9 + u3 ≤ 8)) = false
    rw [decide_eq_false (show ¬ 9 + u3 ≤ 8 by omega), Bool.and_false]
  have kU := kT.trans (Fr.of su)
  have hou2 : HouR K F1 Hu c x de pa emptyM [] [] false := by
    obtain ⟨vs0, ev, dv⟩ := hd2
    obtain ⟨us0, eu, du⟩ := hp2
    exact ⟨⟨dxh, st, kU _ _ b2x' ho, hSt⟩, ⟨vs0, kU _ _ deb ev, dv⟩, ⟨us0, kU _ _ pab eu, du⟩, f1, f2, f3, nn⟩
  have sU : Same F1 Hu := fun p o e => kU p o (ne_of_none e fF1) (sF1 p o e)
  refine ⟨_, rfl, x, dxh, _, rfl, kU _ _ b2x' ho, rfl, x, de, pa, F1, emptyM, [], [], false, rfl, sU, hou2, rfl, _, rfl, ?_⟩
  rw [show decide (V.int emptyM.now = V.int 0) = true from decide_eq_true rfl]
  refine iteT ⟨_, rfl, x, dxh, _, rfl, kU _ _ b2x' ho, rfl, x, de, pa, F1, emptyM, [], [], false, rfl, hou2, fun p xs np dd => ⟨(by show 0 ≤ sizeLine; decide), fun lz nz => ?_⟩⟩
  cases dd
  refine ⟨.list [], .list [], .lst (SqL.of (same_new nz _ _ _ upd_same)) .nil, .lst (SqL.of upd_same) .nil, by decide +kernel, by decide +kernel, ?_⟩
  rw [SeqAt.eqv_refl _ (by decide +kernel)]
  exact q _
end
end My

namespace My
open PySem PySem.Spec PyProof.Rows L2
/-! ### the end of a proof whose law compares by repr: the law is called where no repr is under way -/
theorem kit_s47 {K : PySem.W.Frag} {D : Addr} : PySem.W.kitOne K (.ref D) (.ref D) = some true := by
  unfold PySem.W.kitOne
  rw [if_pos (beq_self_eq_true _)]
theorem kit_n47 {K : PySem.W.Frag} {D C : Addr} (hs : PySem.W.subIn K (.ref D) (.ref D) = some true) (hd : PySem.W.hasDictIn K C = true) (ht : PySem.W.typeIn K (.ref C) = some (.type "type")) (hf : PySem.W.subIn K (.ref D) (.ref C) = some false) : PySem.W.kitOne K (.ref D) (.ref C) = some false := by
  obtain ⟨cd, hc, _⟩ := PySem.W.any_some hd
  unfold PySem.W.kitOne
  rw [if_neg (fun q => by have e := Value.ref.inj (beq_iff_eq.mp q); subst e; rw [hs] at hf; cases hf)]
  have e2 : ((PySem.W.clsIn K C).isSome && PySem.W.typeIn K (.ref C) == some (.type "type")) = true := by rw [hc, ht] <;> rfl
  show (if ((PySem.W.clsIn K C).isSome && PySem.W.typeIn K (.ref C) == some (.type "type")) = true then PySem.W.subIn K (.ref D) (.ref C) else none) = some false
  rw [if_pos e2]
  exact hf
theorem kit_t47 {K : PySem.W.Frag} {D : Addr} {T : String} {b : Bool} (hm : PySem.W.kitMeta T = true) (hs : PySem.W.subIn K (.ref D) (.type T) = some b) : PySem.W.kitOne K (.ref D) (.type T) = some b := by
  unfold PySem.W.kitOne
  have hn : ¬ (Value.ref D == Value.type T) = true := fun q => by have e := beq_iff_eq.mp q; cases e
  rw [if_neg hn]
  show (if PySem.W.kitMeta T = true then PySem.W.subIn K (.ref D) (.type T) else none) = some b
  rw [if_pos hm]
  exact hs
/-- what must be known of the tracked heap that a law starts with: at most the script is tracked -/
structure StartH (P : Program) (w : World) (K : PySem.W.Frag) (h : Heap) (a : Addr) (ns : List Int) (H : Hp) : Prop where
  only : Only H
  seq : SqL K H a (ns.map V.int)
  ok : HOk P w H h
  at_ : ∀ b, H b ≠ none → b = a
  free : H a ≠ none → K.lookup a = none
theorem startH {P : Program} {w : World} {K : PySem.W.Frag} {h : Heap} {a : Addr} {vs : List Value} {ns : List Int} (KX : K.In h) (ha : h.get? a = some { cls := .type "list", data := .seq vs.toArray }) (hi : IntsAre vs ns) (hl : ns.length ≤ sizeLine) : ∃ H, StartH P w K h a ns H := by
  have rv := vals_ints hi
  cases hk : K.lookup a with
  | some o =>
    have e := KX a o hk
    rw [ha] at e
    cases e
    exact ⟨fun _ => none, fun _ => .inl rfl, .inr ⟨_, vs.toArray, _, hk, rfl, rfl, rfl, by rw [List.size_toArray, hi.length]; exact hl, by simpa using rv⟩, (fun b u z => nomatch (show (none : Option HO) = some u from z)), fun b z => absurd rfl z, fun z => absurd rfl z⟩
  | none =>
    have me : ∀ b, b ≠ a → (if b = a then some (HO.frz { cls := .type "list", data := .seq vs.toArray } (.lst (ns.map V.int))) else none) = none := fun b n => if_neg n
    refine ⟨fun b => if b = a then some (.frz { cls := .type "list", data := .seq vs.toArray } (.lst (ns.map V.int))) else none, fun b => ?_, .inl (.inr ⟨_, if_pos rfl⟩), fun b u z => ?_, fun b z => ?_, fun _ => hk⟩
    · by_cases c : b = a
      · exact .inr ⟨_, _, if_pos c⟩
      · exact .inl (if_neg c)
    · by_cases c : b = a
      · subst c
        obtain rfl : (HO.frz { cls := .type "list", data := .seq vs.toArray } (.lst (ns.map V.int))) = u := Option.some.inj ((if_pos rfl).symm.trans z)
        exact ⟨ha, by rw [List.length_map]; exact hl, vs, _, rv, ha⟩
      · exact nomatch (if_neg c).symm.trans z
    · by_cases c : b = a
      · exact c
      · exact absurd (if_neg c) z
theorem law_callG {P : Program} {w : World} {K : PySem.W.Frag} {mg mb : Str → Option Value} {k : Nat} {fa a : Addr} {fd : FuncData} {x : Str} {sp : Sp} {s₁ : Shared} {vs : List Value} {ns : List Int}
    (KX : K.In s₁.heap) (hns : s₁.heap.Ns mainGlobals mg) (hb : s₁.heap.Ns builtinsNs mb) (hbb : ∀ x : Str, x ≠ "__name__" → mb x = bootBuiltins x) (hlim : s₁.heap.NoLimit) (hg : s₁.gens = #[])
    (ha : s₁.heap.get? a = some { cls := .type "list", data := .seq vs.toArray }) (hi : IntsAre vs ns) (hl : ns.length ≤ sizeLine) (hr : Room k callerA)
    (F : ∀ base : Heap, K.In base → base.Ns mainGlobals mg → FnG P w K mg base CX0 k fa fd [x] sp) (hbind : ∀ (s : Shared) (u : Value), BindsTo s fd ⟨[u], []⟩ [(x, u)])
    (hsp : ∀ H : Hp, Only H → SqL K H a (ns.map V.int) → sp [.ref a] H (fun v _ => v = .bl true) fun _ _ _ => False) :
    codeAny (model P w) callerA (.call (.ref fa) ⟨[.ref a], []⟩) (fun r s' => r = .ok (.ret (.bool true)) ∧ OldK s₁.heap s'.heap ∧ s'.os = s₁.os ∧ AllBare s'.gens) s₁ := by
  obtain ⟨H, only, seq, hok, at_, free⟩ := startH (P := P) (w := w) KX ha hi hl
  -- what K or a namespace knows is not tracked
  have inK : ∀ b o, K.lookup b = some o → H b = none := fun b o e => by
    cases q : H b with
    | none => rfl
    | some u =>
      have eb : b = a := at_ b (by rw [q]; simp)
      rw [eb, free (by rw [← eb, q]; simp)] at e
      cases e
  have noDict : ∀ {b : Addr} {o : Obj} {es : Array DictEntry} {ep : Nat}, s₁.heap.get? b = some o → o.data = .dict es ep → H b = none := fun {b o es ep} e d => by
    cases q : H b with
    | none => rfl
    | some u =>
      have eb : b = a := at_ b (by rw [q]; simp)
      rw [eb, ha] at e
      cases e
      exact nomatch (show Data.seq vs.toArray _ = Data.dict es ep from d)
  have hid : ∀ {b : Addr} {m : Str → Option Value}, s₁.heap.Ns b m → (hidT s₁.heap H).Ns b m := fun {b m} ⟨o, es, ep, e, d, r⟩ => ⟨o, es, ep, hidT_get e (noDict e d), d, r⟩
  have KB : K.In (hidT s₁.heap H) := fun b o e => hidT_get (KX b o e) (inK b o e)
  have M : L2.Mod K mg (hidT s₁.heap H) := ⟨KB, hid hns, ⟨mb, hid hb, hbb⟩, let ⟨mc, h1, h2⟩ := hlim; ⟨mc, hid h1, h2⟩⟩
  have e0 : Env0 P w K mg (hidT s₁.heap H) callerA [] s₁ H := ⟨rfl, M, fun b o e => of_hidT e, Nat.le_of_eq (hidT_size _ _), trivial, fun b z => absurd (show b ∈ ([] : List Addr) from z) (by simp), hok, .of_eq hg⟩
  refine codeAny_mono ((F _ KB (hid hns)).run callerA rfl [] s₁ H ⟨[.ref a], []⟩ [.ref a] [.ref a] _ _ hr e0 (hbind s₁ (.ref a)) (.cons rfl .nil) (hsp H only seq)) fun r s' h => ?_
  match r, h with
  | .error _, h => exact h.elim
  | .ok .next, h => exact h.elim
  | .ok .brk, h => exact h.elim
  | .ok .cont, h => exact h.elim
  | .ok (.ret u), ⟨v, H', os, bare, un, hok', rv, q⟩ =>
    have q' : v = .bl true := q
    subst q'
    obtain rfl : u = Value.bool true := rv
    refine ⟨rfl, OldK.of_keep fun b o e => ?_, os, bare⟩
    rcases only b with z | ⟨ob, xs, z⟩
    · exact un.keep b o e z (fun y => absurd (show b ∈ ([] : List Addr) from y) (by simp)) (by simp)
    · obtain ⟨e1, _⟩ := hok b _ z
      obtain ⟨e2, _⟩ := hok' b _ (un.frzs b ob _ z)
      rw [e] at e1
      cases e1
      exact e2
end My

namespace My
open PySem PySem.Spec PyProof.Rows L2
/-! ### the top's facts, told by one run: answers by yes or no of a part of the heap, defs, written dicts -/
abbrev AlM : Type := Bool × He.AlT
def obsM (ex : PySem.W.Frag → Bool) (fn : List He.DefD) (ts : List He.Tab) (K : PySem.W.Frag) : AlM := (ex K, He.obsT [] fn ts K)
def valM (fn : List He.DefD) (ts : List He.Tab) (w : World) : AlM := (true, He.valT fn ts w)
def SaysM (ex : PySem.W.Frag → Bool) (fn : List He.DefD) (ts : List He.Tab) (w : World) (K : PySem.W.Frag) : Prop := obsM ex fn ts K = valM fn ts w
/-- all places of a heap, the module's names first -/
def down : Nat → List Addr
  | 0 => []
  | n + 1 => n :: down n
def obsMG (n : Nat) (ex : PySem.W.Frag → Bool) (fn : List He.DefD) (ts : List He.Tab) (g : Addr → Option Obj) : AlM := obsM ex fn ts (He.frG g (mainGlobals :: down n))
def hookM (ex : PySem.W.Frag → Bool) (fn : List He.DefD) (ts : List He.Tab) : PySem.W.Hook where
  α := AlM
  obs := fun s => obsMG s.heap.objs.size ex fn ts s.heap.get?
  val := fun w => valM fn ts w
  says := fun w h => ∃ K : PySem.W.Frag, K.In h ∧ SaysM ex fn ts w K
  of := fun _ _ e => ⟨_, He.frG_in, e⟩
  keeps := fun _ _ _ ⟨K, hK, c⟩ k => ⟨K, PySem.W.Frag.In.keeps hK k, c⟩
theorem obsMG_eq {ex : PySem.W.Frag → Bool} {fn : List He.DefD} {ts : List He.Tab} (s : PySem.W.SharedT) : obsMG s.n ex fn ts (HandSHeadRun.getT s) = (hookM ex fn ts).obs s.abs := by
  have e : HandSHeadRun.getT s = s.abs.heap.get? := funext (HandSHeadRun.getT_eq s)
  have en : s.abs.heap.objs.size = s.n := PySem.W.absHeap_size s.tree s.n s.life
  show obsMG s.n ex fn ts (HandSHeadRun.getT s) = obsMG s.abs.heap.objs.size ex fn ts s.abs.heap.get?
  rw [en, e]
section
variable {ex : PySem.W.Frag → Bool} {fn : List He.DefD} {ts : List He.Tab} {w : World} {K : PySem.W.Frag}
theorem SaysM.b (c : SaysM ex fn ts w K) : ex K = true := congrArg (fun z : AlM => z.1) c
theorem SaysM.t (c : SaysM ex fn ts w K) : He.SaysT [] fn ts w K := congrArg (fun z : AlM => z.2) c
theorem SaysM.d (c : SaysM ex fn ts w K) (i : Nat) {d : He.DefD} (h : fn[i]? = some d) : ∃ fd, FunD K d.name d.qual d.params d.body d.scope (d.dvs K) (d.kws K) (He.fAd K d.at_) fd := c.t.d.def_ i h
theorem SaysM.k (c : SaysM ex fn ts w K) (i : Nat) {t : He.Tab} (h : ts[i]? = some t) : ∃ es n, KDict K w (t.1 K) es n := c.t.tab i h
/-- a def without defaults -/
theorem fun_ofD {x qual : Str} {st : Stmt} {kws : List (Str × V)} {f : Addr} {fd : FuncData} (F : FunD K x qual (defArgs st) (defBody st) (defScope st) [] kws f fd) : Fun K x qual st f fd := by
  obtain ⟨oc, od, dV, kV, doc, pm, an, cdv, ct, osl, e, lk, hcd, hD, hK⟩ := F.ex
  rcases hD with ⟨_, rfl⟩ | ⟨z, _⟩
  · exact ⟨⟨oc, od, kV, doc, pm, an, cdv, ct, osl, e, lk, hcd⟩, F.kp⟩
  · exact absurd rfl z
/-- an int of the module -/
def intB (K : PySem.W.Frag) (a : Addr) (x : Str) (i : Int) : Bool := match PySem.W.nsIn K a x with
  | some (some (.int j _)) => decide (j = i)
  | _ => false
theorem intB_ok {a : Addr} {x : Str} {i : Int} (h : intB K a x i = true) : ∃ t, PySem.W.nsIn K a x = some (some (.int i t)) := by
  unfold intB at h
  cases e : PySem.W.nsIn K a x with
  | none => rw [e] at h; cases h
  | some o =>
    rw [e] at h
    cases o with
    | none => cases h
    | some v =>
      cases v with
      | int j t =>
        have ej : j = i := of_decide_eq_true h
        exact ⟨t, by rw [ej]⟩
      | _ => cases h
/-- a tuple at an address -/
def tupA (K : PySem.W.Frag) (a : Addr) (vs : List He.Dv) : Bool := match K.lookup a with
  | some ⟨.type c, _, .seq its _, _⟩ => decide (c = "tuple") && (decide (its.size ≤ sizeLine) && He.relAll (vs.map (He.Dv.v K)) its.toList)
  | _ => false
theorem tupA_ok {a : Addr} {vs : List He.Dv} (h : tupA K a vs = true) (H : Hp) : SqT K H a (vs.map (He.Dv.v K)) := by
  unfold tupA at h
  cases q : K.lookup a with
  | none => rw [q] at h; cases h
  | some o =>
    obtain ⟨oc, od, dt, osl⟩ := o
    rw [q] at h
    cases oc with
    | type c =>
      cases dt with
      | seq its n =>
        obtain ⟨h1, h2⟩ := He.ba (show (decide (c = "tuple") && (decide (its.size ≤ sizeLine) && He.relAll (vs.map (He.Dv.v K)) its.toList)) = true from h)
        obtain ⟨h3, h4⟩ := He.ba h2
        exact .inr ⟨_, its, n, q, congrArg Value.type (of_decide_eq_true h1), rfl, of_decide_eq_true h3, He.relAll_ok h4⟩
      | _ => cases h
    | _ => cases dt <;> cases h
/-- what a dict of the module has under a text -/
def atD (K : PySem.W.Frag) (a : Addr) (x : Str) : Addr := match PySem.W.nsIn K a x with
  | some (some (.ref b)) => b
  | _ => 0
def strIs (v : Value) (x : Str) : Bool := match v with
  | .str y _ => decide (y = x)
  | _ => false
def entB (K : PySem.W.Frag) : List DictEntry → List (Str × He.Dv) → Bool
  | [], [] => true
  | e :: es, p :: ps => strIs e.key p.1 && (He.relB (p.2.v K) e.val && entB K es ps)
  | _, _ => false
theorem entB_ok : ∀ {es : List DictEntry} {ps : List (Str × He.Dv)}, entB K es ps = true → Ents es (ps.map fun p => (p.1, p.2.v K))
  | [], [], _ => .nil
  | [], _ :: _, h => by cases h
  | _ :: _, [], h => by cases h
  | ⟨hh, k, v⟩ :: es, (x, d) :: ps, h => by
    obtain ⟨h1, h2⟩ := He.ba (show (strIs k x && (He.relB (d.v K) v && entB K es ps)) = true from h)
    obtain ⟨h3, h4⟩ := He.ba h2
    cases k with
    | str y t =>
      have e : y = x := of_decide_eq_true h1
      subst e
      exact .cons (He.relB_ok h3) (entB_ok h4)
    | _ => cases h1
def tabB (K : PySem.W.Frag) (a : Addr) (ps : List (Str × He.Dv)) : Bool := match K.lookup a with
  | some ⟨_, _, .dict es _, _⟩ => entB K es.toList ps
  | _ => false
theorem tabB_ok {a : Addr} {es : Array DictEntry} {n : Nat} {ps : List (Str × He.Dv)} (D : KDict K w a es n) (h : tabB K a ps = true) : KTab K w a (ps.map fun p => (p.1, p.2.v K)) := by
  unfold tabB at h
  rw [D.at_] at h
  exact ⟨⟨es, n, D.at_, D.lit, entB_ok h⟩, D.low⟩
end
theorem walk_ofH {l : PySem.W.OpenLaw} {n k : Nat} {q : Program} {loose : List Str} {XP : (Str → Option Value) → Heap → Prop} {YP : World → Heap → Prop} {d : DefRec} {x : Str}
    (hn : l.most = some n) (hn2 : n ≤ sizeLine) (hdf : d.params.defaults = []) (hr : Room k callerA)
    (F : ∀ (w : World) (mg : Str → Option Value) (fa : Addr) (h : Heap), YP w h → h.Ns mainGlobals mg → mg d.name = some (.ref fa) →
      ∃ (K : PySem.W.Frag) (fd : FuncData) (sp : Sp), K.In h ∧ (∀ (s : Shared) (u : Value), BindsTo s fd ⟨[u], []⟩ [(x, u)]) ∧
        (∀ (H : Hp) (a : Addr) (ns : List Int), ns.length ≤ n → Only H → SqL K H a (ns.map V.int) → sp [.ref a] H (fun v _ => v = .bl true) fun _ _ _ => False) ∧
        ∀ base : Heap, K.In base → base.Ns mainGlobals mg → FnG l.prog w K mg base CX0 k fa fd [x] sp) :
    PySem.W.WalkO q loose XP YP l.row.toRowW d [] (fun f vs => PySem.call f vs) := by
  refine Att.attach_call hn hdf fun w s₀ s₁ mg mb fa o pm cd doc a vs ns G Y ho hd hcd hmg hobj hints hlen hg => ?_
  obtain ⟨K, fd, sp, KX, hb, hsp, hF⟩ := F w mg fa _ Y G.T.g hmg
  exact law_callG KX G.T.g G.T.b G.T.builtins G.T.nolimit hg hobj hints (Nat.le_trans hlen hn2) hr hF hb fun H hO hS => hsp H a ns hlen hO hS
end My

namespace My
open PySem PySem.Spec PyProof.Rows L2
theorem all_mk {l : PySem.W.OpenLaw} {w : World} {K : PySem.W.Frag} {h : Heap} {mg : Str → Option Value} {fa : Addr} (X : K.In h) (G : h.Ns mainGlobals mg) (hfa : mg "law" = some (.ref fa))
    {fFrom : Addr}
    {fdFrom : FuncData}
    {fInt : Addr}
    {fdInt : FuncData}
    {fTerm : Addr}
    {fdTerm : FuncData}
    {fCond : Addr}
    {fdCond : FuncData}
    {fPart : Addr}
    {fdPart : FuncData}
    {fWord : Addr}
    {fdWord : FuncData}
    {fRoles : Addr}
    {fdRoles : FuncData}
    {fPlain : Addr}
    {fdPlain : FuncData}
    {fOut : Addr}
    {fdOut : FuncData}
    {fBodies : Addr}
    {fdBodies : FuncData}
    {fProg : Addr}
    {fdProg : FuncData}
    {fPur : Addr}
    {fdPur : FuncData}
    {fTak : Addr}
    {fdTak : FuncData}
    {fAlk : Addr}
    {fdAlk : FuncData}
    {fRf : Addr}
    {fdRf : FuncData}
    {fMo : Addr}
    {fdMo : FuncData}
    {fBu : Addr}
    {fdBu : FuncData}
    {fPa : Addr}
    {fdPa : FuncData}
    {fEmp : Addr}
    {fdEmp : FuncData}
    {fLaw : Addr}
    {fdLaw : FuncData}
    {tG : Tok}
    {tL : Tok}
    {tS : Tok}
    {tD : Tok}
    {aV : Addr}
    {aC : Addr}
    {aA : Addr}
    {aK : Addr}
    {aB : Addr}
    {aSh : Addr}
    {aSh0 : Addr}
    {aSh1 : Addr}
    {aSh2 : Addr}
    {aTe : Addr}
    {aTe0 : Addr}
    {aTe1 : Addr}
    {aCo : Addr}
    {aCo0 : Addr}
    {aCo1 : Addr}
    {cSt : Addr}
    {cHo : Addr}
    {fSnI : Addr}
    {fdSnI : FuncData}
    {fHoI : Addr}
    {fdHoI : FuncData}
    {fHoC : Addr}
    {fdHoC : FuncData}
    {fHoH : Addr}
    {fdHoH : FuncData}
    {fHoA : Addr}
    {fdHoA : FuncData}
    {tkMT : Tok}
    {tkMS : Tok}
    {aO : Addr}
    {cH : Addr}
    {cS : Addr}
    {cP : Addr}
    {cB : Addr}
    (aFrom : PySem.W.nsIn K mainGlobals "is_integer_from" = some (some (.ref fFrom)))
    (FFrom : Fun K "is_integer_from" "is_integer_from" sFrom fFrom fdFrom)
    (aInt : PySem.W.nsIn K mainGlobals "is_integer_from_to" = some (some (.ref fInt)))
    (FInt : Fun K "is_integer_from_to" "is_integer_from_to" sInt fInt fdInt)
    (aTerm : PySem.W.nsIn K mainGlobals "is_term" = some (some (.ref fTerm)))
    (FTerm : Fun K "is_term" "is_term" sTerm fTerm fdTerm)
    (aCond : PySem.W.nsIn K mainGlobals "is_condition" = some (some (.ref fCond)))
    (FCond : Fun K "is_condition" "is_condition" sCond fCond fdCond)
    (aPart : PySem.W.nsIn K mainGlobals "is_part" = some (some (.ref fPart)))
    (FPart : Fun K "is_part" "is_part" sPart fPart fdPart)
    (aWord : PySem.W.nsIn K mainGlobals "word_of" = some (some (.ref fWord)))
    (FWord : Fun K "word_of" "word_of" sWord fWord fdWord)
    (aRoles : PySem.W.nsIn K mainGlobals "roles_of" = some (some (.ref fRoles)))
    (FRoles : Fun K "roles_of" "roles_of" sRoles fRoles fdRoles)
    (aPlain : PySem.W.nsIn K mainGlobals "is_plain_statement" = some (some (.ref fPlain)))
    (FPlain : Fun K "is_plain_statement" "is_plain_statement" sPlain fPlain fdPlain)
    (aOut : PySem.W.nsIn K mainGlobals "is_outside_of_statement" = some (some (.ref fOut)))
    (FOut : Fun K "is_outside_of_statement" "is_outside_of_statement" sOut fOut fdOut)
    (aBodies : PySem.W.nsIn K mainGlobals "bodies_of" = some (some (.ref fBodies)))
    (FBodies : Fun K "bodies_of" "bodies_of" sBodies fBodies fdBodies)
    (aProg : PySem.W.nsIn K mainGlobals "is_program" = some (some (.ref fProg)))
    (FProg : Fun K "is_program" "is_program" sProg fProg fdProg)
    (aPur : PySem.W.nsIn K mainGlobals "_law_purse" = some (some (.ref fPur)))
    (FPur : Fun K "_law_purse" "_law_purse" sPur fPur fdPur)
    (aTak : PySem.W.nsIn K mainGlobals "_law_take" = some (some (.ref fTak)))
    (FTak : Fun K "_law_take" "_law_take" sTak fTak fdTak)
    (aAlk : PySem.W.nsIn K mainGlobals "_law_alike" = some (some (.ref fAlk)))
    (FAlk : Fun K "_law_alike" "_law_alike" sAlk fAlk fdAlk)
    (aRf : PySem.W.nsIn K mainGlobals "_law_refused" = some (some (.ref fRf)))
    (FRf : Fun K "_law_refused" "_law_refused" sRf fRf fdRf)
    (aMo : PySem.W.nsIn K mainGlobals "most_acts" = some (some (.ref fMo)))
    (FMo : Fun K "most_acts" "most_acts" sMost fMo fdMo)
    (aBu : PySem.W.nsIn K mainGlobals "busiest" = some (some (.ref fBu)))
    (FBu : Fun K "busiest" "busiest" sBus fBu fdBu)
    (aPa : PySem.W.nsIn K mainGlobals "patient_teller" = some (some (.ref fPa)))
    (FPa : Fun K "patient_teller" "patient_teller" sPat fPa fdPa)
    (aEmp : PySem.W.nsIn K mainGlobals "empty_standing" = some (some (.ref fEmp)))
    (FEmp : Fun K "empty_standing" "empty_standing" sEmp fEmp fdEmp)
    (aLaw : PySem.W.nsIn K mainGlobals "law" = some (some (.ref fLaw)))
    (FLaw : FunD K "law" "law" (defArgs sLaw) (defBody sLaw) (defScope sLaw) [] [] fLaw fdLaw)
    (zisinstance : PySem.W.nsIn K mainGlobals "isinstance" = some none)
    (zint : PySem.W.nsIn K mainGlobals "int" = some none)
    (zbool : PySem.W.nsIn K mainGlobals "bool" = some none)
    (zstr : PySem.W.nsIn K mainGlobals "str" = some none)
    (ztuple : PySem.W.nsIn K mainGlobals "tuple" = some none)
    (zlen : PySem.W.nsIn K mainGlobals "len" = some none)
    (zzip : PySem.W.nsIn K mainGlobals "zip" = some none)
    (zall : PySem.W.nsIn K mainGlobals "all" = some none)
    (zabs : PySem.W.nsIn K mainGlobals "abs" = some none)
    (zmax : PySem.W.nsIn K mainGlobals "max" = some none)
    (zmin : PySem.W.nsIn K mainGlobals "min" = some none)
    (zany : PySem.W.nsIn K mainGlobals "any" = some none)
    (zrange : PySem.W.nsIn K mainGlobals "range" = some none)
    (zlist : PySem.W.nsIn K mainGlobals "list" = some none)
    (zsum : PySem.W.nsIn K mainGlobals "sum" = some none)
    (zrepr : PySem.W.nsIn K mainGlobals "repr" = some none)
    (zValueError : PySem.W.nsIn K mainGlobals "ValueError" = some none)
    (gG : PySem.W.nsIn K mainGlobals "GREATEST_VALUE" = some (some (.int 15 tG)))
    (gL : PySem.W.nsIn K mainGlobals "LONGEST_WAIT" = some (some (.int longest tL)))
    (gS : PySem.W.nsIn K mainGlobals "MOST_STATEMENTS" = some (some (.int 24 tS)))
    (gD : PySem.W.nsIn K mainGlobals "MOST_DEPTH" = some (some (.int 4 tD)))
    (mV : PySem.W.nsIn K mainGlobals "VARIABLES" = some (some (.ref aV)))
    (qV : ∀ H, SqT K H aV [V.str "a", V.str "b"])
    (mC : PySem.W.nsIn K mainGlobals "CONDITION_SIGNS" = some (some (.ref aC)))
    (qC : ∀ H, SqT K H aC [V.str "==", V.str "!=", V.str "<"])
    (mA : PySem.W.nsIn K mainGlobals "ASK_SIGNS" = some (some (.ref aA)))
    (qA : ∀ H, SqT K H aA [V.str "+", V.str "-", V.str "="])
    (mK : PySem.W.nsIn K mainGlobals "KINDS" = some (some (.ref aK)))
    (qK : ∀ H, SqT K H aK [V.str "teller", V.str "collector"])
    (mB : PySem.W.nsIn K mainGlobals "BODIES" = some (some (.ref aB)))
    (qB : KTab K w aB [("if", V.int 2), ("while", V.int 1)])
    (mSh : PySem.W.nsIn K mainGlobals "SHARED_ROLES" = some (some (.ref aSh)))
    (qSh : KTab K w aSh [("set", V.ref aSh0), ("add", V.ref aSh1), ("wait", V.ref aSh2)])
    (qSh0 : ∀ H, SqT K H aSh0 [V.str "variable", V.str "value"])
    (qSh1 : ∀ H, SqT K H aSh1 [V.str "variable", V.str "term"])
    (qSh2 : ∀ H, SqT K H aSh2 [V.str "steps"])
    (mTe : PySem.W.nsIn K mainGlobals "TELLER_ROLES" = some (some (.ref aTe)))
    (qTe : KTab K w aTe [("ask", V.ref aTe0), ("answer", V.ref aTe1)])
    (qTe0 : ∀ H, SqT K H aTe0 [V.str "sign", V.str "term", V.str "variable"])
    (qTe1 : ∀ H, SqT K H aTe1 [V.str "answer"])
    (mCo : PySem.W.nsIn K mainGlobals "COLLECTOR_ROLES" = some (some (.ref aCo)))
    (qCo : KTab K w aCo [("grow", V.ref aCo0), ("list", V.ref aCo1)])
    (qCo0 : ∀ H, SqT K H aCo0 [V.str "term"])
    (qCo1 : ∀ H, SqT K H aCo1 [V.str "term"])
    (ucSt : PySem.W.nsIn K mainGlobals "Standing" = some (some (.ref cSt)))
    (ucHo : PySem.W.nsIn K mainGlobals "House" = some (some (.ref cHo)))
    (pgS : PySem.W.plainGet K cSt Str.empty = true)
    (hdS : PySem.W.hasDictIn K cSt = true)
    (poS : PySem.W.plainOver K cSt = true)
    (saS : PySem.W.findIn K (.ref cSt) "__setattr__" = some (some (.builtin "object.__setattr__")))
    (mkS : PySem.W.makesIn K cSt = true)
    (kcS : PySem.W.keepIn K (.ref cSt) = true)
    (nS_now : PySem.W.findIn K (.ref cSt) "now" = some none)
    (nS_sets : PySem.W.findIn K (.ref cSt) "sets" = some none)
    (nS_machines : PySem.W.findIn K (.ref cSt) "machines" = some none)
    (nS_ahead : PySem.W.findIn K (.ref cSt) "ahead" = some none)
    (nS_mark : PySem.W.findIn K (.ref cSt) "mark" = some none)
    (pgH : PySem.W.plainGet K cHo Str.empty = true)
    (hdH : PySem.W.hasDictIn K cHo = true)
    (poH : PySem.W.plainOver K cHo = true)
    (saH : PySem.W.findIn K (.ref cHo) "__setattr__" = some (some (.builtin "object.__setattr__")))
    (mkH : PySem.W.makesIn K cHo = true)
    (kcH : PySem.W.keepIn K (.ref cHo) = true)
    (nH_standing : PySem.W.findIn K (.ref cHo) "standing" = some none)
    (nH_deeds : PySem.W.findIn K (.ref cHo) "deeds" = some none)
    (nH_past : PySem.W.findIn K (.ref cHo) "past" = some none)
    (nH_busy : PySem.W.findIn K (.ref cHo) "busy" = some none)
    (aSnI : PySem.W.findIn K (.ref cSt) "__init__" = some (some (.ref fSnI)))
    (iSnI : PySem.W.isFn K (.ref fSnI) = true)
    (FSnI : Fun K "__init__" "Standing.__init__" sSnI fSnI fdSnI)
    (aHoI : PySem.W.findIn K (.ref cHo) "__init__" = some (some (.ref fHoI)))
    (iHoI : PySem.W.isFn K (.ref fHoI) = true)
    (FHoI : Fun K "__init__" "House.__init__" sHoI fHoI fdHoI)
    (aHoC : PySem.W.findIn K (.ref cHo) "clock" = some (some (.ref fHoC)))
    (iHoC : PySem.W.isFn K (.ref fHoC) = true)
    (FHoC : Fun K "clock" "House.clock" sHoC fHoC fdHoC)
    (aHoH : PySem.W.findIn K (.ref cHo) "history" = some (some (.ref fHoH)))
    (iHoH : PySem.W.isFn K (.ref fHoH) = true)
    (FHoH : Fun K "history" "House.history" sHoH fHoH fdHoH)
    (aHoA : PySem.W.findIn K (.ref cHo) "advance" = some (some (.ref fHoA)))
    (iHoA : PySem.W.isFn K (.ref fHoA) = true)
    (FHoA : FunD K "advance" "House.advance" (defArgs sHoA) (defBody sHoA) (defScope sHoA) [V.int 1] [("watch", V.non)] fHoA fdHoA)
    (gMT : PySem.W.nsIn K mainGlobals "MOST_TELLERS" = some (some (.int 8 tkMT)))
    (gMS : PySem.W.nsIn K mainGlobals "MOST_STEPS" = some (some (.int mostSteps tkMS)))
    (mO : PySem.W.nsIn K mainGlobals "OTHER_SIDE" = some (some (.ref aO)))
    (qO : KTab K w aO [("left", V.str "right"), ("right", V.str "left")])
    (rcH : PySem.W.nsIn K mainGlobals "HouseError" = some (some (.ref cH)))
    (hH1 : PySem.W.subIn K (.ref cH) (.type "BaseException") = some true)
    (hH2 : PySem.W.hasDictIn K cH = true)
    (hH3 : PySem.W.typeIn K (.ref cH) = some (.type "type"))
    (oc2 : PySem.W.specialIn K (.builtin "object.__class__") "__get__" = some (some (.builtin "getset_descriptor.__get__")))
    (oc3 : PySem.W.takesIn K (.builtin "object.__class__") = some true)
    (rcS : PySem.W.nsIn K mainGlobals "BadSteps" = some (some (.ref cS)))
    (xS : PySem.W.excIn K cS [.type "ValueError", .type "Exception", .type "BaseException", .type "object"] "ValueError.__new__" = true)
    (xkS : PySem.W.keepIn K (.ref cS) = true)
    (xbS : PySem.W.subIn K (.ref cS) (.type "BaseException") = some true)
    (xtS : PySem.W.typeIn K (.ref cS) = some (.type "type"))
    (xhS : PySem.W.subIn K (.ref cS) (.ref cH) = some true)
    (xgaS : PySem.W.findIn K (.ref cS) "__getattribute__" = some (some (.builtin "BaseException.__getattribute__")))
    (xgbS : PySem.W.findIn K (.ref cS) "__getattr__" = some none)
    (xdS : PySem.W.hasDictIn K cS = true)
    (xcS : PySem.W.findIn K (.ref cS) "__class__" = some (some (.builtin "object.__class__")))
    (xmS : PySem.W.mroIn K cS (.type "object") = some true)
    (xsS : PySem.W.subIn K (.ref cS) (.ref cS) = some true)
    (xvS : PySem.W.subIn K (.ref cS) (.type "ValueError") = some true)
    (rcP : PySem.W.nsIn K mainGlobals "BadProgram" = some (some (.ref cP)))
    (xncP : PySem.W.subIn K (.ref cS) (.ref cP) = some false)
    (odcP : PySem.W.hasDictIn K cP = true)
    (oycP : PySem.W.typeIn K (.ref cP) = some (.type "type"))
    (rcB : PySem.W.nsIn K mainGlobals "BadSide" = some (some (.ref cB)))
    (xncB : PySem.W.subIn K (.ref cS) (.ref cB) = some false)
    (odcB : PySem.W.hasDictIn K cB = true)
    (oycB : PySem.W.typeIn K (.ref cB) = some (.type "type"))
    : ∃ fd : FuncData, (∀ (s : Shared) (v : Value), BindsTo s fd ⟨[v], []⟩ [("_law_script", v)]) ∧ ∀ base : Heap, K.In base → base.Ns mainGlobals mg → FnG l.prog w K mg base CX0 8 fa fd ["_law_script"] (spLaw K) := by
  have e := hfa.symm.trans (PySem.W.mg_of X G aLaw)
  cases e
  have kFrom := FFrom.kp
  have bFrom := FFrom.binds (ps := ["thing", "least"]) fun _ _ _ _ _ _ us hl => match us, hl with | [_, _], _ => rfl
  have kInt := FInt.kp
  have bInt := FInt.binds (ps := ["thing", "least", "greatest"]) fun _ _ _ _ _ _ us hl => match us, hl with | [_, _, _], _ => rfl
  have kTerm := FTerm.kp
  have bTerm := FTerm.binds (ps := ["thing"]) fun _ _ _ _ _ _ us hl => match us, hl with | [_], _ => rfl
  have kCond := FCond.kp
  have bCond := FCond.binds (ps := ["thing"]) fun _ _ _ _ _ _ us hl => match us, hl with | [_], _ => rfl
  have kPart := FPart.kp
  have bPart := FPart.binds (ps := ["thing", "role"]) fun _ _ _ _ _ _ us hl => match us, hl with | [_, _], _ => rfl
  have kWord := FWord.kp
  have bWord := FWord.binds (ps := ["thing"]) fun _ _ _ _ _ _ us hl => match us, hl with | [_], _ => rfl
  have kRoles := FRoles.kp
  have bRoles := FRoles.binds (ps := ["word", "kind"]) fun _ _ _ _ _ _ us hl => match us, hl with | [_, _], _ => rfl
  have kPlain := FPlain.kp
  have bPlain := FPlain.binds (ps := ["thing", "kind"]) fun _ _ _ _ _ _ us hl => match us, hl with | [_, _], _ => rfl
  have kOut := FOut.kp
  have bOut := FOut.binds (ps := ["thing", "kind"]) fun _ _ _ _ _ _ us hl => match us, hl with | [_, _], _ => rfl
  have kBodies := FBodies.kp
  have bBodies := FBodies.binds (ps := ["statement"]) fun _ _ _ _ _ _ us hl => match us, hl with | [_], _ => rfl
  have kProg := FProg.kp
  have bProg := FProg.binds (ps := ["thing"]) fun _ _ _ _ _ _ us hl => match us, hl with | [_], _ => rfl
  have kPur := FPur.kp
  have bPur := FPur.binds (ps := ["_law_script", "_law_at"]) fun _ _ _ _ _ _ us hl => match us, hl with | [_, _], _ => rfl
  have kTak := FTak.kp
  have bTak := FTak.binds (ps := ["_law_bag", "_law_many"]) fun _ _ _ _ _ _ us hl => match us, hl with | [_, _], _ => rfl
  have kAlk := FAlk.kp
  have bAlk := FAlk.binds (ps := ["_law_found", "_law_due"]) fun _ _ _ _ _ _ us hl => match us, hl with | [_, _], _ => rfl
  have kRf := FRf.kp
  have bRf := FRf.binds (ps := ["_law_house", "_law_thing", "_law_way"]) fun _ _ _ _ _ _ us hl => match us, hl with | [_, _, _], _ => rfl
  have kMo := FMo.kp
  have bMo := FMo.binds (ps := ["kinds"]) fun _ _ _ _ _ _ us hl => match us, hl with | [_], _ => rfl
  have kBu := FBu.kp
  have bBu := FBu.binds (ps := ["many"]) fun _ _ _ _ _ _ us hl => match us, hl with | [_], _ => rfl
  have kPa := FPa.kp
  have bPa := FPa.binds (ps := ["length"]) fun _ _ _ _ _ _ us hl => match us, hl with | [_], _ => rfl
  have kEmp := FEmp.kp
  have kLaw := FLaw.kp
  let T : Gs K mg := ⟨PySem.W.mg_none_of X G zisinstance, PySem.W.mg_none_of X G zint, PySem.W.mg_none_of X G zbool, PySem.W.mg_none_of X G zstr, PySem.W.mg_none_of X G ztuple, PySem.W.mg_none_of X G zlen, PySem.W.mg_none_of X G zzip, PySem.W.mg_none_of X G zall,
    aV, PySem.W.mg_of X G mV, qV, aC, PySem.W.mg_of X G mC, qC, aA, PySem.W.mg_of X G mA, qA, aK, PySem.W.mg_of X G mK, qK,
    tG, PySem.W.mg_of X G gG, tL, PySem.W.mg_of X G gL, tS, PySem.W.mg_of X G gS, tD, PySem.W.mg_of X G gD⟩
  have T2 : G2 mg := ⟨PySem.W.mg_none_of X G zabs, PySem.W.mg_none_of X G zmax, PySem.W.mg_none_of X G zmin, PySem.W.mg_none_of X G zrange⟩
  have msum := PySem.W.mg_none_of X G zsum
  have mlist := PySem.W.mg_none_of X G zlist
  let D : Gd K w mg := ⟨aB, PySem.W.mg_of X G mB, qB,
    aSh, aSh0, aSh1, aSh2, PySem.W.mg_of X G mSh, qSh, qSh0, qSh1, qSh2,
    aTe, aTe0, aTe1, PySem.W.mg_of X G mTe, qTe, qTe0, qTe1,
    aCo, aCo0, aCo1, PySem.W.mg_of X G mCo, qCo, qCo0, qCo1⟩
  have zab := PySem.W.mg_none_of X G zabs
  have zsu := PySem.W.mg_none_of X G zsum
  have zra := PySem.W.mg_none_of X G zrange
  have zli := PySem.W.mg_none_of X G zlist
  have zre := PySem.W.mg_none_of X G zrepr
  have zan := PySem.W.mg_none_of X G zany
  let c : HCl := ⟨0, 0, 0, cSt, 0, 0, cHo⟩
  have NS : SnN K c.st := ⟨⟨pgS, hdS, poS, saS⟩, nS_now, nS_sets, nS_machines, nS_ahead, nS_mark⟩
  have NH : HoN K c.ho := ⟨⟨pgH, hdH, poH, saH⟩, nH_standing, nH_deeds, nH_past, nH_busy⟩
  have kSnI := FSnI.kp
  have bSnI := FSnI.binds (ps := ["self", "now", "sets", "machines", "ahead", "mark"]) fun _ _ _ _ _ _ us hl => match us, hl with | [_, _, _, _, _, _], _ => rfl
  have kHoI := FHoI.kp
  have bHoI := FHoI.binds (ps := ["self"]) fun _ _ _ _ _ _ us hl => match us, hl with | [_], _ => rfl
  have kHoC := FHoC.kp
  have bHoC := FHoC.binds (ps := ["self"]) fun _ _ _ _ _ _ us hl => match us, hl with | [_], _ => rfl
  have kHoH := FHoH.kp
  have bHoH := FHoH.binds (ps := ["self"]) fun _ _ _ _ _ _ us hl => match us, hl with | [_], _ => rfl
  have bEmp := FEmp.binds (ps := []) fun _ _ _ _ _ _ us hl => match us, hl with | [], _ => rfl
  let O : OsT K w mg := ⟨aO, PySem.W.mg_of X G mO, qO⟩
  let R : Er47 K mg := ⟨⟨cS, cH, PySem.W.mg_of X G rcS, PySem.W.mg_of X G rcH, ⟨xS, xkS, xbS, xtS, PySem.W.exm_ref hH1 hH2 hH3 xhS, ⟨xgaS, xgbS, xbS, xdS, xcS, oc2, oc3, xmS⟩⟩⟩, cP, cB, PySem.W.mg_of X G rcP, PySem.W.mg_of X G rcB, PySem.W.mg_none_of X G zValueError, kit_n47 xsS odcP oycP xncP, kit_n47 xsS odcB oycB xncB, kit_t47 (by decide +kernel) xvS, kit_s47⟩
  have hbl := FunD.bindsA (ps := ["_law_script"]) FLaw fun _ _ _ _ _ _ us hl => match us, hl with | [_], _ => rfl
  have FLaw := fun_ofD FLaw
  refine ⟨_, fun s v => hbl s [v] rfl, fun base _ _ => ?_⟩
  let CFrom : Cal l.prog w K mg base 1 "is_integer_from" ["thing", "least"] (spFrom K) := ⟨_, _, ok_from FFrom T, bFrom, kFrom, PySem.W.mg_of X G aFrom⟩
  let CInt : Cal l.prog w K mg base 2 "is_integer_from_to" ["thing", "least", "greatest"] (spInt K) := ⟨_, _, ok_int FInt CFrom, bInt, kInt, PySem.W.mg_of X G aInt⟩
  let CTerm : Cal l.prog w K mg base 3 "is_term" ["thing"] (sp1 isTerm K) := ⟨_, _, ok_term FTerm T CInt, bTerm, kTerm, PySem.W.mg_of X G aTerm⟩
  let CCond : Cal l.prog w K mg base 4 "is_condition" ["thing"] (sp1 isCond K) := ⟨_, _, ok_cond FCond T CTerm, bCond, kCond, PySem.W.mg_of X G aCond⟩
  let CPart : Cal l.prog w K mg base 4 "is_part" ["thing", "role"] (spPart K) := ⟨_, _, ok_part FPart T CInt CTerm, bPart, kPart, PySem.W.mg_of X G aPart⟩
  let CWord : Cal l.prog w K mg base 1 "word_of" ["thing"] (spWord K) := ⟨_, _, ok_word FWord T, bWord, kWord, PySem.W.mg_of X G aWord⟩
  let CRoles : Cal l.prog w K mg base 1 "roles_of" ["word", "kind"] (spRoles K) := ⟨_, _, ok_roles FRoles D, bRoles, kRoles, PySem.W.mg_of X G aRoles⟩
  let CPlain : Cal l.prog w K mg base 5 "is_plain_statement" ["thing", "kind"] (sp2 isPlain K) := ⟨_, _, ok_plain FPlain T CWord CRoles CPart, bPlain, kPlain, PySem.W.mg_of X G aPlain⟩
  let COut : Cal l.prog w K mg base 6 "is_outside_of_statement" ["thing", "kind"] (sp2 isOut K) := ⟨_, _, ok_out FOut T D CWord CCond CPlain, bOut, kOut, PySem.W.mg_of X G aOut⟩
  let CBodies : Cal l.prog w K mg base 1 "bodies_of" ["statement"] (spBods K) := ⟨_, _, ok_bodies FBodies T D, bBodies, kBodies, PySem.W.mg_of X G aBodies⟩
  let CProg : Cal l.prog w K mg base 7 "is_program" ["thing"] (spProg K) := ⟨_, _, ok_prog FProg T COut CBodies, bProg, kProg, PySem.W.mg_of X G aProg⟩
  let CPur : Cal l.prog w K mg base 1 "_law_purse" ["_law_script", "_law_at"] (spPur K) := ⟨_, _, ok_pur FPur T zab, bPur, kPur, PySem.W.mg_of X G aPur⟩
  let CTak : Cal l.prog w K mg base 1 "_law_take" ["_law_bag", "_law_many"] spTak := ⟨_, _, ok_tak FTak, bTak, kTak, PySem.W.mg_of X G aTak⟩
  let CMo : Cal l.prog w K mg base 1 "most_acts" ["kinds"] (spMost K) := ⟨_, _, ok_Most FMo zsu, bMo, kMo, PySem.W.mg_of X G aMo⟩
  let CPa : Cal l.prog w K mg base 1 "patient_teller" ["length"] (spPat K) := ⟨_, _, ok_Pat FPa, bPa, kPa, PySem.W.mg_of X G aPa⟩
  let CBu : Cal l.prog w K mg base 3 "busiest" ["many"] (spBus K) := ⟨_, _, ok_Bus FBu zra (PySem.W.mg_of X G gMT) CInt CPa, bBu, kBu, PySem.W.mg_of X G aBu⟩
  let CAl : CalG l.prog w K mg base 1 "_law_alike" ["_law_found", "_law_due"] (spAlk K) := ⟨_, _, ok_alk FAlk zre, bAlk, kAlk, PySem.W.mg_of X G aAlk⟩
  have GSn := ok_SnI (P := l.prog) (w := w) (mg := mg) (base := base) (C := c.st) FSnI NS
  let KS : Kl l.prog w K mg base c.st "Standing" nSn := ⟨fSnI, _, PySem.W.mg_of X G ucSt, ⟨mkS, aSnI, iSnI, kcS⟩, GSn, bSnI⟩
  let CEmp : Cal l.prog w K mg base 3 "empty_standing" [] (spEmp K c) := ⟨_, _, ok_Emp FEmp KS O, bEmp, kEmp, PySem.W.mg_of X G aEmp⟩
  have GHo := ok_HoI (P := l.prog) (w := w) (mg := mg) (base := base) (c := c) FHoI NH CEmp
  let MC : MCal l.prog w K mg base 1 c.ho "clock" ["self"] (spHoC K c) := ⟨_, _, ok_HoC FHoC NH NS, bHoC, ⟨aHoC, iHoC, kHoC⟩⟩
  let MH : MCal l.prog w K mg base 1 c.ho "history" ["self"] (spHoH K c) := ⟨_, _, ok_HoH FHoH NH zli, bHoH, ⟨aHoH, iHoH, kHoH⟩⟩
  have GBX := ok_BusX (P := l.prog) (w := w) (mg := mg) (base := base) FBu R.toErS (PySem.W.mg_of X G gMT) CInt
  have GAX := ok_HoAX (P := l.prog) (w := w) (mg := mg) (base := base) FHoA R.toErS (PySem.W.mg_of X G gMS) CInt
  let CRf : Cal l.prog w K mg base 4 "_law_refused" ["_law_house", "_law_thing", "_law_way"] (spRf K c) := ⟨_, _, ok_rf FRf T R zan NH GBX bBu kBu (PySem.W.mg_of X G aBu) GAX ⟨aHoA, iHoA, FHoA.kp⟩ (adv_b2 FHoA) (adv_k2 FHoA), bRf, kRf, PySem.W.mg_of X G aRf⟩
  exact ok_law FLaw ⟨T, zra, zsu, zli, zre, CPur, CTak, CMo, CBu, CProg, CRf, CAl, fHoI, _, PySem.W.mg_of X G ucHo, ⟨mkH, aHoI, iHoI, kcH⟩, GHo, bHoI, NH, MC, MH⟩
def b0 (K : PySem.W.Frag) : Bool := decide (PySem.W.nsIn K mainGlobals "is_integer_from" = some (some (.ref (He.ga K "is_integer_from"))))
def b1 (K : PySem.W.Frag) : Bool := decide (PySem.W.nsIn K mainGlobals "is_integer_from_to" = some (some (.ref (He.ga K "is_integer_from_to"))))
def b2 (K : PySem.W.Frag) : Bool := decide (PySem.W.nsIn K mainGlobals "is_term" = some (some (.ref (He.ga K "is_term"))))
def b3 (K : PySem.W.Frag) : Bool := decide (PySem.W.nsIn K mainGlobals "is_condition" = some (some (.ref (He.ga K "is_condition"))))
def b4 (K : PySem.W.Frag) : Bool := decide (PySem.W.nsIn K mainGlobals "is_part" = some (some (.ref (He.ga K "is_part"))))
def b5 (K : PySem.W.Frag) : Bool := decide (PySem.W.nsIn K mainGlobals "word_of" = some (some (.ref (He.ga K "word_of"))))
def b6 (K : PySem.W.Frag) : Bool := decide (PySem.W.nsIn K mainGlobals "roles_of" = some (some (.ref (He.ga K "roles_of"))))
def b7 (K : PySem.W.Frag) : Bool := decide (PySem.W.nsIn K mainGlobals "is_plain_statement" = some (some (.ref (He.ga K "is_plain_statement"))))
def b8 (K : PySem.W.Frag) : Bool := decide (PySem.W.nsIn K mainGlobals "is_outside_of_statement" = some (some (.ref (He.ga K "is_outside_of_statement"))))
def b9 (K : PySem.W.Frag) : Bool := decide (PySem.W.nsIn K mainGlobals "bodies_of" = some (some (.ref (He.ga K "bodies_of"))))
def b10 (K : PySem.W.Frag) : Bool := decide (PySem.W.nsIn K mainGlobals "is_program" = some (some (.ref (He.ga K "is_program"))))
def b11 (K : PySem.W.Frag) : Bool := decide (PySem.W.nsIn K mainGlobals "_law_purse" = some (some (.ref (He.ga K "_law_purse"))))
def b12 (K : PySem.W.Frag) : Bool := decide (PySem.W.nsIn K mainGlobals "_law_take" = some (some (.ref (He.ga K "_law_take"))))
def b13 (K : PySem.W.Frag) : Bool := decide (PySem.W.nsIn K mainGlobals "_law_alike" = some (some (.ref (He.ga K "_law_alike"))))
def b14 (K : PySem.W.Frag) : Bool := decide (PySem.W.nsIn K mainGlobals "_law_refused" = some (some (.ref (He.ga K "_law_refused"))))
def b15 (K : PySem.W.Frag) : Bool := decide (PySem.W.nsIn K mainGlobals "most_acts" = some (some (.ref (He.ga K "most_acts"))))
def b16 (K : PySem.W.Frag) : Bool := decide (PySem.W.nsIn K mainGlobals "busiest" = some (some (.ref (He.ga K "busiest"))))
def b17 (K : PySem.W.Frag) : Bool := decide (PySem.W.nsIn K mainGlobals "patient_teller" = some (some (.ref (He.ga K "patient_teller"))))
def b18 (K : PySem.W.Frag) : Bool := decide (PySem.W.nsIn K mainGlobals "empty_standing" = some (some (.ref (He.ga K "empty_standing"))))
def b19 (K : PySem.W.Frag) : Bool := decide (PySem.W.nsIn K mainGlobals "law" = some (some (.ref (He.ga K "law"))))
def b20 (K : PySem.W.Frag) : Bool := decide (PySem.W.nsIn K mainGlobals "isinstance" = some none)
def b21 (K : PySem.W.Frag) : Bool := decide (PySem.W.nsIn K mainGlobals "int" = some none)
def b22 (K : PySem.W.Frag) : Bool := decide (PySem.W.nsIn K mainGlobals "bool" = some none)
def b23 (K : PySem.W.Frag) : Bool := decide (PySem.W.nsIn K mainGlobals "str" = some none)
def b24 (K : PySem.W.Frag) : Bool := decide (PySem.W.nsIn K mainGlobals "tuple" = some none)
def b25 (K : PySem.W.Frag) : Bool := decide (PySem.W.nsIn K mainGlobals "len" = some none)
def b26 (K : PySem.W.Frag) : Bool := decide (PySem.W.nsIn K mainGlobals "zip" = some none)
def b27 (K : PySem.W.Frag) : Bool := decide (PySem.W.nsIn K mainGlobals "all" = some none)
def b28 (K : PySem.W.Frag) : Bool := decide (PySem.W.nsIn K mainGlobals "abs" = some none)
def b29 (K : PySem.W.Frag) : Bool := decide (PySem.W.nsIn K mainGlobals "max" = some none)
def b30 (K : PySem.W.Frag) : Bool := decide (PySem.W.nsIn K mainGlobals "min" = some none)
def b31 (K : PySem.W.Frag) : Bool := decide (PySem.W.nsIn K mainGlobals "any" = some none)
def b32 (K : PySem.W.Frag) : Bool := decide (PySem.W.nsIn K mainGlobals "range" = some none)
def b33 (K : PySem.W.Frag) : Bool := decide (PySem.W.nsIn K mainGlobals "list" = some none)
def b34 (K : PySem.W.Frag) : Bool := decide (PySem.W.nsIn K mainGlobals "sum" = some none)
def b35 (K : PySem.W.Frag) : Bool := decide (PySem.W.nsIn K mainGlobals "repr" = some none)
def b36 (K : PySem.W.Frag) : Bool := decide (PySem.W.nsIn K mainGlobals "ValueError" = some none)
def b37 (K : PySem.W.Frag) : Bool := intB K mainGlobals "GREATEST_VALUE" 15
def b38 (K : PySem.W.Frag) : Bool := intB K mainGlobals "LONGEST_WAIT" longest
def b39 (K : PySem.W.Frag) : Bool := intB K mainGlobals "MOST_STATEMENTS" 24
def b40 (K : PySem.W.Frag) : Bool := intB K mainGlobals "MOST_DEPTH" 4
def b41 (K : PySem.W.Frag) : Bool := decide (PySem.W.nsIn K mainGlobals "VARIABLES" = some (some (.ref (He.ga K "VARIABLES"))))
def b42 (K : PySem.W.Frag) : Bool := tupA K (He.ga K "VARIABLES") [.str "a", .str "b"]
def b43 (K : PySem.W.Frag) : Bool := decide (PySem.W.nsIn K mainGlobals "CONDITION_SIGNS" = some (some (.ref (He.ga K "CONDITION_SIGNS"))))
def b44 (K : PySem.W.Frag) : Bool := tupA K (He.ga K "CONDITION_SIGNS") [.str "==", .str "!=", .str "<"]
def b45 (K : PySem.W.Frag) : Bool := decide (PySem.W.nsIn K mainGlobals "ASK_SIGNS" = some (some (.ref (He.ga K "ASK_SIGNS"))))
def b46 (K : PySem.W.Frag) : Bool := tupA K (He.ga K "ASK_SIGNS") [.str "+", .str "-", .str "="]
def b47 (K : PySem.W.Frag) : Bool := decide (PySem.W.nsIn K mainGlobals "KINDS" = some (some (.ref (He.ga K "KINDS"))))
def b48 (K : PySem.W.Frag) : Bool := tupA K (He.ga K "KINDS") [.str "teller", .str "collector"]
def b49 (K : PySem.W.Frag) : Bool := decide (PySem.W.nsIn K mainGlobals "BODIES" = some (some (.ref (He.ga K "BODIES"))))
def b50 (K : PySem.W.Frag) : Bool := tabB K (He.ga K "BODIES") [("if", .int 2), ("while", .int 1)]
def b51 (K : PySem.W.Frag) : Bool := decide (PySem.W.nsIn K mainGlobals "SHARED_ROLES" = some (some (.ref (He.ga K "SHARED_ROLES"))))
def b52 (K : PySem.W.Frag) : Bool := tabB K (He.ga K "SHARED_ROLES") [("set", .adr fun K => (atD K (He.ga K "SHARED_ROLES") "set")), ("add", .adr fun K => (atD K (He.ga K "SHARED_ROLES") "add")), ("wait", .adr fun K => (atD K (He.ga K "SHARED_ROLES") "wait"))]
def b53 (K : PySem.W.Frag) : Bool := tupA K (atD K (He.ga K "SHARED_ROLES") "set") [.str "variable", .str "value"]
def b54 (K : PySem.W.Frag) : Bool := tupA K (atD K (He.ga K "SHARED_ROLES") "add") [.str "variable", .str "term"]
def b55 (K : PySem.W.Frag) : Bool := tupA K (atD K (He.ga K "SHARED_ROLES") "wait") [.str "steps"]
def b56 (K : PySem.W.Frag) : Bool := decide (PySem.W.nsIn K mainGlobals "TELLER_ROLES" = some (some (.ref (He.ga K "TELLER_ROLES"))))
def b57 (K : PySem.W.Frag) : Bool := tabB K (He.ga K "TELLER_ROLES") [("ask", .adr fun K => (atD K (He.ga K "TELLER_ROLES") "ask")), ("answer", .adr fun K => (atD K (He.ga K "TELLER_ROLES") "answer"))]
def b58 (K : PySem.W.Frag) : Bool := tupA K (atD K (He.ga K "TELLER_ROLES") "ask") [.str "sign", .str "term", .str "variable"]
def b59 (K : PySem.W.Frag) : Bool := tupA K (atD K (He.ga K "TELLER_ROLES") "answer") [.str "answer"]
def b60 (K : PySem.W.Frag) : Bool := decide (PySem.W.nsIn K mainGlobals "COLLECTOR_ROLES" = some (some (.ref (He.ga K "COLLECTOR_ROLES"))))
def b61 (K : PySem.W.Frag) : Bool := tabB K (He.ga K "COLLECTOR_ROLES") [("grow", .adr fun K => (atD K (He.ga K "COLLECTOR_ROLES") "grow")), ("list", .adr fun K => (atD K (He.ga K "COLLECTOR_ROLES") "list"))]
def b62 (K : PySem.W.Frag) : Bool := tupA K (atD K (He.ga K "COLLECTOR_ROLES") "grow") [.str "term"]
def b63 (K : PySem.W.Frag) : Bool := tupA K (atD K (He.ga K "COLLECTOR_ROLES") "list") [.str "term"]
def b64 (K : PySem.W.Frag) : Bool := decide (PySem.W.nsIn K mainGlobals "Standing" = some (some (.ref (He.ga K "Standing"))))
def b65 (K : PySem.W.Frag) : Bool := decide (PySem.W.nsIn K mainGlobals "House" = some (some (.ref (He.ga K "House"))))
def b66 (K : PySem.W.Frag) : Bool := PySem.W.plainGet K (He.ga K "Standing") Str.empty
def b67 (K : PySem.W.Frag) : Bool := PySem.W.hasDictIn K (He.ga K "Standing")
def b68 (K : PySem.W.Frag) : Bool := PySem.W.plainOver K (He.ga K "Standing")
def b69 (K : PySem.W.Frag) : Bool := decide (PySem.W.findIn K (.ref (He.ga K "Standing")) "__setattr__" = some (some (.builtin "object.__setattr__")))
def b70 (K : PySem.W.Frag) : Bool := PySem.W.makesIn K (He.ga K "Standing")
def b71 (K : PySem.W.Frag) : Bool := PySem.W.keepIn K (.ref (He.ga K "Standing"))
def b72 (K : PySem.W.Frag) : Bool := decide (PySem.W.findIn K (.ref (He.ga K "Standing")) "now" = some none)
def b73 (K : PySem.W.Frag) : Bool := decide (PySem.W.findIn K (.ref (He.ga K "Standing")) "sets" = some none)
def b74 (K : PySem.W.Frag) : Bool := decide (PySem.W.findIn K (.ref (He.ga K "Standing")) "machines" = some none)
def b75 (K : PySem.W.Frag) : Bool := decide (PySem.W.findIn K (.ref (He.ga K "Standing")) "ahead" = some none)
def b76 (K : PySem.W.Frag) : Bool := decide (PySem.W.findIn K (.ref (He.ga K "Standing")) "mark" = some none)
def b77 (K : PySem.W.Frag) : Bool := PySem.W.plainGet K (He.ga K "House") Str.empty
def b78 (K : PySem.W.Frag) : Bool := PySem.W.hasDictIn K (He.ga K "House")
def b79 (K : PySem.W.Frag) : Bool := PySem.W.plainOver K (He.ga K "House")
def b80 (K : PySem.W.Frag) : Bool := decide (PySem.W.findIn K (.ref (He.ga K "House")) "__setattr__" = some (some (.builtin "object.__setattr__")))
def b81 (K : PySem.W.Frag) : Bool := PySem.W.makesIn K (He.ga K "House")
def b82 (K : PySem.W.Frag) : Bool := PySem.W.keepIn K (.ref (He.ga K "House"))
def b83 (K : PySem.W.Frag) : Bool := decide (PySem.W.findIn K (.ref (He.ga K "House")) "standing" = some none)
def b84 (K : PySem.W.Frag) : Bool := decide (PySem.W.findIn K (.ref (He.ga K "House")) "deeds" = some none)
def b85 (K : PySem.W.Frag) : Bool := decide (PySem.W.findIn K (.ref (He.ga K "House")) "past" = some none)
def b86 (K : PySem.W.Frag) : Bool := decide (PySem.W.findIn K (.ref (He.ga K "House")) "busy" = some none)
def b87 (K : PySem.W.Frag) : Bool := decide (PySem.W.findIn K (.ref (He.ga K "Standing")) "__init__" = some (some (.ref (He.ma K (He.ga K "Standing") "__init__"))))
def b88 (K : PySem.W.Frag) : Bool := PySem.W.isFn K (.ref (He.ma K (He.ga K "Standing") "__init__"))
def b89 (K : PySem.W.Frag) : Bool := decide (PySem.W.findIn K (.ref (He.ga K "House")) "__init__" = some (some (.ref (He.ma K (He.ga K "House") "__init__"))))
def b90 (K : PySem.W.Frag) : Bool := PySem.W.isFn K (.ref (He.ma K (He.ga K "House") "__init__"))
def b91 (K : PySem.W.Frag) : Bool := decide (PySem.W.findIn K (.ref (He.ga K "House")) "clock" = some (some (.ref (He.ma K (He.ga K "House") "clock"))))
def b92 (K : PySem.W.Frag) : Bool := PySem.W.isFn K (.ref (He.ma K (He.ga K "House") "clock"))
def b93 (K : PySem.W.Frag) : Bool := decide (PySem.W.findIn K (.ref (He.ga K "House")) "history" = some (some (.ref (He.ma K (He.ga K "House") "history"))))
def b94 (K : PySem.W.Frag) : Bool := PySem.W.isFn K (.ref (He.ma K (He.ga K "House") "history"))
def b95 (K : PySem.W.Frag) : Bool := decide (PySem.W.findIn K (.ref (He.ga K "House")) "advance" = some (some (.ref (He.ma K (He.ga K "House") "advance"))))
def b96 (K : PySem.W.Frag) : Bool := PySem.W.isFn K (.ref (He.ma K (He.ga K "House") "advance"))
def b97 (K : PySem.W.Frag) : Bool := intB K mainGlobals "MOST_TELLERS" 8
def b98 (K : PySem.W.Frag) : Bool := intB K mainGlobals "MOST_STEPS" mostSteps
def b99 (K : PySem.W.Frag) : Bool := decide (PySem.W.nsIn K mainGlobals "OTHER_SIDE" = some (some (.ref (He.ga K "OTHER_SIDE"))))
def b100 (K : PySem.W.Frag) : Bool := tabB K (He.ga K "OTHER_SIDE") [("left", .str "right"), ("right", .str "left")]
def b101 (K : PySem.W.Frag) : Bool := decide (PySem.W.nsIn K mainGlobals "HouseError" = some (some (.ref (He.ga K "HouseError"))))
def b102 (K : PySem.W.Frag) : Bool := decide (PySem.W.subIn K (.ref (He.ga K "HouseError")) (.type "BaseException") = some true)
def b103 (K : PySem.W.Frag) : Bool := PySem.W.hasDictIn K (He.ga K "HouseError")
def b104 (K : PySem.W.Frag) : Bool := decide (PySem.W.typeIn K (.ref (He.ga K "HouseError")) = some (.type "type"))
def b105 (K : PySem.W.Frag) : Bool := decide (PySem.W.specialIn K (.builtin "object.__class__") "__get__" = some (some (.builtin "getset_descriptor.__get__")))
def b106 (K : PySem.W.Frag) : Bool := decide (PySem.W.takesIn K (.builtin "object.__class__") = some true)
def b107 (K : PySem.W.Frag) : Bool := decide (PySem.W.nsIn K mainGlobals "BadSteps" = some (some (.ref (He.ga K "BadSteps"))))
def b108 (K : PySem.W.Frag) : Bool := PySem.W.excIn K (He.ga K "BadSteps") [.type "ValueError", .type "Exception", .type "BaseException", .type "object"] "ValueError.__new__"
def b109 (K : PySem.W.Frag) : Bool := PySem.W.keepIn K (.ref (He.ga K "BadSteps"))
def b110 (K : PySem.W.Frag) : Bool := decide (PySem.W.subIn K (.ref (He.ga K "BadSteps")) (.type "BaseException") = some true)
def b111 (K : PySem.W.Frag) : Bool := decide (PySem.W.typeIn K (.ref (He.ga K "BadSteps")) = some (.type "type"))
def b112 (K : PySem.W.Frag) : Bool := decide (PySem.W.subIn K (.ref (He.ga K "BadSteps")) (.ref (He.ga K "HouseError")) = some true)
def b113 (K : PySem.W.Frag) : Bool := decide (PySem.W.findIn K (.ref (He.ga K "BadSteps")) "__getattribute__" = some (some (.builtin "BaseException.__getattribute__")))
def b114 (K : PySem.W.Frag) : Bool := decide (PySem.W.findIn K (.ref (He.ga K "BadSteps")) "__getattr__" = some none)
def b115 (K : PySem.W.Frag) : Bool := PySem.W.hasDictIn K (He.ga K "BadSteps")
def b116 (K : PySem.W.Frag) : Bool := decide (PySem.W.findIn K (.ref (He.ga K "BadSteps")) "__class__" = some (some (.builtin "object.__class__")))
def b117 (K : PySem.W.Frag) : Bool := decide (PySem.W.mroIn K (He.ga K "BadSteps") (.type "object") = some true)
def b118 (K : PySem.W.Frag) : Bool := decide (PySem.W.subIn K (.ref (He.ga K "BadSteps")) (.ref (He.ga K "BadSteps")) = some true)
def b119 (K : PySem.W.Frag) : Bool := decide (PySem.W.subIn K (.ref (He.ga K "BadSteps")) (.type "ValueError") = some true)
def b120 (K : PySem.W.Frag) : Bool := decide (PySem.W.nsIn K mainGlobals "BadProgram" = some (some (.ref (He.ga K "BadProgram"))))
def b121 (K : PySem.W.Frag) : Bool := decide (PySem.W.subIn K (.ref (He.ga K "BadSteps")) (.ref (He.ga K "BadProgram")) = some false)
def b122 (K : PySem.W.Frag) : Bool := PySem.W.hasDictIn K (He.ga K "BadProgram")
def b123 (K : PySem.W.Frag) : Bool := decide (PySem.W.typeIn K (.ref (He.ga K "BadProgram")) = some (.type "type"))
def b124 (K : PySem.W.Frag) : Bool := decide (PySem.W.nsIn K mainGlobals "BadSide" = some (some (.ref (He.ga K "BadSide"))))
def b125 (K : PySem.W.Frag) : Bool := decide (PySem.W.subIn K (.ref (He.ga K "BadSteps")) (.ref (He.ga K "BadSide")) = some false)
def b126 (K : PySem.W.Frag) : Bool := PySem.W.hasDictIn K (He.ga K "BadSide")
def b127 (K : PySem.W.Frag) : Bool := decide (PySem.W.typeIn K (.ref (He.ga K "BadSide")) = some (.type "type"))
def q0 (K : PySem.W.Frag) : Bool := b0 K && (b1 K && (b2 K && (b3 K && (b4 K && (b5 K && (b6 K && (b7 K && (b8 K && (b9 K && (b10 K && (b11 K)))))))))))
def q1 (K : PySem.W.Frag) : Bool := b12 K && (b13 K && (b14 K && (b15 K && (b16 K && (b17 K && (b18 K && (b19 K && (b20 K && (b21 K && (b22 K && (b23 K)))))))))))
def q2 (K : PySem.W.Frag) : Bool := b24 K && (b25 K && (b26 K && (b27 K && (b28 K && (b29 K && (b30 K && (b31 K && (b32 K && (b33 K && (b34 K && (b35 K)))))))))))
def q3 (K : PySem.W.Frag) : Bool := b36 K && (b37 K && (b38 K && (b39 K && (b40 K && (b41 K && (b42 K && (b43 K && (b44 K && (b45 K && (b46 K && (b47 K)))))))))))
def q4 (K : PySem.W.Frag) : Bool := b48 K && (b49 K && (b50 K && (b51 K && (b52 K && (b53 K && (b54 K && (b55 K && (b56 K && (b57 K && (b58 K && (b59 K)))))))))))
def q5 (K : PySem.W.Frag) : Bool := b60 K && (b61 K && (b62 K && (b63 K && (b64 K && (b65 K && (b66 K && (b67 K && (b68 K && (b69 K && (b70 K && (b71 K)))))))))))
def q6 (K : PySem.W.Frag) : Bool := b72 K && (b73 K && (b74 K && (b75 K && (b76 K && (b77 K && (b78 K && (b79 K && (b80 K && (b81 K && (b82 K && (b83 K)))))))))))
def q7 (K : PySem.W.Frag) : Bool := b84 K && (b85 K && (b86 K && (b87 K && (b88 K && (b89 K && (b90 K && (b91 K && (b92 K && (b93 K && (b94 K && (b95 K)))))))))))
def q8 (K : PySem.W.Frag) : Bool := b96 K && (b97 K && (b98 K && (b99 K && (b100 K && (b101 K && (b102 K && (b103 K && (b104 K && (b105 K && (b106 K && (b107 K)))))))))))
def q9 (K : PySem.W.Frag) : Bool := b108 K && (b109 K && (b110 K && (b111 K && (b112 K && (b113 K && (b114 K && (b115 K && (b116 K && (b117 K && (b118 K && (b119 K)))))))))))
def q10 (K : PySem.W.Frag) : Bool := b120 K && (b121 K && (b122 K && (b123 K && (b124 K && (b125 K && (b126 K && (b127 K)))))))
def ex (K : PySem.W.Frag) : Bool := q0 K && (q1 K && (q2 K && (q3 K && (q4 K && (q5 K && (q6 K && (q7 K && (q8 K && (q9 K && (q10 K))))))))))
def d0 : He.DefD := ⟨("is_integer_from", none), "is_integer_from", "is_integer_from", defArgs sFrom, defBody sFrom, defScope sFrom, [], []⟩
def d1 : He.DefD := ⟨("is_integer_from_to", none), "is_integer_from_to", "is_integer_from_to", defArgs sInt, defBody sInt, defScope sInt, [], []⟩
def d2 : He.DefD := ⟨("is_term", none), "is_term", "is_term", defArgs sTerm, defBody sTerm, defScope sTerm, [], []⟩
def d3 : He.DefD := ⟨("is_condition", none), "is_condition", "is_condition", defArgs sCond, defBody sCond, defScope sCond, [], []⟩
def d4 : He.DefD := ⟨("is_part", none), "is_part", "is_part", defArgs sPart, defBody sPart, defScope sPart, [], []⟩
def d5 : He.DefD := ⟨("word_of", none), "word_of", "word_of", defArgs sWord, defBody sWord, defScope sWord, [], []⟩
def d6 : He.DefD := ⟨("roles_of", none), "roles_of", "roles_of", defArgs sRoles, defBody sRoles, defScope sRoles, [], []⟩
def d7 : He.DefD := ⟨("is_plain_statement", none), "is_plain_statement", "is_plain_statement", defArgs sPlain, defBody sPlain, defScope sPlain, [], []⟩
def d8 : He.DefD := ⟨("is_outside_of_statement", none), "is_outside_of_statement", "is_outside_of_statement", defArgs sOut, defBody sOut, defScope sOut, [], []⟩
def d9 : He.DefD := ⟨("bodies_of", none), "bodies_of", "bodies_of", defArgs sBodies, defBody sBodies, defScope sBodies, [], []⟩
def d10 : He.DefD := ⟨("is_program", none), "is_program", "is_program", defArgs sProg, defBody sProg, defScope sProg, [], []⟩
def d11 : He.DefD := ⟨("_law_purse", none), "_law_purse", "_law_purse", defArgs sPur, defBody sPur, defScope sPur, [], []⟩
def d12 : He.DefD := ⟨("_law_take", none), "_law_take", "_law_take", defArgs sTak, defBody sTak, defScope sTak, [], []⟩
def d13 : He.DefD := ⟨("_law_alike", none), "_law_alike", "_law_alike", defArgs sAlk, defBody sAlk, defScope sAlk, [], []⟩
def d14 : He.DefD := ⟨("_law_refused", none), "_law_refused", "_law_refused", defArgs sRf, defBody sRf, defScope sRf, [], []⟩
def d15 : He.DefD := ⟨("most_acts", none), "most_acts", "most_acts", defArgs sMost, defBody sMost, defScope sMost, [], []⟩
def d16 : He.DefD := ⟨("busiest", none), "busiest", "busiest", defArgs sBus, defBody sBus, defScope sBus, [], []⟩
def d17 : He.DefD := ⟨("patient_teller", none), "patient_teller", "patient_teller", defArgs sPat, defBody sPat, defScope sPat, [], []⟩
def d18 : He.DefD := ⟨("empty_standing", none), "empty_standing", "empty_standing", defArgs sEmp, defBody sEmp, defScope sEmp, [], []⟩
def d19 : He.DefD := ⟨("law", none), "law", "law", defArgs sLaw, defBody sLaw, defScope sLaw, [], []⟩
def d20 : He.DefD := ⟨("Standing", some "__init__"), "__init__", "Standing.__init__", defArgs sSnI, defBody sSnI, defScope sSnI, [], []⟩
def d21 : He.DefD := ⟨("House", some "__init__"), "__init__", "House.__init__", defArgs sHoI, defBody sHoI, defScope sHoI, [], []⟩
def d22 : He.DefD := ⟨("House", some "clock"), "clock", "House.clock", defArgs sHoC, defBody sHoC, defScope sHoC, [], []⟩
def d23 : He.DefD := ⟨("House", some "history"), "history", "House.history", defArgs sHoH, defBody sHoH, defScope sHoH, [], []⟩
def d24 : He.DefD := ⟨("House", some "advance"), "advance", "House.advance", defArgs sHoA, defBody sHoA, defScope sHoA, [.int 1], [("watch", .non)]⟩
def ld0 : List He.DefD := [d0, d1, d2, d3, d4, d5, d6, d7, d8, d9, d10, d11, d12, d13, d14, d15, d16, d17, d18, d19, d20, d21, d22, d23, d24]
def ld : List He.DefD := ld0
def t0 : He.Tab := ((fun K => (He.ga K "BODIES")), ["if", "while"])
def t1 : He.Tab := ((fun K => (He.ga K "SHARED_ROLES")), ["set", "add", "wait"])
def t2 : He.Tab := ((fun K => (He.ga K "TELLER_ROLES")), ["ask", "answer"])
def t3 : He.Tab := ((fun K => (He.ga K "COLLECTOR_ROLES")), ["grow", "list"])
def t4 : He.Tab := ((fun K => (He.ga K "OTHER_SIDE")), ["left", "right"])
def lt0 : List He.Tab := [t0, t1, t2, t3, t4]
def lt : List He.Tab := lt0
theorem facts {l : PySem.W.OpenLaw} {w : World} {K : PySem.W.Frag} {h : Heap} {mg : Str → Option Value} {fa : Addr} (X : K.In h) (G : h.Ns mainGlobals mg) (hfa : mg "law" = some (.ref fa)) (c : SaysM ex ld lt w K) : ∃ fd : FuncData, (∀ (s : Shared) (v : Value), BindsTo s fd ⟨[v], []⟩ [("_law_script", v)]) ∧ ∀ base : Heap, K.In base → base.Ns mainGlobals mg → FnG l.prog w K mg base CX0 8 fa fd ["_law_script"] (spLaw K) := by
  have yy := c.b
  obtain ⟨g0, yy⟩ := He.ba (show (q0 K && (q1 K && (q2 K && (q3 K && (q4 K && (q5 K && (q6 K && (q7 K && (q8 K && (q9 K && (q10 K))))))))))) = true from yy)
  obtain ⟨y0, g0⟩ := He.ba (show (b0 K && (b1 K && (b2 K && (b3 K && (b4 K && (b5 K && (b6 K && (b7 K && (b8 K && (b9 K && (b10 K && (b11 K)))))))))))) = true from g0)
  obtain ⟨y1, g0⟩ := He.ba (show (b1 K && (b2 K && (b3 K && (b4 K && (b5 K && (b6 K && (b7 K && (b8 K && (b9 K && (b10 K && (b11 K))))))))))) = true from g0)
  obtain ⟨y2, g0⟩ := He.ba (show (b2 K && (b3 K && (b4 K && (b5 K && (b6 K && (b7 K && (b8 K && (b9 K && (b10 K && (b11 K)))))))))) = true from g0)
  obtain ⟨y3, g0⟩ := He.ba (show (b3 K && (b4 K && (b5 K && (b6 K && (b7 K && (b8 K && (b9 K && (b10 K && (b11 K))))))))) = true from g0)
  obtain ⟨y4, g0⟩ := He.ba (show (b4 K && (b5 K && (b6 K && (b7 K && (b8 K && (b9 K && (b10 K && (b11 K)))))))) = true from g0)
  obtain ⟨y5, g0⟩ := He.ba (show (b5 K && (b6 K && (b7 K && (b8 K && (b9 K && (b10 K && (b11 K))))))) = true from g0)
  obtain ⟨y6, g0⟩ := He.ba (show (b6 K && (b7 K && (b8 K && (b9 K && (b10 K && (b11 K)))))) = true from g0)
  obtain ⟨y7, g0⟩ := He.ba (show (b7 K && (b8 K && (b9 K && (b10 K && (b11 K))))) = true from g0)
  obtain ⟨y8, g0⟩ := He.ba (show (b8 K && (b9 K && (b10 K && (b11 K)))) = true from g0)
  obtain ⟨y9, g0⟩ := He.ba (show (b9 K && (b10 K && (b11 K))) = true from g0)
  obtain ⟨y10, g0⟩ := He.ba (show (b10 K && (b11 K)) = true from g0)
  have y11 := g0
  obtain ⟨g1, yy⟩ := He.ba (show (q1 K && (q2 K && (q3 K && (q4 K && (q5 K && (q6 K && (q7 K && (q8 K && (q9 K && (q10 K)))))))))) = true from yy)
  obtain ⟨y12, g1⟩ := He.ba (show (b12 K && (b13 K && (b14 K && (b15 K && (b16 K && (b17 K && (b18 K && (b19 K && (b20 K && (b21 K && (b22 K && (b23 K)))))))))))) = true from g1)
  obtain ⟨y13, g1⟩ := He.ba (show (b13 K && (b14 K && (b15 K && (b16 K && (b17 K && (b18 K && (b19 K && (b20 K && (b21 K && (b22 K && (b23 K))))))))))) = true from g1)
  obtain ⟨y14, g1⟩ := He.ba (show (b14 K && (b15 K && (b16 K && (b17 K && (b18 K && (b19 K && (b20 K && (b21 K && (b22 K && (b23 K)))))))))) = true from g1)
  obtain ⟨y15, g1⟩ := He.ba (show (b15 K && (b16 K && (b17 K && (b18 K && (b19 K && (b20 K && (b21 K && (b22 K && (b23 K))))))))) = true from g1)
  obtain ⟨y16, g1⟩ := He.ba (show (b16 K && (b17 K && (b18 K && (b19 K && (b20 K && (b21 K && (b22 K && (b23 K)))))))) = true from g1)
  obtain ⟨y17, g1⟩ := He.ba (show (b17 K && (b18 K && (b19 K && (b20 K && (b21 K && (b22 K && (b23 K))))))) = true from g1)
  obtain ⟨y18, g1⟩ := He.ba (show (b18 K && (b19 K && (b20 K && (b21 K && (b22 K && (b23 K)))))) = true from g1)
  obtain ⟨y19, g1⟩ := He.ba (show (b19 K && (b20 K && (b21 K && (b22 K && (b23 K))))) = true from g1)
  obtain ⟨y20, g1⟩ := He.ba (show (b20 K && (b21 K && (b22 K && (b23 K)))) = true from g1)
  obtain ⟨y21, g1⟩ := He.ba (show (b21 K && (b22 K && (b23 K))) = true from g1)
  obtain ⟨y22, g1⟩ := He.ba (show (b22 K && (b23 K)) = true from g1)
  have y23 := g1
  obtain ⟨g2, yy⟩ := He.ba (show (q2 K && (q3 K && (q4 K && (q5 K && (q6 K && (q7 K && (q8 K && (q9 K && (q10 K))))))))) = true from yy)
  obtain ⟨y24, g2⟩ := He.ba (show (b24 K && (b25 K && (b26 K && (b27 K && (b28 K && (b29 K && (b30 K && (b31 K && (b32 K && (b33 K && (b34 K && (b35 K)))))))))))) = true from g2)
  obtain ⟨y25, g2⟩ := He.ba (show (b25 K && (b26 K && (b27 K && (b28 K && (b29 K && (b30 K && (b31 K && (b32 K && (b33 K && (b34 K && (b35 K))))))))))) = true from g2)
  obtain ⟨y26, g2⟩ := He.ba (show (b26 K && (b27 K && (b28 K && (b29 K && (b30 K && (b31 K && (b32 K && (b33 K && (b34 K && (b35 K)))))))))) = true from g2)
  obtain ⟨y27, g2⟩ := He.ba (show (b27 K && (b28 K && (b29 K && (b30 K && (b31 K && (b32 K && (b33 K && (b34 K && (b35 K))))))))) = true from g2)
  obtain ⟨y28, g2⟩ := He.ba (show (b28 K && (b29 K && (b30 K && (b31 K && (b32 K && (b33 K && (b34 K && (b35 K)))))))) = true from g2)
  obtain ⟨y29, g2⟩ := He.ba (show (b29 K && (b30 K && (b31 K && (b32 K && (b33 K && (b34 K && (b35 K))))))) = true from g2)
  obtain ⟨y30, g2⟩ := He.ba (show (b30 K && (b31 K && (b32 K && (b33 K && (b34 K && (b35 K)))))) = true from g2)
  obtain ⟨y31, g2⟩ := He.ba (show (b31 K && (b32 K && (b33 K && (b34 K && (b35 K))))) = true from g2)
  obtain ⟨y32, g2⟩ := He.ba (show (b32 K && (b33 K && (b34 K && (b35 K)))) = true from g2)
  obtain ⟨y33, g2⟩ := He.ba (show (b33 K && (b34 K && (b35 K))) = true from g2)
  obtain ⟨y34, g2⟩ := He.ba (show (b34 K && (b35 K)) = true from g2)
  have y35 := g2
  obtain ⟨g3, yy⟩ := He.ba (show (q3 K && (q4 K && (q5 K && (q6 K && (q7 K && (q8 K && (q9 K && (q10 K)))))))) = true from yy)
  obtain ⟨y36, g3⟩ := He.ba (show (b36 K && (b37 K && (b38 K && (b39 K && (b40 K && (b41 K && (b42 K && (b43 K && (b44 K && (b45 K && (b46 K && (b47 K)))))))))))) = true from g3)
  obtain ⟨y37, g3⟩ := He.ba (show (b37 K && (b38 K && (b39 K && (b40 K && (b41 K && (b42 K && (b43 K && (b44 K && (b45 K && (b46 K && (b47 K))))))))))) = true from g3)
  obtain ⟨y38, g3⟩ := He.ba (show (b38 K && (b39 K && (b40 K && (b41 K && (b42 K && (b43 K && (b44 K && (b45 K && (b46 K && (b47 K)))))))))) = true from g3)
  obtain ⟨y39, g3⟩ := He.ba (show (b39 K && (b40 K && (b41 K && (b42 K && (b43 K && (b44 K && (b45 K && (b46 K && (b47 K))))))))) = true from g3)
  obtain ⟨y40, g3⟩ := He.ba (show (b40 K && (b41 K && (b42 K && (b43 K && (b44 K && (b45 K && (b46 K && (b47 K)))))))) = true from g3)
  obtain ⟨y41, g3⟩ := He.ba (show (b41 K && (b42 K && (b43 K && (b44 K && (b45 K && (b46 K && (b47 K))))))) = true from g3)
  obtain ⟨y42, g3⟩ := He.ba (show (b42 K && (b43 K && (b44 K && (b45 K && (b46 K && (b47 K)))))) = true from g3)
  obtain ⟨y43, g3⟩ := He.ba (show (b43 K && (b44 K && (b45 K && (b46 K && (b47 K))))) = true from g3)
  obtain ⟨y44, g3⟩ := He.ba (show (b44 K && (b45 K && (b46 K && (b47 K)))) = true from g3)
  obtain ⟨y45, g3⟩ := He.ba (show (b45 K && (b46 K && (b47 K))) = true from g3)
  obtain ⟨y46, g3⟩ := He.ba (show (b46 K && (b47 K)) = true from g3)
  have y47 := g3
  obtain ⟨g4, yy⟩ := He.ba (show (q4 K && (q5 K && (q6 K && (q7 K && (q8 K && (q9 K && (q10 K))))))) = true from yy)
  obtain ⟨y48, g4⟩ := He.ba (show (b48 K && (b49 K && (b50 K && (b51 K && (b52 K && (b53 K && (b54 K && (b55 K && (b56 K && (b57 K && (b58 K && (b59 K)))))))))))) = true from g4)
  obtain ⟨y49, g4⟩ := He.ba (show (b49 K && (b50 K && (b51 K && (b52 K && (b53 K && (b54 K && (b55 K && (b56 K && (b57 K && (b58 K && (b59 K))))))))))) = true from g4)
  obtain ⟨y50, g4⟩ := He.ba (show (b50 K && (b51 K && (b52 K && (b53 K && (b54 K && (b55 K && (b56 K && (b57 K && (b58 K && (b59 K)))))))))) = true from g4)
  obtain ⟨y51, g4⟩ := He.ba (show (b51 K && (b52 K && (b53 K && (b54 K && (b55 K && (b56 K && (b57 K && (b58 K && (b59 K))))))))) = true from g4)
  obtain ⟨y52, g4⟩ := He.ba (show (b52 K && (b53 K && (b54 K && (b55 K && (b56 K && (b57 K && (b58 K && (b59 K)))))))) = true from g4)
  obtain ⟨y53, g4⟩ := He.ba (show (b53 K && (b54 K && (b55 K && (b56 K && (b57 K && (b58 K && (b59 K))))))) = true from g4)
  obtain ⟨y54, g4⟩ := He.ba (show (b54 K && (b55 K && (b56 K && (b57 K && (b58 K && (b59 K)))))) = true from g4)
  obtain ⟨y55, g4⟩ := He.ba (show (b55 K && (b56 K && (b57 K && (b58 K && (b59 K))))) = true from g4)
  obtain ⟨y56, g4⟩ := He.ba (show (b56 K && (b57 K && (b58 K && (b59 K)))) = true from g4)
  obtain ⟨y57, g4⟩ := He.ba (show (b57 K && (b58 K && (b59 K))) = true from g4)
  obtain ⟨y58, g4⟩ := He.ba (show (b58 K && (b59 K)) = true from g4)
  have y59 := g4
  obtain ⟨g5, yy⟩ := He.ba (show (q5 K && (q6 K && (q7 K && (q8 K && (q9 K && (q10 K)))))) = true from yy)
  obtain ⟨y60, g5⟩ := He.ba (show (b60 K && (b61 K && (b62 K && (b63 K && (b64 K && (b65 K && (b66 K && (b67 K && (b68 K && (b69 K && (b70 K && (b71 K)))))))))))) = true from g5)
  obtain ⟨y61, g5⟩ := He.ba (show (b61 K && (b62 K && (b63 K && (b64 K && (b65 K && (b66 K && (b67 K && (b68 K && (b69 K && (b70 K && (b71 K))))))))))) = true from g5)
  obtain ⟨y62, g5⟩ := He.ba (show (b62 K && (b63 K && (b64 K && (b65 K && (b66 K && (b67 K && (b68 K && (b69 K && (b70 K && (b71 K)))))))))) = true from g5)
  obtain ⟨y63, g5⟩ := He.ba (show (b63 K && (b64 K && (b65 K && (b66 K && (b67 K && (b68 K && (b69 K && (b70 K && (b71 K))))))))) = true from g5)
  obtain ⟨y64, g5⟩ := He.ba (show (b64 K && (b65 K && (b66 K && (b67 K && (b68 K && (b69 K && (b70 K && (b71 K)))))))) = true from g5)
  obtain ⟨y65, g5⟩ := He.ba (show (b65 K && (b66 K && (b67 K && (b68 K && (b69 K && (b70 K && (b71 K))))))) = true from g5)
  obtain ⟨y66, g5⟩ := He.ba (show (b66 K && (b67 K && (b68 K && (b69 K && (b70 K && (b71 K)))))) = true from g5)
  obtain ⟨y67, g5⟩ := He.ba (show (b67 K && (b68 K && (b69 K && (b70 K && (b71 K))))) = true from g5)
  obtain ⟨y68, g5⟩ := He.ba (show (b68 K && (b69 K && (b70 K && (b71 K)))) = true from g5)
  obtain ⟨y69, g5⟩ := He.ba (show (b69 K && (b70 K && (b71 K))) = true from g5)
  obtain ⟨y70, g5⟩ := He.ba (show (b70 K && (b71 K)) = true from g5)
  have y71 := g5
  obtain ⟨g6, yy⟩ := He.ba (show (q6 K && (q7 K && (q8 K && (q9 K && (q10 K))))) = true from yy)
  obtain ⟨y72, g6⟩ := He.ba (show (b72 K && (b73 K && (b74 K && (b75 K && (b76 K && (b77 K && (b78 K && (b79 K && (b80 K && (b81 K && (b82 K && (b83 K)))))))))))) = true from g6)
  obtain ⟨y73, g6⟩ := He.ba (show (b73 K && (b74 K && (b75 K && (b76 K && (b77 K && (b78 K && (b79 K && (b80 K && (b81 K && (b82 K && (b83 K))))))))))) = true from g6)
  obtain ⟨y74, g6⟩ := He.ba (show (b74 K && (b75 K && (b76 K && (b77 K && (b78 K && (b79 K && (b80 K && (b81 K && (b82 K && (b83 K)))))))))) = true from g6)
  obtain ⟨y75, g6⟩ := He.ba (show (b75 K && (b76 K && (b77 K && (b78 K && (b79 K && (b80 K && (b81 K && (b82 K && (b83 K))))))))) = true from g6)
  obtain ⟨y76, g6⟩ := He.ba (show (b76 K && (b77 K && (b78 K && (b79 K && (b80 K && (b81 K && (b82 K && (b83 K)))))))) = true from g6)
  obtain ⟨y77, g6⟩ := He.ba (show (b77 K && (b78 K && (b79 K && (b80 K && (b81 K && (b82 K && (b83 K))))))) = true from g6)
  obtain ⟨y78, g6⟩ := He.ba (show (b78 K && (b79 K && (b80 K && (b81 K && (b82 K && (b83 K)))))) = true from g6)
  obtain ⟨y79, g6⟩ := He.ba (show (b79 K && (b80 K && (b81 K && (b82 K && (b83 K))))) = true from g6)
  obtain ⟨y80, g6⟩ := He.ba (show (b80 K && (b81 K && (b82 K && (b83 K)))) = true from g6)
  obtain ⟨y81, g6⟩ := He.ba (show (b81 K && (b82 K && (b83 K))) = true from g6)
  obtain ⟨y82, g6⟩ := He.ba (show (b82 K && (b83 K)) = true from g6)
  have y83 := g6
  obtain ⟨g7, yy⟩ := He.ba (show (q7 K && (q8 K && (q9 K && (q10 K)))) = true from yy)
  obtain ⟨y84, g7⟩ := He.ba (show (b84 K && (b85 K && (b86 K && (b87 K && (b88 K && (b89 K && (b90 K && (b91 K && (b92 K && (b93 K && (b94 K && (b95 K)))))))))))) = true from g7)
  obtain ⟨y85, g7⟩ := He.ba (show (b85 K && (b86 K && (b87 K && (b88 K && (b89 K && (b90 K && (b91 K && (b92 K && (b93 K && (b94 K && (b95 K))))))))))) = true from g7)
  obtain ⟨y86, g7⟩ := He.ba (show (b86 K && (b87 K && (b88 K && (b89 K && (b90 K && (b91 K && (b92 K && (b93 K && (b94 K && (b95 K)))))))))) = true from g7)
  obtain ⟨y87, g7⟩ := He.ba (show (b87 K && (b88 K && (b89 K && (b90 K && (b91 K && (b92 K && (b93 K && (b94 K && (b95 K))))))))) = true from g7)
  obtain ⟨y88, g7⟩ := He.ba (show (b88 K && (b89 K && (b90 K && (b91 K && (b92 K && (b93 K && (b94 K && (b95 K)))))))) = true from g7)
  obtain ⟨y89, g7⟩ := He.ba (show (b89 K && (b90 K && (b91 K && (b92 K && (b93 K && (b94 K && (b95 K))))))) = true from g7)
  obtain ⟨y90, g7⟩ := He.ba (show (b90 K && (b91 K && (b92 K && (b93 K && (b94 K && (b95 K)))))) = true from g7)
  obtain ⟨y91, g7⟩ := He.ba (show (b91 K && (b92 K && (b93 K && (b94 K && (b95 K))))) = true from g7)
  obtain ⟨y92, g7⟩ := He.ba (show (b92 K && (b93 K && (b94 K && (b95 K)))) = true from g7)
  obtain ⟨y93, g7⟩ := He.ba (show (b93 K && (b94 K && (b95 K))) = true from g7)
  obtain ⟨y94, g7⟩ := He.ba (show (b94 K && (b95 K)) = true from g7)
  have y95 := g7
  obtain ⟨g8, yy⟩ := He.ba (show (q8 K && (q9 K && (q10 K))) = true from yy)
  obtain ⟨y96, g8⟩ := He.ba (show (b96 K && (b97 K && (b98 K && (b99 K && (b100 K && (b101 K && (b102 K && (b103 K && (b104 K && (b105 K && (b106 K && (b107 K)))))))))))) = true from g8)
  obtain ⟨y97, g8⟩ := He.ba (show (b97 K && (b98 K && (b99 K && (b100 K && (b101 K && (b102 K && (b103 K && (b104 K && (b105 K && (b106 K && (b107 K))))))))))) = true from g8)
  obtain ⟨y98, g8⟩ := He.ba (show (b98 K && (b99 K && (b100 K && (b101 K && (b102 K && (b103 K && (b104 K && (b105 K && (b106 K && (b107 K)))))))))) = true from g8)
  obtain ⟨y99, g8⟩ := He.ba (show (b99 K && (b100 K && (b101 K && (b102 K && (b103 K && (b104 K && (b105 K && (b106 K && (b107 K))))))))) = true from g8)
  obtain ⟨y100, g8⟩ := He.ba (show (b100 K && (b101 K && (b102 K && (b103 K && (b104 K && (b105 K && (b106 K && (b107 K)))))))) = true from g8)
  obtain ⟨y101, g8⟩ := He.ba (show (b101 K && (b102 K && (b103 K && (b104 K && (b105 K && (b106 K && (b107 K))))))) = true from g8)
  obtain ⟨y102, g8⟩ := He.ba (show (b102 K && (b103 K && (b104 K && (b105 K && (b106 K && (b107 K)))))) = true from g8)
  obtain ⟨y103, g8⟩ := He.ba (show (b103 K && (b104 K && (b105 K && (b106 K && (b107 K))))) = true from g8)
  obtain ⟨y104, g8⟩ := He.ba (show (b104 K && (b105 K && (b106 K && (b107 K)))) = true from g8)
  obtain ⟨y105, g8⟩ := He.ba (show (b105 K && (b106 K && (b107 K))) = true from g8)
  obtain ⟨y106, g8⟩ := He.ba (show (b106 K && (b107 K)) = true from g8)
  have y107 := g8
  obtain ⟨g9, yy⟩ := He.ba (show (q9 K && (q10 K)) = true from yy)
  obtain ⟨y108, g9⟩ := He.ba (show (b108 K && (b109 K && (b110 K && (b111 K && (b112 K && (b113 K && (b114 K && (b115 K && (b116 K && (b117 K && (b118 K && (b119 K)))))))))))) = true from g9)
  obtain ⟨y109, g9⟩ := He.ba (show (b109 K && (b110 K && (b111 K && (b112 K && (b113 K && (b114 K && (b115 K && (b116 K && (b117 K && (b118 K && (b119 K))))))))))) = true from g9)
  obtain ⟨y110, g9⟩ := He.ba (show (b110 K && (b111 K && (b112 K && (b113 K && (b114 K && (b115 K && (b116 K && (b117 K && (b118 K && (b119 K)))))))))) = true from g9)
  obtain ⟨y111, g9⟩ := He.ba (show (b111 K && (b112 K && (b113 K && (b114 K && (b115 K && (b116 K && (b117 K && (b118 K && (b119 K))))))))) = true from g9)
  obtain ⟨y112, g9⟩ := He.ba (show (b112 K && (b113 K && (b114 K && (b115 K && (b116 K && (b117 K && (b118 K && (b119 K)))))))) = true from g9)
  obtain ⟨y113, g9⟩ := He.ba (show (b113 K && (b114 K && (b115 K && (b116 K && (b117 K && (b118 K && (b119 K))))))) = true from g9)
  obtain ⟨y114, g9⟩ := He.ba (show (b114 K && (b115 K && (b116 K && (b117 K && (b118 K && (b119 K)))))) = true from g9)
  obtain ⟨y115, g9⟩ := He.ba (show (b115 K && (b116 K && (b117 K && (b118 K && (b119 K))))) = true from g9)
  obtain ⟨y116, g9⟩ := He.ba (show (b116 K && (b117 K && (b118 K && (b119 K)))) = true from g9)
  obtain ⟨y117, g9⟩ := He.ba (show (b117 K && (b118 K && (b119 K))) = true from g9)
  obtain ⟨y118, g9⟩ := He.ba (show (b118 K && (b119 K)) = true from g9)
  have y119 := g9
  have g10 := yy
  obtain ⟨y120, g10⟩ := He.ba (show (b120 K && (b121 K && (b122 K && (b123 K && (b124 K && (b125 K && (b126 K && (b127 K)))))))) = true from g10)
  obtain ⟨y121, g10⟩ := He.ba (show (b121 K && (b122 K && (b123 K && (b124 K && (b125 K && (b126 K && (b127 K))))))) = true from g10)
  obtain ⟨y122, g10⟩ := He.ba (show (b122 K && (b123 K && (b124 K && (b125 K && (b126 K && (b127 K)))))) = true from g10)
  obtain ⟨y123, g10⟩ := He.ba (show (b123 K && (b124 K && (b125 K && (b126 K && (b127 K))))) = true from g10)
  obtain ⟨y124, g10⟩ := He.ba (show (b124 K && (b125 K && (b126 K && (b127 K)))) = true from g10)
  obtain ⟨y125, g10⟩ := He.ba (show (b125 K && (b126 K && (b127 K))) = true from g10)
  obtain ⟨y126, g10⟩ := He.ba (show (b126 K && (b127 K)) = true from g10)
  have y127 := g10
  have z_aFrom : PySem.W.nsIn K mainGlobals "is_integer_from" = some (some (.ref (He.ga K "is_integer_from"))) := of_decide_eq_true y0
  obtain ⟨v_From, u_From⟩ := c.d 0 (d := d0) rfl
  have z_FFrom : Fun K "is_integer_from" "is_integer_from" sFrom (He.ga K "is_integer_from") v_From := fun_ofD (show FunD K "is_integer_from" "is_integer_from" (defArgs sFrom) (defBody sFrom) (defScope sFrom) [] [] (He.ga K "is_integer_from") v_From from u_From)
  have z_aInt : PySem.W.nsIn K mainGlobals "is_integer_from_to" = some (some (.ref (He.ga K "is_integer_from_to"))) := of_decide_eq_true y1
  obtain ⟨v_Int, u_Int⟩ := c.d 1 (d := d1) rfl
  have z_FInt : Fun K "is_integer_from_to" "is_integer_from_to" sInt (He.ga K "is_integer_from_to") v_Int := fun_ofD (show FunD K "is_integer_from_to" "is_integer_from_to" (defArgs sInt) (defBody sInt) (defScope sInt) [] [] (He.ga K "is_integer_from_to") v_Int from u_Int)
  have z_aTerm : PySem.W.nsIn K mainGlobals "is_term" = some (some (.ref (He.ga K "is_term"))) := of_decide_eq_true y2
  obtain ⟨v_Term, u_Term⟩ := c.d 2 (d := d2) rfl
  have z_FTerm : Fun K "is_term" "is_term" sTerm (He.ga K "is_term") v_Term := fun_ofD (show FunD K "is_term" "is_term" (defArgs sTerm) (defBody sTerm) (defScope sTerm) [] [] (He.ga K "is_term") v_Term from u_Term)
  have z_aCond : PySem.W.nsIn K mainGlobals "is_condition" = some (some (.ref (He.ga K "is_condition"))) := of_decide_eq_true y3
  obtain ⟨v_Cond, u_Cond⟩ := c.d 3 (d := d3) rfl
  have z_FCond : Fun K "is_condition" "is_condition" sCond (He.ga K "is_condition") v_Cond := fun_ofD (show FunD K "is_condition" "is_condition" (defArgs sCond) (defBody sCond) (defScope sCond) [] [] (He.ga K "is_condition") v_Cond from u_Cond)
  have z_aPart : PySem.W.nsIn K mainGlobals "is_part" = some (some (.ref (He.ga K "is_part"))) := of_decide_eq_true y4
  obtain ⟨v_Part, u_Part⟩ := c.d 4 (d := d4) rfl
  have z_FPart : Fun K "is_part" "is_part" sPart (He.ga K "is_part") v_Part := fun_ofD (show FunD K "is_part" "is_part" (defArgs sPart) (defBody sPart) (defScope sPart) [] [] (He.ga K "is_part") v_Part from u_Part)
  have z_aWord : PySem.W.nsIn K mainGlobals "word_of" = some (some (.ref (He.ga K "word_of"))) := of_decide_eq_true y5
  obtain ⟨v_Word, u_Word⟩ := c.d 5 (d := d5) rfl
  have z_FWord : Fun K "word_of" "word_of" sWord (He.ga K "word_of") v_Word := fun_ofD (show FunD K "word_of" "word_of" (defArgs sWord) (defBody sWord) (defScope sWord) [] [] (He.ga K "word_of") v_Word from u_Word)
  have z_aRoles : PySem.W.nsIn K mainGlobals "roles_of" = some (some (.ref (He.ga K "roles_of"))) := of_decide_eq_true y6
  obtain ⟨v_Roles, u_Roles⟩ := c.d 6 (d := d6) rfl
  have z_FRoles : Fun K "roles_of" "roles_of" sRoles (He.ga K "roles_of") v_Roles := fun_ofD (show FunD K "roles_of" "roles_of" (defArgs sRoles) (defBody sRoles) (defScope sRoles) [] [] (He.ga K "roles_of") v_Roles from u_Roles)
  have z_aPlain : PySem.W.nsIn K mainGlobals "is_plain_statement" = some (some (.ref (He.ga K "is_plain_statement"))) := of_decide_eq_true y7
  obtain ⟨v_Plain, u_Plain⟩ := c.d 7 (d := d7) rfl
  have z_FPlain : Fun K "is_plain_statement" "is_plain_statement" sPlain (He.ga K "is_plain_statement") v_Plain := fun_ofD (show FunD K "is_plain_statement" "is_plain_statement" (defArgs sPlain) (defBody sPlain) (defScope sPlain) [] [] (He.ga K "is_plain_statement") v_Plain from u_Plain)
  have z_aOut : PySem.W.nsIn K mainGlobals "is_outside_of_statement" = some (some (.ref (He.ga K "is_outside_of_statement"))) := of_decide_eq_true y8
  obtain ⟨v_Out, u_Out⟩ := c.d 8 (d := d8) rfl
  have z_FOut : Fun K "is_outside_of_statement" "is_outside_of_statement" sOut (He.ga K "is_outside_of_statement") v_Out := fun_ofD (show FunD K "is_outside_of_statement" "is_outside_of_statement" (defArgs sOut) (defBody sOut) (defScope sOut) [] [] (He.ga K "is_outside_of_statement") v_Out from u_Out)
  have z_aBodies : PySem.W.nsIn K mainGlobals "bodies_of" = some (some (.ref (He.ga K "bodies_of"))) := of_decide_eq_true y9
  obtain ⟨v_Bodies, u_Bodies⟩ := c.d 9 (d := d9) rfl
  have z_FBodies : Fun K "bodies_of" "bodies_of" sBodies (He.ga K "bodies_of") v_Bodies := fun_ofD (show FunD K "bodies_of" "bodies_of" (defArgs sBodies) (defBody sBodies) (defScope sBodies) [] [] (He.ga K "bodies_of") v_Bodies from u_Bodies)
  have z_aProg : PySem.W.nsIn K mainGlobals "is_program" = some (some (.ref (He.ga K "is_program"))) := of_decide_eq_true y10
  obtain ⟨v_Prog, u_Prog⟩ := c.d 10 (d := d10) rfl
  have z_FProg : Fun K "is_program" "is_program" sProg (He.ga K "is_program") v_Prog := fun_ofD (show FunD K "is_program" "is_program" (defArgs sProg) (defBody sProg) (defScope sProg) [] [] (He.ga K "is_program") v_Prog from u_Prog)
  have z_aPur : PySem.W.nsIn K mainGlobals "_law_purse" = some (some (.ref (He.ga K "_law_purse"))) := of_decide_eq_true y11
  obtain ⟨v_Pur, u_Pur⟩ := c.d 11 (d := d11) rfl
  have z_FPur : Fun K "_law_purse" "_law_purse" sPur (He.ga K "_law_purse") v_Pur := fun_ofD (show FunD K "_law_purse" "_law_purse" (defArgs sPur) (defBody sPur) (defScope sPur) [] [] (He.ga K "_law_purse") v_Pur from u_Pur)
  have z_aTak : PySem.W.nsIn K mainGlobals "_law_take" = some (some (.ref (He.ga K "_law_take"))) := of_decide_eq_true y12
  obtain ⟨v_Tak, u_Tak⟩ := c.d 12 (d := d12) rfl
  have z_FTak : Fun K "_law_take" "_law_take" sTak (He.ga K "_law_take") v_Tak := fun_ofD (show FunD K "_law_take" "_law_take" (defArgs sTak) (defBody sTak) (defScope sTak) [] [] (He.ga K "_law_take") v_Tak from u_Tak)
  have z_aAlk : PySem.W.nsIn K mainGlobals "_law_alike" = some (some (.ref (He.ga K "_law_alike"))) := of_decide_eq_true y13
  obtain ⟨v_Alk, u_Alk⟩ := c.d 13 (d := d13) rfl
  have z_FAlk : Fun K "_law_alike" "_law_alike" sAlk (He.ga K "_law_alike") v_Alk := fun_ofD (show FunD K "_law_alike" "_law_alike" (defArgs sAlk) (defBody sAlk) (defScope sAlk) [] [] (He.ga K "_law_alike") v_Alk from u_Alk)
  have z_aRf : PySem.W.nsIn K mainGlobals "_law_refused" = some (some (.ref (He.ga K "_law_refused"))) := of_decide_eq_true y14
  obtain ⟨v_Rf, u_Rf⟩ := c.d 14 (d := d14) rfl
  have z_FRf : Fun K "_law_refused" "_law_refused" sRf (He.ga K "_law_refused") v_Rf := fun_ofD (show FunD K "_law_refused" "_law_refused" (defArgs sRf) (defBody sRf) (defScope sRf) [] [] (He.ga K "_law_refused") v_Rf from u_Rf)
  have z_aMo : PySem.W.nsIn K mainGlobals "most_acts" = some (some (.ref (He.ga K "most_acts"))) := of_decide_eq_true y15
  obtain ⟨v_Mo, u_Mo⟩ := c.d 15 (d := d15) rfl
  have z_FMo : Fun K "most_acts" "most_acts" sMost (He.ga K "most_acts") v_Mo := fun_ofD (show FunD K "most_acts" "most_acts" (defArgs sMost) (defBody sMost) (defScope sMost) [] [] (He.ga K "most_acts") v_Mo from u_Mo)
  have z_aBu : PySem.W.nsIn K mainGlobals "busiest" = some (some (.ref (He.ga K "busiest"))) := of_decide_eq_true y16
  obtain ⟨v_Bu, u_Bu⟩ := c.d 16 (d := d16) rfl
  have z_FBu : Fun K "busiest" "busiest" sBus (He.ga K "busiest") v_Bu := fun_ofD (show FunD K "busiest" "busiest" (defArgs sBus) (defBody sBus) (defScope sBus) [] [] (He.ga K "busiest") v_Bu from u_Bu)
  have z_aPa : PySem.W.nsIn K mainGlobals "patient_teller" = some (some (.ref (He.ga K "patient_teller"))) := of_decide_eq_true y17
  obtain ⟨v_Pa, u_Pa⟩ := c.d 17 (d := d17) rfl
  have z_FPa : Fun K "patient_teller" "patient_teller" sPat (He.ga K "patient_teller") v_Pa := fun_ofD (show FunD K "patient_teller" "patient_teller" (defArgs sPat) (defBody sPat) (defScope sPat) [] [] (He.ga K "patient_teller") v_Pa from u_Pa)
  have z_aEmp : PySem.W.nsIn K mainGlobals "empty_standing" = some (some (.ref (He.ga K "empty_standing"))) := of_decide_eq_true y18
  obtain ⟨v_Emp, u_Emp⟩ := c.d 18 (d := d18) rfl
  have z_FEmp : Fun K "empty_standing" "empty_standing" sEmp (He.ga K "empty_standing") v_Emp := fun_ofD (show FunD K "empty_standing" "empty_standing" (defArgs sEmp) (defBody sEmp) (defScope sEmp) [] [] (He.ga K "empty_standing") v_Emp from u_Emp)
  have z_aLaw : PySem.W.nsIn K mainGlobals "law" = some (some (.ref (He.ga K "law"))) := of_decide_eq_true y19
  obtain ⟨v_Law, u_Law⟩ := c.d 19 (d := d19) rfl
  have z_FLaw : FunD K "law" "law" (defArgs sLaw) (defBody sLaw) (defScope sLaw) [] [] (He.ga K "law") v_Law := u_Law
  have z_zisinstance : PySem.W.nsIn K mainGlobals "isinstance" = some none := of_decide_eq_true y20
  have z_zint : PySem.W.nsIn K mainGlobals "int" = some none := of_decide_eq_true y21
  have z_zbool : PySem.W.nsIn K mainGlobals "bool" = some none := of_decide_eq_true y22
  have z_zstr : PySem.W.nsIn K mainGlobals "str" = some none := of_decide_eq_true y23
  have z_ztuple : PySem.W.nsIn K mainGlobals "tuple" = some none := of_decide_eq_true y24
  have z_zlen : PySem.W.nsIn K mainGlobals "len" = some none := of_decide_eq_true y25
  have z_zzip : PySem.W.nsIn K mainGlobals "zip" = some none := of_decide_eq_true y26
  have z_zall : PySem.W.nsIn K mainGlobals "all" = some none := of_decide_eq_true y27
  have z_zabs : PySem.W.nsIn K mainGlobals "abs" = some none := of_decide_eq_true y28
  have z_zmax : PySem.W.nsIn K mainGlobals "max" = some none := of_decide_eq_true y29
  have z_zmin : PySem.W.nsIn K mainGlobals "min" = some none := of_decide_eq_true y30
  have z_zany : PySem.W.nsIn K mainGlobals "any" = some none := of_decide_eq_true y31
  have z_zrange : PySem.W.nsIn K mainGlobals "range" = some none := of_decide_eq_true y32
  have z_zlist : PySem.W.nsIn K mainGlobals "list" = some none := of_decide_eq_true y33
  have z_zsum : PySem.W.nsIn K mainGlobals "sum" = some none := of_decide_eq_true y34
  have z_zrepr : PySem.W.nsIn K mainGlobals "repr" = some none := of_decide_eq_true y35
  have z_zValueError : PySem.W.nsIn K mainGlobals "ValueError" = some none := of_decide_eq_true y36
  obtain ⟨w_gG, z_gG⟩ := intB_ok y37
  obtain ⟨w_gL, z_gL⟩ := intB_ok y38
  obtain ⟨w_gS, z_gS⟩ := intB_ok y39
  obtain ⟨w_gD, z_gD⟩ := intB_ok y40
  have z_mV : PySem.W.nsIn K mainGlobals "VARIABLES" = some (some (.ref (He.ga K "VARIABLES"))) := of_decide_eq_true y41
  have z_qV : ∀ H, SqT K H (He.ga K "VARIABLES") [V.str "a", V.str "b"] := fun H => tupA_ok y42 H
  have z_mC : PySem.W.nsIn K mainGlobals "CONDITION_SIGNS" = some (some (.ref (He.ga K "CONDITION_SIGNS"))) := of_decide_eq_true y43
  have z_qC : ∀ H, SqT K H (He.ga K "CONDITION_SIGNS") [V.str "==", V.str "!=", V.str "<"] := fun H => tupA_ok y44 H
  have z_mA : PySem.W.nsIn K mainGlobals "ASK_SIGNS" = some (some (.ref (He.ga K "ASK_SIGNS"))) := of_decide_eq_true y45
  have z_qA : ∀ H, SqT K H (He.ga K "ASK_SIGNS") [V.str "+", V.str "-", V.str "="] := fun H => tupA_ok y46 H
  have z_mK : PySem.W.nsIn K mainGlobals "KINDS" = some (some (.ref (He.ga K "KINDS"))) := of_decide_eq_true y47
  have z_qK : ∀ H, SqT K H (He.ga K "KINDS") [V.str "teller", V.str "collector"] := fun H => tupA_ok y48 H
  have z_mB : PySem.W.nsIn K mainGlobals "BODIES" = some (some (.ref (He.ga K "BODIES"))) := of_decide_eq_true y49
  obtain ⟨_, _, k_qB⟩ := c.k 0 (t := t0) rfl
  have z_qB : KTab K w (He.ga K "BODIES") [("if", V.int 2), ("while", V.int 1)] := tabB_ok k_qB y50
  have z_mSh : PySem.W.nsIn K mainGlobals "SHARED_ROLES" = some (some (.ref (He.ga K "SHARED_ROLES"))) := of_decide_eq_true y51
  obtain ⟨_, _, k_qSh⟩ := c.k 1 (t := t1) rfl
  have z_qSh : KTab K w (He.ga K "SHARED_ROLES") [("set", V.ref (atD K (He.ga K "SHARED_ROLES") "set")), ("add", V.ref (atD K (He.ga K "SHARED_ROLES") "add")), ("wait", V.ref (atD K (He.ga K "SHARED_ROLES") "wait"))] := tabB_ok k_qSh y52
  have z_qSh0 : ∀ H, SqT K H (atD K (He.ga K "SHARED_ROLES") "set") [V.str "variable", V.str "value"] := fun H => tupA_ok y53 H
  have z_qSh1 : ∀ H, SqT K H (atD K (He.ga K "SHARED_ROLES") "add") [V.str "variable", V.str "term"] := fun H => tupA_ok y54 H
  have z_qSh2 : ∀ H, SqT K H (atD K (He.ga K "SHARED_ROLES") "wait") [V.str "steps"] := fun H => tupA_ok y55 H
  have z_mTe : PySem.W.nsIn K mainGlobals "TELLER_ROLES" = some (some (.ref (He.ga K "TELLER_ROLES"))) := of_decide_eq_true y56
  obtain ⟨_, _, k_qTe⟩ := c.k 2 (t := t2) rfl
  have z_qTe : KTab K w (He.ga K "TELLER_ROLES") [("ask", V.ref (atD K (He.ga K "TELLER_ROLES") "ask")), ("answer", V.ref (atD K (He.ga K "TELLER_ROLES") "answer"))] := tabB_ok k_qTe y57
  have z_qTe0 : ∀ H, SqT K H (atD K (He.ga K "TELLER_ROLES") "ask") [V.str "sign", V.str "term", V.str "variable"] := fun H => tupA_ok y58 H
  have z_qTe1 : ∀ H, SqT K H (atD K (He.ga K "TELLER_ROLES") "answer") [V.str "answer"] := fun H => tupA_ok y59 H
  have z_mCo : PySem.W.nsIn K mainGlobals "COLLECTOR_ROLES" = some (some (.ref (He.ga K "COLLECTOR_ROLES"))) := of_decide_eq_true y60
  obtain ⟨_, _, k_qCo⟩ := c.k 3 (t := t3) rfl
  have z_qCo : KTab K w (He.ga K "COLLECTOR_ROLES") [("grow", V.ref (atD K (He.ga K "COLLECTOR_ROLES") "grow")), ("list", V.ref (atD K (He.ga K "COLLECTOR_ROLES") "list"))] := tabB_ok k_qCo y61
  have z_qCo0 : ∀ H, SqT K H (atD K (He.ga K "COLLECTOR_ROLES") "grow") [V.str "term"] := fun H => tupA_ok y62 H
  have z_qCo1 : ∀ H, SqT K H (atD K (He.ga K "COLLECTOR_ROLES") "list") [V.str "term"] := fun H => tupA_ok y63 H
  have z_ucSt : PySem.W.nsIn K mainGlobals "Standing" = some (some (.ref (He.ga K "Standing"))) := of_decide_eq_true y64
  have z_ucHo : PySem.W.nsIn K mainGlobals "House" = some (some (.ref (He.ga K "House"))) := of_decide_eq_true y65
  have z_pgS : PySem.W.plainGet K (He.ga K "Standing") Str.empty = true := y66
  have z_hdS : PySem.W.hasDictIn K (He.ga K "Standing") = true := y67
  have z_poS : PySem.W.plainOver K (He.ga K "Standing") = true := y68
  have z_saS : PySem.W.findIn K (.ref (He.ga K "Standing")) "__setattr__" = some (some (.builtin "object.__setattr__")) := of_decide_eq_true y69
  have z_mkS : PySem.W.makesIn K (He.ga K "Standing") = true := y70
  have z_kcS : PySem.W.keepIn K (.ref (He.ga K "Standing")) = true := y71
  have z_nS_now : PySem.W.findIn K (.ref (He.ga K "Standing")) "now" = some none := of_decide_eq_true y72
  have z_nS_sets : PySem.W.findIn K (.ref (He.ga K "Standing")) "sets" = some none := of_decide_eq_true y73
  have z_nS_machines : PySem.W.findIn K (.ref (He.ga K "Standing")) "machines" = some none := of_decide_eq_true y74
  have z_nS_ahead : PySem.W.findIn K (.ref (He.ga K "Standing")) "ahead" = some none := of_decide_eq_true y75
  have z_nS_mark : PySem.W.findIn K (.ref (He.ga K "Standing")) "mark" = some none := of_decide_eq_true y76
  have z_pgH : PySem.W.plainGet K (He.ga K "House") Str.empty = true := y77
  have z_hdH : PySem.W.hasDictIn K (He.ga K "House") = true := y78
  have z_poH : PySem.W.plainOver K (He.ga K "House") = true := y79
  have z_saH : PySem.W.findIn K (.ref (He.ga K "House")) "__setattr__" = some (some (.builtin "object.__setattr__")) := of_decide_eq_true y80
  have z_mkH : PySem.W.makesIn K (He.ga K "House") = true := y81
  have z_kcH : PySem.W.keepIn K (.ref (He.ga K "House")) = true := y82
  have z_nH_standing : PySem.W.findIn K (.ref (He.ga K "House")) "standing" = some none := of_decide_eq_true y83
  have z_nH_deeds : PySem.W.findIn K (.ref (He.ga K "House")) "deeds" = some none := of_decide_eq_true y84
  have z_nH_past : PySem.W.findIn K (.ref (He.ga K "House")) "past" = some none := of_decide_eq_true y85
  have z_nH_busy : PySem.W.findIn K (.ref (He.ga K "House")) "busy" = some none := of_decide_eq_true y86
  have z_aSnI : PySem.W.findIn K (.ref (He.ga K "Standing")) "__init__" = some (some (.ref (He.ma K (He.ga K "Standing") "__init__"))) := of_decide_eq_true y87
  have z_iSnI : PySem.W.isFn K (.ref (He.ma K (He.ga K "Standing") "__init__")) = true := y88
  obtain ⟨v_SnI, u_SnI⟩ := c.d 20 (d := d20) rfl
  have z_FSnI : Fun K "__init__" "Standing.__init__" sSnI (He.ma K (He.ga K "Standing") "__init__") v_SnI := fun_ofD (show FunD K "__init__" "Standing.__init__" (defArgs sSnI) (defBody sSnI) (defScope sSnI) [] [] (He.ma K (He.ga K "Standing") "__init__") v_SnI from u_SnI)
  have z_aHoI : PySem.W.findIn K (.ref (He.ga K "House")) "__init__" = some (some (.ref (He.ma K (He.ga K "House") "__init__"))) := of_decide_eq_true y89
  have z_iHoI : PySem.W.isFn K (.ref (He.ma K (He.ga K "House") "__init__")) = true := y90
  obtain ⟨v_HoI, u_HoI⟩ := c.d 21 (d := d21) rfl
  have z_FHoI : Fun K "__init__" "House.__init__" sHoI (He.ma K (He.ga K "House") "__init__") v_HoI := fun_ofD (show FunD K "__init__" "House.__init__" (defArgs sHoI) (defBody sHoI) (defScope sHoI) [] [] (He.ma K (He.ga K "House") "__init__") v_HoI from u_HoI)
  have z_aHoC : PySem.W.findIn K (.ref (He.ga K "House")) "clock" = some (some (.ref (He.ma K (He.ga K "House") "clock"))) := of_decide_eq_true y91
  have z_iHoC : PySem.W.isFn K (.ref (He.ma K (He.ga K "House") "clock")) = true := y92
  obtain ⟨v_HoC, u_HoC⟩ := c.d 22 (d := d22) rfl
  have z_FHoC : Fun K "clock" "House.clock" sHoC (He.ma K (He.ga K "House") "clock") v_HoC := fun_ofD (show FunD K "clock" "House.clock" (defArgs sHoC) (defBody sHoC) (defScope sHoC) [] [] (He.ma K (He.ga K "House") "clock") v_HoC from u_HoC)
  have z_aHoH : PySem.W.findIn K (.ref (He.ga K "House")) "history" = some (some (.ref (He.ma K (He.ga K "House") "history"))) := of_decide_eq_true y93
  have z_iHoH : PySem.W.isFn K (.ref (He.ma K (He.ga K "House") "history")) = true := y94
  obtain ⟨v_HoH, u_HoH⟩ := c.d 23 (d := d23) rfl
  have z_FHoH : Fun K "history" "House.history" sHoH (He.ma K (He.ga K "House") "history") v_HoH := fun_ofD (show FunD K "history" "House.history" (defArgs sHoH) (defBody sHoH) (defScope sHoH) [] [] (He.ma K (He.ga K "House") "history") v_HoH from u_HoH)
  have z_aHoA : PySem.W.findIn K (.ref (He.ga K "House")) "advance" = some (some (.ref (He.ma K (He.ga K "House") "advance"))) := of_decide_eq_true y95
  have z_iHoA : PySem.W.isFn K (.ref (He.ma K (He.ga K "House") "advance")) = true := y96
  obtain ⟨v_HoA, u_HoA⟩ := c.d 24 (d := d24) rfl
  have z_FHoA : FunD K "advance" "House.advance" (defArgs sHoA) (defBody sHoA) (defScope sHoA) [V.int 1] [("watch", V.non)] (He.ma K (He.ga K "House") "advance") v_HoA := u_HoA
  obtain ⟨w_gMT, z_gMT⟩ := intB_ok y97
  obtain ⟨w_gMS, z_gMS⟩ := intB_ok y98
  have z_mO : PySem.W.nsIn K mainGlobals "OTHER_SIDE" = some (some (.ref (He.ga K "OTHER_SIDE"))) := of_decide_eq_true y99
  obtain ⟨_, _, k_qO⟩ := c.k 4 (t := t4) rfl
  have z_qO : KTab K w (He.ga K "OTHER_SIDE") [("left", V.str "right"), ("right", V.str "left")] := tabB_ok k_qO y100
  have z_rcH : PySem.W.nsIn K mainGlobals "HouseError" = some (some (.ref (He.ga K "HouseError"))) := of_decide_eq_true y101
  have z_hH1 : PySem.W.subIn K (.ref (He.ga K "HouseError")) (.type "BaseException") = some true := of_decide_eq_true y102
  have z_hH2 : PySem.W.hasDictIn K (He.ga K "HouseError") = true := y103
  have z_hH3 : PySem.W.typeIn K (.ref (He.ga K "HouseError")) = some (.type "type") := of_decide_eq_true y104
  have z_oc2 : PySem.W.specialIn K (.builtin "object.__class__") "__get__" = some (some (.builtin "getset_descriptor.__get__")) := of_decide_eq_true y105
  have z_oc3 : PySem.W.takesIn K (.builtin "object.__class__") = some true := of_decide_eq_true y106
  have z_rcS : PySem.W.nsIn K mainGlobals "BadSteps" = some (some (.ref (He.ga K "BadSteps"))) := of_decide_eq_true y107
  have z_xS : PySem.W.excIn K (He.ga K "BadSteps") [.type "ValueError", .type "Exception", .type "BaseException", .type "object"] "ValueError.__new__" = true := y108
  have z_xkS : PySem.W.keepIn K (.ref (He.ga K "BadSteps")) = true := y109
  have z_xbS : PySem.W.subIn K (.ref (He.ga K "BadSteps")) (.type "BaseException") = some true := of_decide_eq_true y110
  have z_xtS : PySem.W.typeIn K (.ref (He.ga K "BadSteps")) = some (.type "type") := of_decide_eq_true y111
  have z_xhS : PySem.W.subIn K (.ref (He.ga K "BadSteps")) (.ref (He.ga K "HouseError")) = some true := of_decide_eq_true y112
  have z_xgaS : PySem.W.findIn K (.ref (He.ga K "BadSteps")) "__getattribute__" = some (some (.builtin "BaseException.__getattribute__")) := of_decide_eq_true y113
  have z_xgbS : PySem.W.findIn K (.ref (He.ga K "BadSteps")) "__getattr__" = some none := of_decide_eq_true y114
  have z_xdS : PySem.W.hasDictIn K (He.ga K "BadSteps") = true := y115
  have z_xcS : PySem.W.findIn K (.ref (He.ga K "BadSteps")) "__class__" = some (some (.builtin "object.__class__")) := of_decide_eq_true y116
  have z_xmS : PySem.W.mroIn K (He.ga K "BadSteps") (.type "object") = some true := of_decide_eq_true y117
  have z_xsS : PySem.W.subIn K (.ref (He.ga K "BadSteps")) (.ref (He.ga K "BadSteps")) = some true := of_decide_eq_true y118
  have z_xvS : PySem.W.subIn K (.ref (He.ga K "BadSteps")) (.type "ValueError") = some true := of_decide_eq_true y119
  have z_rcP : PySem.W.nsIn K mainGlobals "BadProgram" = some (some (.ref (He.ga K "BadProgram"))) := of_decide_eq_true y120
  have z_xncP : PySem.W.subIn K (.ref (He.ga K "BadSteps")) (.ref (He.ga K "BadProgram")) = some false := of_decide_eq_true y121
  have z_odcP : PySem.W.hasDictIn K (He.ga K "BadProgram") = true := y122
  have z_oycP : PySem.W.typeIn K (.ref (He.ga K "BadProgram")) = some (.type "type") := of_decide_eq_true y123
  have z_rcB : PySem.W.nsIn K mainGlobals "BadSide" = some (some (.ref (He.ga K "BadSide"))) := of_decide_eq_true y124
  have z_xncB : PySem.W.subIn K (.ref (He.ga K "BadSteps")) (.ref (He.ga K "BadSide")) = some false := of_decide_eq_true y125
  have z_odcB : PySem.W.hasDictIn K (He.ga K "BadSide") = true := y126
  have z_oycB : PySem.W.typeIn K (.ref (He.ga K "BadSide")) = some (.type "type") := of_decide_eq_true y127
  exact all_mk X G hfa z_aFrom z_FFrom z_aInt z_FInt z_aTerm z_FTerm z_aCond z_FCond z_aPart z_FPart z_aWord z_FWord z_aRoles z_FRoles z_aPlain z_FPlain z_aOut z_FOut z_aBodies z_FBodies z_aProg z_FProg z_aPur z_FPur z_aTak z_FTak z_aAlk z_FAlk z_aRf z_FRf z_aMo z_FMo z_aBu z_FBu z_aPa z_FPa z_aEmp z_FEmp z_aLaw z_FLaw z_zisinstance z_zint z_zbool z_zstr z_ztuple z_zlen z_zzip z_zall z_zabs z_zmax z_zmin z_zany z_zrange z_zlist z_zsum z_zrepr z_zValueError z_gG z_gL z_gS z_gD z_mV z_qV z_mC z_qC z_mA z_qA z_mK z_qK z_mB z_qB z_mSh z_qSh z_qSh0 z_qSh1 z_qSh2 z_mTe z_qTe z_qTe0 z_qTe1 z_mCo z_qCo z_qCo0 z_qCo1 z_ucSt z_ucHo z_pgS z_hdS z_poS z_saS z_mkS z_kcS z_nS_now z_nS_sets z_nS_machines z_nS_ahead z_nS_mark z_pgH z_hdH z_poH z_saH z_mkH z_kcH z_nH_standing z_nH_deeds z_nH_past z_nH_busy z_aSnI z_iSnI z_FSnI z_aHoI z_iHoI z_FHoI z_aHoC z_iHoC z_FHoC z_aHoH z_iHoH z_FHoH z_aHoA z_iHoA z_FHoA z_gMT z_gMS z_mO z_qO z_rcH z_hH1 z_hH2 z_hH3 z_oc2 z_oc3 z_rcS z_xS z_xkS z_xbS z_xtS z_xhS z_xgaS z_xgbS z_xdS z_xcS z_xmS z_xsS z_xvS z_rcP z_xncP z_odcP z_oycP z_rcB z_xncB z_odcB z_oycB
abbrev RR : PySem.W.OpenRow := PySem.W.OpenLaw.row PySem.Challenge.rw_neithertells_k47_bounds
def lo0 : List PySem.Str := ["_wall", "detached", "HouseError", "BadProgram", "BadSide", "BadSteps", "NoMachine", "Full", "TooMany", "Busy", "MOST_STATEMENTS", "MOST_DEPTH"]
def lo1 : List PySem.Str := ["LONGEST_WAIT", "GREATEST_VALUE", "KINDS", "VARIABLES", "CONDITION_SIGNS", "ASK_SIGNS", "BODIES", "SHARED_ROLES", "TELLER_ROLES", "COLLECTOR_ROLES", "is_integer_from", "is_integer_from_to"]
def lo2 : List PySem.Str := ["is_term", "is_condition", "is_part", "word_of", "roles_of", "is_plain_statement", "is_outside_of_statement", "bodies_of", "is_program", "MOST_TELLERS", "most_acts", "busiest"]
def lo3 : List PySem.Str := ["patient_teller", "assemble", "body_code", "statement_code", "while_code", "if_code", "cost", "Walk", "MOST_LISTED", "list_parts", "first_steps", "Listing"]
def lo4 : List PySem.Str := ["Run", "teller_run", "repeated", "TellerWalk", "OTHER_SIDE", "Badge", "new_machine", "Teller", "Collector", "show", "body_lines", "statement_lines"]
def lo5 : List PySem.Str := ["plain_line", "joined", "Standing", "empty_standing", "SIDES", "MOST_MACHINES", "MOST_STEPS", "check_side", "House", "_law_purse", "_law_take", "_law_alike"]
def lo6 : List PySem.Str := ["_law_refused"]
def lo : List PySem.Str := lo0 ++ (lo1 ++ (lo2 ++ (lo3 ++ (lo4 ++ (lo5 ++ (lo6))))))
abbrev hk : PySem.W.Hook := hookM ex ld lt
def ob (s : PySem.W.SharedT) : AlM := obsMG s.n ex ld lt (HandSHeadRun.getT s)
theorem ob_eq (s : PySem.W.SharedT) : ob s = hk.obs s.abs := obsMG_eq s
set_option maxHeartbeats 0 in
theorem run_false (w : World) : HandSHeadRun.RunEq RR (PySem.W.view RR.prog [85]) hk ob 20000 lo (w.withFollow "special-get-raises" false) := by
  intro os
  kernel_rfl
set_option maxHeartbeats 0 in
theorem run_true (w : World) : HandSHeadRun.RunEq RR (PySem.W.view RR.prog [85]) hk ob 20000 lo (w.withFollow "special-get-raises" true) := by
  intro os
  kernel_rfl
theorem run (w : World) : HandSHeadRun.RunEq RR (PySem.W.view RR.prog [85]) hk ob 20000 lo w := PySem.W.byRow2 "special-get-raises" (P := fun w => HandSHeadRun.RunEq RR (PySem.W.view RR.prog [85]) hk ob 20000 lo w) run_false run_true w
end My
open PySem PySem.W PySem.Calls PyProof.Rows
set_option maxRecDepth 100000 in
set_option maxHeartbeats 0 in
theorem PySem.Challenge.cw_neithertells_k47_bounds_holds : PySem.Challenge.rw_neithertells_k47_bounds.Holds := by
  w_on; o_law
  refine HandSHeadRun.head_any (r := My.RR) (q := PySem.W.view My.RR.prog [85]) (H := My.hk) (ob := My.ob) (M := 20000) (loose := My.lo) (d := HandSHeadRun.topDef My.RR.prog 85) (kwd := []) My.ob_eq
    (by kernel_rfl) (fun s => by kernel_rfl) My.run (by kernel_rfl) (by kernel_rfl) (by kernel_rfl) (by rfl) (by first | assumption | decide +kernel) (by decide +kernel) ⟨rfl, rfl, rfl, rfl, rfl, by decide +kernel⟩ ?hw ?hc
  case hw => w_witness2
  case hc =>
    refine My.walk_ofH (l := PySem.Challenge.rw_neithertells_k47_bounds) (n := 63) (k := 8) (x := "_law_script") rfl (by decide) (by kernel_rfl) ⟨rfl, by decide, by decide⟩ ?F
    intro w mg fa h Y G hmg0
    obtain ⟨K, KX, c⟩ := Y
    have hmg : mg ("law" : PySem.Str) = some (.ref fa) := by
      have e : (HandSHeadRun.topDef My.RR.prog 85).name = ("law" : PySem.Str) := by kernel_rfl
      rw [← e]
      exact hmg0
    obtain ⟨fd, hb, hF⟩ := My.facts (l := PySem.Challenge.rw_neithertells_k47_bounds) (w := w) KX G hmg c
    exact ⟨K, fd, My.spLaw K, KX, hb, fun H a ns hl _ hS => ⟨a, ns, rfl, hS, hl, fun _ => rfl⟩, hF⟩


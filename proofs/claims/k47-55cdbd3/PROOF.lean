import PyProof.Rows.All
import Wide.All
import OpenK.AllK
import Wide.FinOn
import HandS.ForMost
import HandS.IsInst
import HandS.Zip
import HandS.More
import HandS.TupAny
import HandS.TupLe
import HandS.Wide
import HandS.NoneIn
import HandS.Deep
import HandS.Star
import HandS.ForExc
import HandS.ExcIs
import HandS.ClsMeth
import HandS.MakeKw
import HandS.DictComp
import HandS.SortInts
import HandS.Defaults
import HandS.Conv
import HandS.MakeKwOnly
import HandS.Text
import HandS.Walk
import HandS.SetKeys
import HandS.SortRule
import HandS.SlotsOwn
import HandS.OwnEq
import PyProof.WalkInts
import HandS.SortKw
import HandS.SetBool
import HandS.Strs
import PyProof.DictUpdate
import PyProof.DictDisplay
import HandS.RaiseMore
import HandS.Style
import HandS.CallSlots
import HandS.Hot
import HandS.ExcCtx
import PySem.Challenge.RW_neithertells_k47_bounds
set_option Elab.async false
set_option linter.all false
set_option maxRecDepth 100000
set_option maxHeartbeats 8000000
namespace My
open PySem L2
def top (i : Nat) : Stmt := PySem.Challenge.pw_neithertells_k47_bounds.main.body.getD i (.Pass ⟨0, 0, 0, 0⟩)
abbrev sFrom : Stmt := top 24
abbrev sInt : Stmt := top 25
abbrev sTerm : Stmt := top 26
abbrev sCond : Stmt := top 27
abbrev sPart : Stmt := top 28
abbrev sWord : Stmt := top 29
abbrev sRoles : Stmt := top 30
abbrev sPlain : Stmt := top 31
abbrev sOut : Stmt := top 32
abbrev sBodies : Stmt := top 33
abbrev sProg : Stmt := top 34

/-! ### the mathematics of programs -/
def inS (d : PyData) (zs : List Str) : Bool := match d with | .str z => zs.any (· == z) | _ => false
def intIn (d : PyData) (lo hi : Int) : Bool := match d with | .int i => decide (lo ≤ i) && decide (i ≤ hi) | _ => false
def intFrom (d : PyData) (lo : Int) : Bool := match d with | .int i => decide (lo ≤ i) | _ => false
def vars : List Str := ["a", "b"]
def signs : List Str := ["==", "!=", "<"]
def asks : List Str := ["+", "-", "="]
def kinds : List Str := ["teller", "collector"]
def isTerm (d : PyData) : Bool := inS d vars || intIn d 0 15
def isCond (d : PyData) : Bool := match d with
  | .tuple [x, y, z] => inS x vars && inS y signs && isTerm z
  | _ => false
def longest : Int := 1000000000000000000000000000000
def isPart (d : PyData) (r : Str) : Bool :=
  if r = "variable" then inS d vars else if r = "term" then isTerm d else if r = "sign" then inS d asks else if r = "steps" then intIn d 1 longest
  else if r = "answer" then intIn d 0 1 else intIn d 0 15

/-! ### rules -/
section
variable {X : Cx}
theorem depth_strs (zs : List Str) : PyData.depthAll (zs.map PyData.str) = 0 := by
  induction zs with
  | nil => rfl
  | cons z r ih => simp only [List.map_cons, PyData.depthAll, PyData.depth, ih]; rfl
theorem lay_strs : ∀ (zs : List Str), zs.all PyData.strOk = true → PyData.canLayAll0 (zs.map PyData.str) = true
  | [], _ => by simp [PyData.canLayAll0]
  | z :: r, h => by
    simp only [List.all_cons, Bool.and_eq_true] at h
    simp only [List.map_cons, PyData.canLayAll0, PyData.canLay0, Bool.and_eq_true]
    exact ⟨h.1, lay_strs r h.2⟩
theorem any_strs (d : PyData) : ∀ (zs : List Str), ((zs.map PyData.str).any fun y => PyData.eqv y d) = inS d zs
  | [] => by cases d <;> rfl
  | z :: r => by
    have ih := any_strs d r
    rw [List.map_cons, List.any_cons, ih]
    cases d <;> simp [inS, PyData.eqv]
theorem dp_strs {K : PySem.W.Frag} {H : Hp} : ∀ zs : List Str, DpAll K H (zs.map V.str) (zs.map PyData.str)
  | [] => .nil
  | z :: r => .cons (.str z) (dp_strs r)
def rInS (K : PySem.W.Frag) (neg : Bool) : R2 := fun x y H Q => ∃ (d : PyData) (zs : List Str) (p : Addr), y = .ref p ∧ Dp K H x d ∧ d.canLay0 = true ∧ SqT K H p (zs.map V.str) ∧ zs.all PyData.strOk = true ∧
  Q (.bl (if neg then !inS d zs else inS d zs)) H
theorem op_inS (hu : X.A.units + 65 < cLine) : OpR X (compareOp .In) (rInS X.K false) := by
  intro pins s σ H x y v u Q I rx ry h
  obtain ⟨d, zs, p, rfl, hd, ld, hz, oz, q⟩ := h
  obtain ⟨as, r1⟩ := Dp.reads I d x v hd rx
  obtain ⟨bs, r2⟩ := Dp.reads I (.tuple (zs.map PyData.str)) (.ref p) u (.tup hz (dp_strs zs)) ry
  refine SeqAt.in_tuple_reads r2 r1 (lay_strs zs oz) ld ?_ ⟨.bl _, H, I, rfl, ?_⟩
  · rw [depth_strs]
    have := Nat.min_le_left 0 d.depth
    omega
  · rw [any_strs]; exact q
theorem op_notInS (hu : X.A.units + 65 < cLine) : OpR X (compareOp .NotIn) (rInS X.K true) := by
  intro pins s σ H x y v u Q I rx ry h
  obtain ⟨d, zs, p, rfl, hd, ld, hz, oz, q⟩ := h
  obtain ⟨as, r1⟩ := Dp.reads I d x v hd rx
  obtain ⟨bs, r2⟩ := Dp.reads I (.tuple (zs.map PyData.str)) (.ref p) u (.tup hz (dp_strs zs)) ry
  refine SeqAt.notIn_tuple_reads r2 r1 (lay_strs zs oz) ld ?_ ⟨.bl _, H, I, rfl, ?_⟩
  · rw [depth_strs]
    have := Nat.min_le_left 0 d.depth
    omega
  · rw [any_strs]; exact q
end
section
variable {X : Cx}
theorem pe_gref {x : Str} {a : Addr} {pos : Pos} (hg : Gl X x) (hm : X.mg x = some (.ref a)) (hd : (x == ("__debug__" : Str)) = false := by decide) : PE X (.Name x pos) (tC (.ref a)) := pe_glob hg hm rfl hd
theorem pe_gint {x : Str} {i : Int} {t : Tok} {pos : Pos} (hg : Gl X x) (hm : X.mg x = some (.int i t)) (hd : (x == ("__debug__" : Str)) = false := by decide) : PE X (.Name x pos) (tC (.int i)) := pe_glob hg hm ⟨t, rfl⟩ hd
end
/-- the name of the type -/
def tyN : PyData → String
  | .none => "NoneType"
  | .bool _ => "bool"
  | .int _ => "int"
  | .str _ => "str"
  | .list _ => "list"
  | .tuple _ => "tuple"
  | .dict _ => "dict"
theorem dp_ty {K : PySem.W.Frag} {H : Hp} {v : V} {d : PyData} (h : Dp K H v d) : TyX K H v (.type (tyN d)) := by
  cases h with
  | non => exact .base .non
  | bl b => exact .base (.bl b)
  | int i => exact .base (.int i)
  | str x => exact .base (.str x)
  | lst hs _ =>
    rcases hs with (h | ⟨o, h⟩) | ⟨o, its, n, hk, hc, _⟩
    · exact .base (.lst h)
    · exact .base (.frz h)
    · exact .kList hk hc
  | tup hs _ =>
    rcases hs with (h | ⟨o, h⟩) | ⟨o, its, n, hk, hc, _⟩
    · exact .base (.tup h)
    · exact .fTuple h
    · exact .kTuple hk hc
def isT (d : PyData) (T : String) : Bool := match d with
  | .bool _ => T == "bool" || T == "int"
  | _ => tyN d == T
theorem kit_isT {K : PySem.W.Frag} (d : PyData) {T : String} (h : T = "int" ∨ T = "bool" ∨ T = "str" ∨ T = "tuple" ∨ T = "list") (nd : ∀ k, d ≠ .dict k) : PySem.W.kitOne K (.type (tyN d)) (.type T) = some (isT d T) := by
  refine kit_ty ?_
  rcases h with rfl | rfl | rfl | rfl | rfl <;> cases d <;> first | (exact absurd rfl (nd _)) | (simp only [tyN, isT]; decide +kernel)

/-! ### what the module's names hold -/
structure Gs (K : PySem.W.Frag) (mg : Str → Option Value) where
  isi : mg "isinstance" = none
  int : mg "int" = none
  bool : mg "bool" = none
  str : mg "str" = none
  tup : mg "tuple" = none
  len : mg "len" = none
  zip : mg "zip" = none
  all : mg "all" = none
  aV : Addr
  mV : mg "VARIABLES" = some (.ref aV)
  kV : ∀ H, SqT K H aV (vars.map V.str)
  aC : Addr
  mC : mg "CONDITION_SIGNS" = some (.ref aC)
  kC : ∀ H, SqT K H aC (signs.map V.str)
  aA : Addr
  mA : mg "ASK_SIGNS" = some (.ref aA)
  kA : ∀ H, SqT K H aA (asks.map V.str)
  aK : Addr
  mK : mg "KINDS" = some (.ref aK)
  kK : ∀ H, SqT K H aK (kinds.map V.str)
  tG : Tok
  mG : mg "GREATEST_VALUE" = some (.int 15 tG)
  tL : Tok
  mL : mg "LONGEST_WAIT" = some (.int longest tL)
  tS : Tok
  mS : mg "MOST_STATEMENTS" = some (.int 24 tS)
  tD : Tok
  mD : mg "MOST_DEPTH" = some (.int 4 tD)

/-! ### promises -/
abbrev Lay (d : PyData) : Prop := d.canLay0 = true
def spInt (K : PySem.W.Frag) : Sp := fun vs H Q _ => ∃ (v : V) (d : PyData) (lo hi : Int), vs = [v, .int lo, .int hi] ∧ Dp K H v d ∧ Q (.bl (intIn d lo hi)) H
def spFrom (K : PySem.W.Frag) : Sp := fun vs H Q _ => ∃ (v : V) (d : PyData) (lo : Int), vs = [v, .int lo] ∧ Dp K H v d ∧ Q (.bl (intFrom d lo)) H
def sp1 (f : PyData → Bool) (K : PySem.W.Frag) : Sp := fun vs H Q _ => ∃ (v : V) (d : PyData), vs = [v] ∧ Dp K H v d ∧ Lay d ∧ Q (.bl (f d)) H
theorem dp_nd {K : PySem.W.Frag} {H : Hp} {v : V} {d : PyData} (h : Dp K H v d) : ∀ k, d ≠ .dict k := by
  intro k e
  subst e
  cases h
section
variable {P : Program} {w : World} {K : PySem.W.Frag} {mg : Str → Option Value} {base : Heap}
theorem scFrom : FnScope ["thing", "least"] ["thing", "least"] (defScope sFrom) := ⟨rfl, rfl, rfl, by decide +kernel, rfl, by decide +kernel, by decide +kernel⟩
theorem ok_from {f : Addr} {fd : FuncData} (F : Fun K "is_integer_from" "is_integer_from" sFrom f fd) (T : Gs K mg) : FnOk P w K mg base CX0 1 f fd ["thing", "least"] (spFrom K) := by
  refine F.ok scFrom (fun vs H Q E h => ?_) (fun cdv A outer s H vs Q E hr h => ?_)
  · obtain ⟨v, d, lo, rfl, _⟩ := h
    rfl
  obtain ⟨v, d, lo, rfl, hd, q⟩ := h
  refine ⟨_, pss_one (ps_ret (pe_and (pe_callB call_isi (by rfl) T.isi (by decide +kernel) (pa_cons (pv 0) (pa_cons (pe_bltn (v := .ty "int") (by rfl) T.int (by decide +kernel) rfl) pa_nil)))
    (pe_and (pe_not (pe_callB call_isi (by rfl) T.isi (by decide +kernel) (pa_cons (pv 0) (pa_cons (pe_bltn (v := .ty "bool") (by rfl) T.bool (by decide +kernel) rfl) pa_nil))))
      (pe_one (pe_cmpR op_le (pv 1) (pv 0) (by rfl)))))), ?_⟩
  refine ⟨_, rfl, v, .ty "int", _, _, _, rfl, .ty _, dp_ty hd, kit_isT d (by simp) (dp_nd hd), _, rfl, ?_⟩
  cases hd with
  | int i =>
    refine ite2 (fun _ => ?_) (fun c => absurd (by rfl) c)
    refine ⟨_, rfl, _, .ty "bool", _, _, _, rfl, .ty _, dp_ty (.int i), kit_isT (.int i) (by simp) (fun _ e => nomatch e), _, rfl, _, rfl, ?_⟩
    refine ite2 (fun _ => ?_) (fun c => absurd (by rfl) c)
    exact ⟨_, rfl, _, rfl, _, _, rfl, rfl, q⟩
  | bl b =>
    refine ite2 (fun _ => ?_) (fun c => absurd (by rfl) c)
    refine ⟨_, rfl, _, .ty "bool", _, _, _, rfl, .ty _, dp_ty (.bl b), kit_isT (.bool b) (by simp) (fun _ e => nomatch e), _, rfl, _, rfl, ?_⟩
    exact ite2 (fun c => absurd (show false = true from c) (by decide)) (fun _ => q)
  | non => exact ite2 (fun c => absurd (show false = true from c) (by decide)) (fun _ => q)
  | str x => exact ite2 (fun c => absurd (show false = true from c) (by decide)) (fun _ => q)
  | lst _ _ => exact ite2 (fun c => absurd (show false = true from c) (by decide)) (fun _ => q)
  | tup _ _ => exact ite2 (fun c => absurd (show false = true from c) (by decide)) (fun _ => q)
structure Cal (P : Program) (w : World) (K : PySem.W.Frag) (mg : Str → Option Value) (base : Heap) (k : Nat) (x : Str) (ps : List Str) (sp : Sp) where
  f : Addr
  fd : FuncData
  G : FnOk P w K mg base CX0 k f fd ps sp
  b : Binds K fd ps []
  kp : PySem.W.keepIn K (.ref f) = true
  m : mg x = some (.ref f)
theorem scInt : FnScope ["thing", "least", "greatest"] ["thing", "least", "greatest"] (defScope sInt) := ⟨rfl, rfl, rfl, by decide +kernel, rfl, by decide +kernel, by decide +kernel⟩
theorem ok_int {f : Addr} {fd : FuncData} (F : Fun K "is_integer_from_to" "is_integer_from_to" sInt f fd) (CF : Cal P w K mg base 1 "is_integer_from" ["thing", "least"] (spFrom K)) : FnOk P w K mg base CX0 2 f fd ["thing", "least", "greatest"] (spInt K) := by
  refine F.ok scInt (fun vs H Q E h => ?_) (fun cdv A outer s H vs Q E hr h => ?_)
  · obtain ⟨v, d, lo, hi, rfl, _⟩ := h
    rfl
  obtain ⟨v, d, lo, hi, rfl, hd, q⟩ := h
  refine ⟨_, pss_one (ps_ret (pe_and (pe_call CF.G hr rfl CF.m CF.kp CF.b .nil pass0 (pa_cons (pv 0) (pa_cons (pv 1) pa_nil))) (pe_one (pe_cmpR op_le (pv 0) (pv 2) (by rfl))))), ?_⟩
  refine ⟨_, rfl, _, rfl, v, d, lo, rfl, hd, _, rfl, ?_⟩
  cases hd with
  | int i =>
    by_cases h1 : lo ≤ i
    · have e : intIn (.int i) lo hi = decide (i ≤ hi) := by simp [intIn, h1]
      rw [e] at q
      refine ite2 (fun _ => ⟨_, rfl, _, rfl, _, _, rfl, rfl, q⟩) (fun c => absurd (show decide (lo ≤ i) = true from decide_eq_true h1) c)
    · have e : intIn (.int i) lo hi = false := by simp [intIn, h1]
      rw [e] at q
      have e2 : intFrom (.int i) lo = false := decide_eq_false h1
      rw [e2]
      exact iteF q
  | bl b => exact ite2 (fun c => absurd (show false = true from c) (by decide)) (fun _ => q)
  | non => exact ite2 (fun c => absurd (show false = true from c) (by decide)) (fun _ => q)
  | str x => exact ite2 (fun c => absurd (show false = true from c) (by decide)) (fun _ => q)
  | lst _ _ => exact ite2 (fun c => absurd (show false = true from c) (by decide)) (fun _ => q)
  | tup _ _ => exact ite2 (fun c => absurd (show false = true from c) (by decide)) (fun _ => q)
end
theorem hu65 {k : Nat} {A : Around} (hr : Room k A) : A.units + 65 < cLine := by have := hr.un; omega
theorem dp_tup_inv {K : PySem.W.Frag} {H : Hp} {v : V} {ds : List PyData} (h : Dp K H v (.tuple ds)) : ∃ a xs, v = .ref a ∧ SqT K H a xs ∧ DpAll K H xs ds := by
  cases h with
  | tup hs ha => exact ⟨_, _, rfl, hs, ha⟩
theorem dpAll_len {K : PySem.W.Frag} {H : Hp} : ∀ {xs : List V} {ds : List PyData}, DpAll K H xs ds → xs.length = ds.length
  | _, _, .nil => rfl
  | _, _, .cons _ t => by rw [List.length_cons, List.length_cons, dpAll_len t]
theorem dpAll_get {K : PySem.W.Frag} {H : Hp} : ∀ {xs : List V} {ds : List PyData} {i : Nat} {x : V}, DpAll K H xs ds → xs[i]? = some x → ∃ d, ds[i]? = some d ∧ Dp K H x d
  | _, _, 0, _, .cons h _, e => by
    cases e
    exact ⟨_, rfl, h⟩
  | _, _, i + 1, _, .cons _ t, e => dpAll_get (i := i) t e
theorem lay_mem : ∀ {ds : List PyData}, PyData.canLayAll0 ds = true → ∀ d ∈ ds, Lay d
  | x :: r, h, d, m => by
    simp only [PyData.canLayAll0, Bool.and_eq_true] at h
    rcases List.mem_cons.mp m with e | m
    · rw [e]; exact h.1
    · exact lay_mem h.2 d m
theorem lay_tup {ds : List PyData} (h : Lay (.tuple ds)) : PyData.canLayAll0 ds = true := by
  unfold Lay at h
  simpa only [PyData.canLay0] using h
theorem isT_tup {d : PyData} (h : isT d "tuple" = true) : ∃ ds, d = .tuple ds := by
  cases d with
  | tuple ds => exact ⟨ds, rfl⟩
  | _ => simp [isT, tyN] at h
theorem isT_str {d : PyData} (h : isT d "str" = true) : ∃ z, d = .str z := by
  cases d with
  | str ds => exact ⟨ds, rfl⟩
  | _ => simp [isT, tyN] at h
theorem same_new {H : Hp} {p : Addr} (h : H p = none) (o : HO) : Same H (upd H p o) := fun b u q => by rw [upd_ne (ne_of_none q h)]; exact q
theorem Same.tup {K : PySem.W.Frag} {H H' : Hp} {a : Addr} {xs : List V} (e : Same H H') (h : SqT K H a xs) : SqT K H' a xs := by
  rcases h with (h | ⟨o, h⟩) | h
  · exact .inl (.inl (e _ _ h))
  · exact .inl (.inr ⟨o, e _ _ h⟩)
  · exact .inr h
mutual
theorem dp_mono {K : PySem.W.Frag} {H H' : Hp} (e : Same H H') : ∀ (d : PyData) (v : V), Dp K H v d → Dp K H' v d
  | .none, _, h => by cases h; exact .non
  | .bool b, _, h => by cases h; exact .bl b
  | .int i, _, h => by cases h; exact .int i
  | .str x, _, h => by cases h; exact .str x
  | .list ds, _, h => by
    cases h with
    | lst hs ha => exact .lst (e.seq hs) (dpAll_mono e ds _ ha)
  | .tuple ds, _, h => by
    cases h with
    | tup hs ha => exact .tup (Same.tup e hs) (dpAll_mono e ds _ ha)
  | .dict _, _, h => by cases h
theorem dpAll_mono {K : PySem.W.Frag} {H H' : Hp} (e : Same H H') : ∀ (ds : List PyData) (vs : List V), DpAll K H vs ds → DpAll K H' vs ds
  | [], _, h => by cases h; exact .nil
  | d :: ds, _, h => by
    cases h with
    | cons hd ht => exact .cons (dp_mono e d _ hd) (dpAll_mono e ds _ ht)
end
def wordOf : PyData → Option Str
  | .tuple (.str z :: _) => some z
  | _ => none
def wV : Option Str → V
  | some z => .str z
  | none => .non
def spPart (K : PySem.W.Frag) : Sp := fun vs H Q _ => ∃ (v : V) (d : PyData) (r : Str), vs = [v, .str r] ∧ Dp K H v d ∧ Lay d ∧ Q (.bl (isPart d r)) H
def spWord (K : PySem.W.Frag) : Sp := fun vs H Q _ => ∃ (v : V) (d : PyData), vs = [v] ∧ Dp K H v d ∧ Q (wV (wordOf d)) H
section
variable {P : Program} {w : World} {K : PySem.W.Frag} {mg : Str → Option Value} {base : Heap}
theorem scTerm : FnScope ["thing"] ["thing"] (defScope sTerm) := ⟨rfl, rfl, rfl, by decide +kernel, rfl, by decide +kernel, by decide +kernel⟩
theorem ok_term {f : Addr} {fd : FuncData} (F : Fun K "is_term" "is_term" sTerm f fd) (T : Gs K mg) (CI : Cal P w K mg base 2 "is_integer_from_to" ["thing", "least", "greatest"] (spInt K)) :
    FnOk P w K mg base CX0 3 f fd ["thing"] (sp1 isTerm K) := by
  refine F.ok scTerm (fun vs H Q E h => ?_) (fun cdv A outer s H vs Q E hr h => ?_)
  · obtain ⟨v, d, rfl, _⟩ := h
    rfl
  obtain ⟨v, d, rfl, hd, ld, q⟩ := h
  refine ⟨_, pss_one (ps_ret (pe_or (pe_cmpR (op_inS (hu65 hr)) (pv 0) (pe_gref rfl T.mV) (by rfl)) (pe_one (pe_call CI.G hr rfl CI.m CI.kp CI.b .nil pass0 (pa_cons (pv 0) (pa_cons pe_int (pa_cons (pe_gint rfl T.mG) pa_nil))))))), ?_⟩
  refine ⟨_, rfl, d, vars, T.aV, rfl, hd, ld, T.kV _, by decide +kernel, _, rfl, ?_⟩
  refine ite2 (fun c => ?_) (fun c => ?_)
  · have e : isTerm d = true := by unfold isTerm; rw [show inS d vars = true from c]; rfl
    rw [e] at q
    exact q
  · refine ⟨_, rfl, v, d, 0, 15, rfl, hd, ?_⟩
    have e : isTerm d = intIn d 0 15 := by unfold isTerm; rw [show inS d vars = false from Bool.eq_false_iff.mpr c]; rfl
    rw [e] at q
    exact q
theorem scCond : FnScope ["thing", "variable", "sign", "term"] ["thing"] (defScope sCond) := ⟨rfl, rfl, rfl, by decide +kernel, rfl, by decide +kernel, by decide +kernel⟩
theorem ok_cond {f : Addr} {fd : FuncData} (F : Fun K "is_condition" "is_condition" sCond f fd) (T : Gs K mg) (CT : Cal P w K mg base 3 "is_term" ["thing"] (sp1 isTerm K)) :
    FnOk P w K mg base CX0 4 f fd ["thing"] (sp1 isCond K) := by
  refine F.ok scCond (fun vs H Q E h => ?_) (fun cdv A outer s H vs Q E hr h => ?_)
  · obtain ⟨v, d, rfl, _⟩ := h
    rfl
  obtain ⟨v, d, rfl, hd, ld, q⟩ := h
  refine ⟨_, pss_cons (ps_if (PW.pt (pw_or (pt_not (pt_val (pe_callB call_isi (by rfl) T.isi (by decide +kernel) (pa_cons (pv 0) (pa_cons (pe_bltn (v := .ty "tuple") (by rfl) T.tup (by decide +kernel) rfl) pa_nil)))))
      (pw_or1 (pt_cmpR op_ne (pe_callB call_len_seq (by rfl) T.len PySem.boot_len (pa_cons (pv 0) pa_nil)) pe_int (nomark _))))) (pss_one (ps_ret pe_bl)) pss_nil)
    (pss_cons (ps_asg (pv 0) (pg_tup (by rfl) (pgs_cons (pg_name (i := 1) scCond.nd rfl (.inl rfl)) (pgs_cons (pg_name (i := 2) scCond.nd rfl (.inl rfl)) (pgs_cons (pg_name (i := 3) scCond.nd rfl (.inl rfl)) pgs_nil)))))
    (pss_one (ps_ret (pe_and (pe_cmpR (op_inS (hu65 hr)) (pv 1) (pe_gref rfl T.mV) (by rfl)) (pe_and (pe_cmpR (op_inS (hu65 hr)) (pv 2) (pe_gref rfl T.mC) (by rfl))
      (pe_one (pe_call CT.G hr rfl CT.m CT.kp CT.b .nil pass0 (pa_cons (pv 3) pa_nil)))))))), ?_⟩
  refine ⟨_, rfl, v, .ty "tuple", _, _, _, rfl, .ty _, dp_ty hd, kit_isT d (by simp) (dp_nd hd), _, rfl, ?_⟩
  cases ht : isT d "tuple" with
  | false =>
    refine iteT (iteT ?_)
    have e : isCond d = false := by cases d <;> first | rfl | (simp [isT, tyN] at ht)
    rw [e] at q
    exact q
  | true =>
    obtain ⟨ds, rfl⟩ := isT_tup ht
    obtain ⟨a, xs, rfl, hs, ha⟩ := dp_tup_inv hd
    have hl := dpAll_len ha
    refine iteF ⟨_, rfl, a, xs, rfl, .inr hs, rfl, _, rfl, ?_⟩
    by_cases h3 : ds.length = 3
    · have c : V.int ((xs.length : Nat) : Int) = V.int 3 := by rw [hl, h3]; rfl
      refine iteNS c ?_
      cases ha with
      | nil => cases h3
      | cons h0 t1 =>
        cases t1 with
        | nil => cases h3
        | cons h1 t2 =>
          cases t2 with
          | nil => cases h3
          | cons h2 t3 =>
            cases t3 with
            | cons _ _ => simp at h3
            | nil =>
              rename_i x0 d0 x1 d1 x2 d2
              have lm := lay_mem (lay_tup ld)
              refine ⟨_, rfl, a, _, rfl, hs, rfl, _, _, rfl, _, _, rfl, _, _, rfl, rfl, ?_⟩
              refine ⟨_, rfl, d0, vars, T.aV, rfl, h0, lm _ (by simp), T.kV _, by decide +kernel, _, rfl, ?_⟩
              have e : isCond (.tuple [d0, d1, d2]) = (inS d0 vars && inS d1 signs && isTerm d2) := rfl
              rw [e] at q
              cases c1 : inS d0 vars with
              | false => rw [c1] at q; exact iteF q
              | true =>
                refine iteT ⟨_, rfl, d1, signs, T.aC, rfl, h1, lm _ (by simp), T.kC _, by decide +kernel, _, rfl, ?_⟩
                cases c2 : inS d1 signs with
                | false => rw [c1, c2] at q; exact iteF q
                | true =>
                  rw [c1, c2] at q
                  exact iteT ⟨_, rfl, _, d2, rfl, h2, lm _ (by simp), q⟩
    · refine ite2 (fun _ => ?_) (fun c => absurd ?_ c)
      · have e : isCond (.tuple ds) = false := by
          match ds, h3 with
          | [], _ => rfl
          | [_], _ => rfl
          | [_, _], _ => rfl
          | [_, _, _], h => exact absurd rfl h
          | _ :: _ :: _ :: _ :: _, _ => rfl
        rw [e] at q
        exact q
      · rw [Bool.not_eq_true', decide_eq_false_iff_not]
        intro z
        have z' : ((xs.length : Nat) : Int) = 3 := by injection z
        omega
end
section
variable {P : Program} {w : World} {K : PySem.W.Frag} {mg : Str → Option Value} {base : Heap}
theorem scPart : FnScope ["thing", "role"] ["thing", "role"] (defScope sPart) := ⟨rfl, rfl, rfl, by decide +kernel, rfl, by decide +kernel, by decide +kernel⟩
theorem ok_part {f : Addr} {fd : FuncData} (F : Fun K "is_part" "is_part" sPart f fd) (T : Gs K mg) (CI : Cal P w K mg base 2 "is_integer_from_to" ["thing", "least", "greatest"] (spInt K)) (CT : Cal P w K mg base 3 "is_term" ["thing"] (sp1 isTerm K)) :
    FnOk P w K mg base CX0 4 f fd ["thing", "role"] (spPart K) := by
  refine F.ok scPart (fun vs H Q E h => ?_) (fun cdv A outer s H vs Q E hr h => ?_)
  · obtain ⟨v, d, r, rfl, _⟩ := h
    rfl
  obtain ⟨v, d, r, rfl, hd, ld, q⟩ := h
  have hr1 : Room 2 _ := hr.mono (by decide)
  refine ⟨_, pss_cons (ps_if (pt_cmpR op_eq (pv 1) pe_str (nomark _)) (pss_one (ps_ret (pe_cmpR (op_inS (hu65 hr)) (pv 0) (pe_gref rfl T.mV) (by rfl)))) pss_nil)
    (pss_cons (ps_if (pt_cmpR op_eq (pv 1) pe_str (nomark _)) (pss_one (ps_ret (pe_call CT.G hr rfl CT.m CT.kp CT.b .nil pass0 (pa_cons (pv 0) pa_nil)))) pss_nil)
    (pss_cons (ps_if (pt_cmpR op_eq (pv 1) pe_str (nomark _)) (pss_one (ps_ret (pe_cmpR (op_inS (hu65 hr)) (pv 0) (pe_gref rfl T.mA) (by rfl)))) pss_nil)
    (pss_cons (ps_if (pt_cmpR op_eq (pv 1) pe_str (nomark _)) (pss_one (ps_ret (pe_call CI.G hr1 rfl CI.m CI.kp CI.b .nil pass0 (pa_cons (pv 0) (pa_cons pe_int (pa_cons (pe_gint rfl T.mL) pa_nil)))))) pss_nil)
    (pss_cons (ps_if (pt_cmpR op_eq (pv 1) pe_str (nomark _)) (pss_one (ps_ret (pe_call CI.G hr1 rfl CI.m CI.kp CI.b .nil pass0 (pa_cons (pv 0) (pa_cons pe_int (pa_cons pe_int pa_nil)))))) pss_nil)
    (pss_one (ps_ret (pe_call CI.G hr1 rfl CI.m CI.kp CI.b .nil pass0 (pa_cons (pv 0) (pa_cons pe_int (pa_cons (pe_gint rfl T.mG) pa_nil)))))))))), ?_⟩
  have ne : ∀ {z : Str}, ¬ decide (V.str r = V.str z) = true → ¬ r = z := fun c e => c (decide_eq_true (by rw [e]))
  have eq : ∀ {z : Str}, decide (V.str r = V.str z) = true → r = z := fun c => by
    have c' := of_decide_eq_true c
    injection c'
  unfold isPart at q
  refine ⟨_, rfl, rfl, _, rfl, ite2 (fun c => ?_) (fun c => ?_)⟩
  · rw [if_pos (eq c)] at q
    exact ⟨_, rfl, d, vars, T.aV, rfl, hd, ld, T.kV _, by decide +kernel, q⟩
  rw [if_neg (ne c)] at q
  refine ⟨_, rfl, rfl, _, rfl, ite2 (fun c => ?_) (fun c => ?_)⟩
  · rw [if_pos (eq c)] at q
    exact ⟨_, rfl, v, d, rfl, hd, ld, q⟩
  rw [if_neg (ne c)] at q
  refine ⟨_, rfl, rfl, _, rfl, ite2 (fun c => ?_) (fun c => ?_)⟩
  · rw [if_pos (eq c)] at q
    exact ⟨_, rfl, d, asks, T.aA, rfl, hd, ld, T.kA _, by decide +kernel, q⟩
  rw [if_neg (ne c)] at q
  refine ⟨_, rfl, rfl, _, rfl, ite2 (fun c => ?_) (fun c => ?_)⟩
  · rw [if_pos (eq c)] at q
    exact ⟨_, rfl, v, d, _, _, rfl, hd, q⟩
  rw [if_neg (ne c)] at q
  refine ⟨_, rfl, rfl, _, rfl, ite2 (fun c => ?_) (fun c => ?_)⟩
  · rw [if_pos (eq c)] at q
    exact ⟨_, rfl, v, d, _, _, rfl, hd, q⟩
  rw [if_neg (ne c)] at q
  exact ⟨_, rfl, v, d, _, _, rfl, hd, q⟩
theorem scWord : FnScope ["thing"] ["thing"] (defScope sWord) := ⟨rfl, rfl, rfl, by decide +kernel, rfl, by decide +kernel, by decide +kernel⟩
theorem ok_word {f : Addr} {fd : FuncData} (F : Fun K "word_of" "word_of" sWord f fd) (T : Gs K mg) : FnOk P w K mg base CX0 1 f fd ["thing"] (spWord K) := by
  refine F.ok scWord (fun vs H Q E h => ?_) (fun cdv A outer s H vs Q E hr h => ?_)
  · obtain ⟨v, d, rfl, _⟩ := h
    rfl
  obtain ⟨v, d, rfl, hd, q⟩ := h
  refine ⟨_, pss_cons (ps_if (PW.pt (pw_and (pt_val (pe_callB call_isi (by rfl) T.isi (by decide +kernel) (pa_cons (pv 0) (pa_cons (pe_bltn (v := .ty "tuple") (by rfl) T.tup (by decide +kernel) rfl) pa_nil))))
      (pw_and (pt_cmpR op_gt (pe_callB call_len_seq (by rfl) T.len PySem.boot_len (pa_cons (pv 0) pa_nil)) pe_int (nomark _))
      (pw_and1 (pt_val (pe_callB call_isi (by rfl) T.isi (by decide +kernel) (pa_cons (pe_ix ix_tup (pv 0) pe_int (fun _ _ => rfl)) (pa_cons (pe_bltn (v := .ty "str") (by rfl) T.str (by decide +kernel) rfl) pa_nil))))))))
      (pss_one (ps_ret (pe_ix ix_tup (pv 0) pe_int (fun _ _ => rfl)))) pss_nil) (pss_one (ps_ret pe_non)), ?_⟩
  refine ⟨_, rfl, v, .ty "tuple", _, _, _, rfl, .ty _, dp_ty hd, kit_isT d (by simp) (dp_nd hd), _, rfl, ?_⟩
  cases ht : isT d "tuple" with
  | false =>
    refine iteF (iteF ?_)
    have e : wordOf d = none := by cases d <;> first | rfl | (simp [isT, tyN] at ht)
    rw [e] at q
    exact q
  | true =>
    obtain ⟨ds, rfl⟩ := isT_tup ht
    obtain ⟨a, xs, rfl, hs, ha⟩ := dp_tup_inv hd
    refine iteT ⟨_, rfl, a, xs, rfl, .inr hs, _, _, rfl, rfl, _, rfl, ?_⟩
    cases ha with
    | nil => exact iteF (iteF q)
    | cons h0 t =>
      rename_i x0 xr d0 dr
      have c : decide ((0 : Int) < (((x0 :: xr).length : Nat) : Int)) = true := decide_eq_true (by rw [List.length_cons]; omega)
      rw [c]
      refine iteT ⟨_, rfl, a, _, _, _, rfl, rfl, hs, atI_nat (j := 0) rfl, x0, .ty "str", _, _, _, rfl, .ty _, dp_ty h0, kit_isT d0 (by simp) (dp_nd h0), _, rfl, ?_⟩
      cases hz : isT d0 "str" with
      | false =>
        refine iteF ?_
        have e : wordOf (.tuple (d0 :: dr)) = none := by cases d0 <;> first | rfl | (simp [isT, tyN] at hz)
        rw [e] at q
        exact q
      | true =>
        obtain ⟨z, rfl⟩ := isT_str hz
        cases h0
        exact iteT ⟨_, rfl, a, _, _, _, rfl, rfl, hs, atI_nat (j := 0) rfl, q⟩
end
end My

namespace My
open PySem L2 PyProof.Rows
/-! ### a written dict with text keys, asked by a text or by None -/
inductive Ents : List DictEntry → List (Str × V) → Prop
  | nil : Ents [] []
  | cons {h : Int} {x : Str} {t : Tok} {u : Value} {v : V} {r : List DictEntry} {rs : List (Str × V)} : RelV v u → Ents r rs → Ents (⟨h, .str x t, u⟩ :: r) ((x, v) :: rs)
def lookT (tab : List (Str × V)) (z : Str) : Option V := (tab.find? fun p => p.1 == z).map (·.2)
theorem ents_find : ∀ {l : List DictEntry} {tab : List (Str × V)}, Ents l tab → ∀ z : Str,
    (∃ (e : DictEntry) (v : V), l.find? (fun d => d.key.isStr z) = some e ∧ lookT tab z = some v ∧ RelV v e.val) ∨ (l.find? (fun d => d.key.isStr z) = none ∧ lookT tab z = none)
  | _, _, .nil, z => .inr ⟨rfl, rfl⟩
  | _, _, .cons (x := x) (h := h) (t := t) (u := u) (v := v) (r := l0) (rs := rs) rv r, z => by
    have ih := ents_find r z
    by_cases c : (x == z) = true
    · refine .inl ⟨⟨h, .str x t, u⟩, v, ?_, ?_, rv⟩
      · rw [List.find?_cons_of_pos]
        exact c
      · unfold lookT
        rw [List.find?_cons_of_pos (by exact c)]
        rfl
    · have c1 : List.find? (fun d : DictEntry => d.key.isStr z) (⟨h, .str x t, u⟩ :: l0) = l0.find? (fun d : DictEntry => d.key.isStr z) := List.find?_cons_of_neg (by exact c)
      have c2 : lookT ((x, v) :: rs) z = lookT rs z := by
        unfold lookT
        rw [List.find?_cons_of_neg (by exact c)]
      rw [c2]
      rcases ih with ⟨e, v', h1, h2, h3⟩ | ⟨h1, h2⟩
      · exact .inl ⟨e, v', c1.trans h1, h2, h3⟩
      · exact .inr ⟨c1.trans h1, h2⟩
structure KTab (K : PySem.W.Frag) (w : World) (d : Addr) (tab : List (Str × V)) : Prop where
  ex : ∃ es n, K.lookup d = some ⟨.type "dict", none, .dict es n, #[]⟩ ∧ PySem.W.KeysLit w.params es.toList ∧ Ents es.toList tab
  low : (d == sysModules) = false
theorem findBy_tab {es : Array DictEntry} {tab : List (Str × V)} (E : Ents es.toList tab) (z : Str) :
    (∃ u v, findBy Value.isStrOf es z = some u ∧ lookT tab z = some v ∧ RelV v u) ∨ (findBy Value.isStrOf es z = none ∧ lookT tab z = none) := by
  obtain ⟨l⟩ := es
  have q : (fun d : DictEntry => Value.isStrOf z d.key) = fun d => d.key.isStr z := funext fun d => (PySem.W.isStr_of z d.key).symm
  unfold findBy
  rw [List.find?_toArray, q]
  rcases ents_find E z with ⟨e, v, h1, h2, h3⟩ | ⟨h1, h2⟩
  · exact .inl ⟨e.val, v, by rw [show List.find? (fun d : DictEntry => d.key.isStr z) l = some e from h1]; rfl, h2, h3⟩
  · exact .inr ⟨by rw [show List.find? (fun d : DictEntry => d.key.isStr z) l = none from h1]; rfl, h2⟩
theorem none_mapK {P : Program} {w : World} {K : PySem.W.Frag} {h : Heap} {a : Addr} {es : Array DictEntry} {n : Nat} (X : K.In h) (hl : K.lookup a = some ⟨.type "dict", none, .dict es n, #[]⟩) (hk : PySem.W.KeysLit w.params es.toList) :
    ∃ f, h.MapOf (noneKind P w) a f ∧ f none = none := by
  refine ⟨fun k => findBy (noneKind P w).is es k, ⟨_, es, n, X _ _ hl, ⟨rfl, rfl, rfl⟩, rfl, fun e he => ?_, fun k => rfl⟩, ?_⟩
  · obtain ⟨x, t, e1, e2⟩ := hk.all e (Array.mem_toList_iff.mpr he)
    refine ⟨some (.inr x), ?_, e2⟩
    rw [e1]
    exact strKind_is P w x t
  · have q : (es.find? fun e => nkIs none e.key) = none := by
      rw [Array.find?_eq_none]
      intro e he hq
      obtain ⟨x, t, e1, _⟩ := hk.all e (Array.mem_toList_iff.mpr he)
      rw [e1] at hq
      exact nomatch (show false = true from hq)
    show (es.find? fun e => nkIs none e.key).map (·.val) = none
    rw [q] <;> rfl
def getT (tab : List (Str × V)) (wd : Option Str) : Option V := wd.bind (lookT tab)
section
variable {X : Cx}
def rInK (K : PySem.W.Frag) (w : World) (neg : Bool) : R2 := fun x y H Q => ∃ (d : Addr) (tab : List (Str × V)) (wd : Option Str), y = .ref d ∧ KTab K w d tab ∧ x = wV wd ∧ Q (.bl (if neg then !(getT tab wd).isSome else (getT tab wd).isSome)) H
theorem op_inK : OpR X (compareOp .In) (rInK X.K X.w false) := by
  intro pins s σ H x y v u Q I rx ry h
  obtain ⟨d, tab, wd, rfl, ⟨⟨es, n, hl, hk, he⟩, low⟩, rfl, q⟩ := h
  cases ry
  cases wd with
  | none =>
    cases rx
    obtain ⟨f, hm, hf⟩ := none_mapK (P := X.prog) (w := X.w) I.kIn hl hk
    refine wpAny_in_of (show (noneKind X.prog X.w).is none .none = true from rfl) low hm ?_
    rw [hf]
    exact ⟨.bl _, H, I.tok _, rfl, q⟩
  | some z =>
    obtain ⟨t, rfl⟩ := rx
    refine wpAny_in_of (PySem.strKind_is X.prog X.w z t) low (PySem.W.mapOf_K (prog := X.prog) I.kIn hl hk) ?_
    rcases findBy_tab he z with ⟨u, v, h1, h2, h3⟩ | ⟨h1, h2⟩
    · rw [h1]
      refine ⟨.bl true, H, I.tok _, rfl, ?_⟩
      have e : (getT tab (some z)).isSome = true := by show (lookT tab z).isSome = true; rw [h2]; rfl
      rw [e] at q
      exact q
    · rw [h1]
      refine ⟨.bl false, H, I.tok _, rfl, ?_⟩
      have e : (getT tab (some z)).isSome = false := by show (lookT tab z).isSome = false; rw [h2]; rfl
      rw [e] at q
      exact q
theorem ktab_ix {K : PySem.W.Frag} {w : World} {d : Addr} {tab : List (Str × V)} {z : Str} {v : V} (T : KTab K w d tab) (h : lookT tab z = some v) : KDct K w d z v := by
  obtain ⟨⟨es, n, hl, hk, he⟩, low⟩ := T
  rcases ents_find he z with ⟨e, v', h1, h2, h3⟩ | ⟨h1, h2⟩
  · rw [h] at h2
    cases h2
    refine ⟨es, n, e.val, hl, hk, ?_, h3⟩
    unfold PySem.W.nsIn
    rw [hl]
    dsimp only
    rw [h1]
  · rw [h] at h2
    cases h2
def tGetK (K : PySem.W.Frag) (w : World) (to : TE) (t : TA) : TE := fun σ H Q => to σ H fun x H1 => ∃ (d : Addr) (tab : List (Str × V)), x = .ref d ∧ KTab K w d tab ∧ t σ H1 fun ys H2 => ∃ wd : Option Str, ys = [wV wd] ∧ Q ((getT tab wd).getD .non) H2
variable {o e : Expr} {es : List Expr} {to : TE} {t : TA} {apos cpos : Pos}
theorem pe_getK (ho : PE X o to) (ha : PA X [e] t)
    (hbase : attributeBase o "get" X.env (eval o X.env) = eval o X.env := by rfl)
    (hfew : ((backTo cpos (starEach [e] X.env)).all (fun x => !x.1) && (backToKw cpos (keywordEach [] X.env)).all (fun x => x.1.isSome)
      && decide ([e].length + ([] : List Keyword).length + (if ([] : List Keyword).isEmpty then 0 else 1) < 30)) = true := by rfl)
    (hline : (apos.endLine == cpos.line) = true := by rfl) (hs : starEach [e] X.env = (false, eval e X.env) :: starEach [] X.env := by rfl) (hplain : (backTo cpos (starEach [] X.env)).any (·.1) = false := by rfl) :
    PE X (.Call (.Attribute o "get" apos) [e] [] cpos) (tGetK X.K X.w to t) := by
  refine ⟨fun pins s σ H Q I h => ?_⟩
  refine wpAny_Call_method_late hbase hfew hline rfl (thn (ho.run pins s σ H _ I h) fun v s1 ⟨x, H1, I1, r1, d, tab, ex, KT, q1⟩ => ?_)
  obtain ⟨⟨es, n, hl, hk, he⟩, low⟩ := KT
  subst ex
  obtain rfl : v = Value.ref d := r1
  have hm0 := PySem.W.mapOf_K (prog := X.prog) (w := X.w) I1.kIn hl hk
  refine ⟨"dict", "dict.get", PySem.F.plainAttrs_dict, PySem.F.slot_dict_get, PySem.F.type_dict_get, hm0.typeIs, fun a e2 => ?_, ?_⟩
  · cases e2
    exact ⟨_, I1.kIn _ _ hl, rfl⟩
  have hA := ha.run cpos pins s1 σ H1 _ I1 q1
  rw [hs] at hA ⊢
  refine Calls.callWith_builtin (by show (false || (backTo cpos (starEach [] X.env)).any (·.1)) = false; rw [hplain] <;> rfl) (Calls.evalArgs_plain ?_)
  refine thn hA fun us s2 ⟨vs, H2, I2, r2, wd, ev, q2⟩ => ?_
  subst ev
  obtain ⟨u, rfl, ru⟩ := Vals.one r2
  have hm := PySem.W.mapOf_K (prog := X.prog) (w := X.w) I2.kIn hl hk
  cases wd with
  | none =>
    cases ru
    obtain ⟨f, hmn, hf⟩ := none_mapK (P := X.prog) (w := X.w) I2.kIn hl hk
    refine call_meetsIn PySem.F.slot_dict_get hm.typeIs PySem.F.entry_dict_get (PySem.F.args_dict_get_2 _ _) (meets_dict_get (noneKind X.prog X.w) d (show (noneKind X.prog X.w).is none .none = true from rfl) low) ⟨f, hmn, ?_⟩
    rw [hf]
    exact ⟨.non, H2, I2.tok _, rfl, q2⟩
  | some z =>
    obtain ⟨t, rfl⟩ := ru
    refine call_meetsIn PySem.F.slot_dict_get hm.typeIs PySem.F.entry_dict_get (PySem.F.args_dict_get_2 _ _) (meets_dict_get (strKind X.prog X.w) d (PySem.strKind_is X.prog X.w z t) low) ⟨_, hm, ?_⟩
    rcases findBy_tab he z with ⟨u, v, h1, h2, h3⟩ | ⟨h1, h2⟩
    · rw [h1]
      have e : getT tab (some z) = some v := h2
      rw [e] at q2
      exact ⟨v, H2, I2.tok _, h3, q2⟩
    · rw [h1]
      have e : getT tab (some z) = none := h2
      rw [e] at q2
      exact ⟨.non, H2, I2.tok _, rfl, q2⟩
end
theorem lookT_eq {x : Str} {v : V} {r : List (Str × V)} : lookT ((x, v) :: r) x = some v := by
  unfold lookT
  rw [List.find?_cons_of_pos (by exact beq_self_eq_true x)]
  rfl
theorem lookT_ne {x z : Str} {v : V} {r : List (Str × V)} (h : ¬ z = x) : lookT ((x, v) :: r) z = lookT r z := by
  unfold lookT
  rw [List.find?_cons_of_neg (by intro c; exact h (eq_of_beq (show (x == z) = true from c)).symm)]
structure Gd (K : PySem.W.Frag) (w : World) (mg : Str → Option Value) where
  aB : Addr
  mB : mg "BODIES" = some (.ref aB)
  tB : KTab K w aB [("if", .int 2), ("while", .int 1)]
  aS : Addr
  r1 : Addr
  r2 : Addr
  r3 : Addr
  mS : mg "SHARED_ROLES" = some (.ref aS)
  tS : KTab K w aS [("set", .ref r1), ("add", .ref r2), ("wait", .ref r3)]
  k1 : ∀ H, SqT K H r1 ((["variable", "value"] : List Str).map V.str)
  k2 : ∀ H, SqT K H r2 ((["variable", "term"] : List Str).map V.str)
  k3 : ∀ H, SqT K H r3 ((["steps"] : List Str).map V.str)
  aT : Addr
  r4 : Addr
  r5 : Addr
  mT : mg "TELLER_ROLES" = some (.ref aT)
  tT : KTab K w aT [("ask", .ref r4), ("answer", .ref r5)]
  k4 : ∀ H, SqT K H r4 ((["sign", "term", "variable"] : List Str).map V.str)
  k5 : ∀ H, SqT K H r5 ((["answer"] : List Str).map V.str)
  aC : Addr
  r6 : Addr
  r7 : Addr
  mC : mg "COLLECTOR_ROLES" = some (.ref aC)
  tC : KTab K w aC [("grow", .ref r6), ("list", .ref r7)]
  k6 : ∀ H, SqT K H r6 ((["term"] : List Str).map V.str)
  k7 : ∀ H, SqT K H r7 ((["term"] : List Str).map V.str)
def rolesZ (z kind : Str) : Option (List Str) :=
  if z = "set" then some ["variable", "value"] else if z = "add" then some ["variable", "term"] else if z = "wait" then some ["steps"]
  else if kind = "teller" then (if z = "ask" then some ["sign", "term", "variable"] else if z = "answer" then some ["answer"] else none)
  else (if z = "grow" then some ["term"] else if z = "list" then some ["term"] else none)
def rolesOf (wd : Option Str) (kind : Str) : Option (List Str) := wd.bind fun z => rolesZ z kind
def allParts (ps : List PyData) (rs : List Str) : Bool := ((ps.zip rs).map fun p => isPart p.1 p.2).all id
def isPlain (d : PyData) (kind : Str) : Bool := match d with
  | .tuple (.str z :: ps) => (match rolesZ z kind with
    | some rs => decide (ps.length = rs.length) && allParts ps rs
    | none => false)
  | _ => false
def cond3 : List PyData → Bool
  | [c, _, _] => isCond c
  | _ => false
def cond2 : List PyData → Bool
  | [c, _] => isCond c
  | _ => false
/-- a statement, whatever its bodies are -/
def isOut (d : PyData) (kind : Str) : Bool := match d with
  | .tuple (.str z :: ps) => if z = "if" then cond3 ps else if z = "while" then cond2 ps else isPlain d kind
  | _ => false
def bodsOf (d : PyData) : List PyData := match d with
  | .tuple (.str z :: ps) => if z = "if" ∨ z = "while" then ps.drop 1 else []
  | _ => []
def spRoles (K : PySem.W.Frag) : Sp := fun vs H Q _ => ∃ (wd : Option Str) (kind : Str), vs = [wV wd, .str kind] ∧ (rolesOf wd kind = none → Q .non H) ∧
  (∀ rs a, rolesOf wd kind = some rs → (∀ H, SqT K H a (rs.map V.str)) → Q (.ref a) H)
def sp2 (f : PyData → Str → Bool) (K : PySem.W.Frag) : Sp := fun vs H Q _ => ∃ (v : V) (d : PyData) (kind : Str), vs = [v, .str kind] ∧ Dp K H v d ∧ Lay d ∧ ∀ H', Same H H' → Q (.bl (f d kind)) H'
section
variable {P : Program} {w : World} {K : PySem.W.Frag} {mg : Str → Option Value} {base : Heap}
theorem scRoles : FnScope ["word", "kind"] ["word", "kind"] (defScope sRoles) := ⟨rfl, rfl, rfl, by decide +kernel, rfl, by decide +kernel, by decide +kernel⟩
theorem ok_roles {f : Addr} {fd : FuncData} (F : Fun K "roles_of" "roles_of" sRoles f fd) (D : Gd K w mg) : FnOk P w K mg base CX0 1 f fd ["word", "kind"] (spRoles K) := by
  refine F.ok scRoles (fun vs H Q E h => ?_) (fun cdv A outer s H vs Q E hr h => ?_)
  · obtain ⟨wd, kind, rfl, _⟩ := h
    rfl
  obtain ⟨wd, kind, rfl, q0, q1⟩ := h
  refine ⟨_, pss_cons (ps_if (pt_cmpR op_inK (pv 0) (pe_gref rfl D.mS) (by rfl)) (pss_one (ps_ret (pe_ix ix_kdict (pe_gref rfl D.mS) (pv 0) (fun _ _ => rfl)))) pss_nil)
    (pss_cons (ps_if (pt_cmpR op_eq (pv 1) pe_str (nomark _)) (pss_one (ps_ret (pe_getK (pe_gref rfl D.mT) (pa_cons (pv 0) pa_nil)))) pss_nil)
    (pss_one (ps_ret (pe_getK (pe_gref rfl D.mC) (pa_cons (pv 0) pa_nil))))), ?_⟩
  refine ⟨_, rfl, D.aS, _, wd, rfl, D.tS, rfl, _, rfl, ?_⟩
  have keq : ∀ {z : Str}, decide (V.str kind = V.str z) = true → kind = z := fun c => by
    have c' := of_decide_eq_true c
    injection c'
  have kne : ∀ {z : Str}, ¬ decide (V.str kind = V.str z) = true → ¬ kind = z := fun c e => c (decide_eq_true (by rw [e]))
  cases wd with
  | none =>
    refine iteF ?_
    refine ⟨_, rfl, rfl, _, rfl, ite2 (fun c => ?_) (fun c => ?_)⟩
    · exact ⟨D.aT, _, rfl, D.tT, _, rfl, none, rfl, q0 rfl⟩
    · exact ⟨D.aC, _, rfl, D.tC, _, rfl, none, rfl, q0 rfl⟩
  | some z =>
    have eG : ∀ tab, getT tab (some z) = lookT tab z := fun _ => rfl
    rw [eG]
    have eR : rolesOf (some z) kind = rolesZ z kind := rfl
    rw [eR] at q0
    have q1' : ∀ rs a, rolesZ z kind = some rs → (∀ H, SqT K H a (rs.map V.str)) → Q (.ref a) H := q1
    unfold rolesZ at q0 q1'
    by_cases c1 : z = "set"
    · subst c1
      rw [lookT_eq]
      exact iteT ⟨_, rfl, D.aS, _, _, rfl, rfl, ktab_ix D.tS lookT_eq, q1' _ _ (if_pos rfl) D.k1⟩
    rw [lookT_ne c1]
    rw [if_neg c1] at q0 q1'
    by_cases c2 : z = "add"
    · subst c2
      rw [lookT_eq]
      exact iteT ⟨_, rfl, D.aS, _, _, rfl, rfl, ktab_ix D.tS (by rw [lookT_ne c1, lookT_eq]), q1' _ _ (if_pos rfl) D.k2⟩
    rw [lookT_ne c2]
    rw [if_neg c2] at q0 q1'
    by_cases c3 : z = "wait"
    · subst c3
      rw [lookT_eq]
      exact iteT ⟨_, rfl, D.aS, _, _, rfl, rfl, ktab_ix D.tS (by rw [lookT_ne c1, lookT_ne c2, lookT_eq]), q1' _ _ (if_pos rfl) D.k3⟩
    rw [lookT_ne c3]
    rw [if_neg c3] at q0 q1'
    refine iteF ?_
    refine ⟨_, rfl, rfl, _, rfl, ite2 (fun c => ?_) (fun c => ?_)⟩
    · rw [if_pos (keq c)] at q0 q1'
      refine ⟨D.aT, _, rfl, D.tT, _, rfl, some z, rfl, ?_⟩
      rw [eG]
      by_cases c4 : z = "ask"
      · subst c4
        rw [lookT_eq]
        exact q1' _ _ (if_pos rfl) D.k4
      rw [lookT_ne c4]
      rw [if_neg c4] at q0 q1'
      by_cases c5 : z = "answer"
      · subst c5
        rw [lookT_eq]
        exact q1' _ _ (if_pos rfl) D.k5
      rw [lookT_ne c5]
      rw [if_neg c5] at q0 q1'
      exact q0 rfl
    · rw [if_neg (kne c)] at q0 q1'
      refine ⟨D.aC, _, rfl, D.tC, _, rfl, some z, rfl, ?_⟩
      rw [eG]
      by_cases c4 : z = "grow"
      · subst c4
        rw [lookT_eq]
        exact q1' _ _ (if_pos rfl) D.k6
      rw [lookT_ne c4]
      rw [if_neg c4] at q0 q1'
      by_cases c5 : z = "list"
      · subst c5
        rw [lookT_eq]
        exact q1' _ _ (if_pos rfl) D.k7
      rw [lookT_ne c5]
      rw [if_neg c5] at q0 q1'
      exact q0 rfl
end
/-! ### a comprehension over zip of two tuples -/
theorem lc_zipT {K : PySem.W.Frag} {a b : Addr} {xs ys : List V} {g : TG} {tt : TT} {te : TE} {vs : List Nat} {σ : L2.St} {H1 : Hp} {D : Addr} {Qd : Hp → Prop} (hl : xs.length = ys.length) (Pv : Nat → Hp → Prop) (h0 : Pv 0 (upd H1 D (.lst []))) (hq : ∀ i H, Pv i H → SqT K H a xs ∧ SqT K H b ys)
    (hs : ∀ i x y T H, xs[i]? = some x → ys[i]? = some y → Pv i H → H T = none → g (.ref T) (wipe σ vs) (upd H T (.tup [x, y])) fun σ2 H2 => wipe σ2 vs = wipe σ vs ∧ tt σ2 H2 fun b H3 =>
      if b = true then te σ2 H3 fun y H4 => ∃ acc, H4 D = some (.lst acc) ∧ acc.length < sizeLine ∧ Pv (i + 1) (upd H4 D (.lst (acc ++ [y]))) else Pv (i + 1) H3) (hd : ∀ H, Pv xs.length H → Qd H) :
    ∃ W : Nat → Nat → Hp → Prop, (∃ m, W 0 m (upd H1 D (.lst []))) ∧ ∀ i m H, W i m H →
      ((RZ.ItzT K a b).stop i H ∧ Qd H) ∨ ((RZ.ItzT K a b).go i H ∧ ∃ Nx : Hp → Prop, (∀ H', Nx H' → ∃ m', m' < m ∧ W (i + 1) m' H') ∧ ∀ x H', (RZ.ItzT K a b).yld i H x H' → g x (wipe σ vs) H' fun σ2 H2 => wipe σ2 vs = wipe σ vs ∧ tt σ2 H2 fun b H3 =>
        if b = true then te σ2 H3 fun y H4 => ∃ acc, H4 D = some (.lst acc) ∧ acc.length < sizeLine ∧ Nx (upd H4 D (.lst (acc ++ [y]))) else Nx H3) := by
  refine ⟨fun i m H => m = xs.length - i ∧ i ≤ xs.length ∧ Pv i H, ⟨xs.length, by simp, Nat.zero_le _, h0⟩, ?_⟩
  rintro i m H ⟨rfl, hi, p⟩
  obtain ⟨q1, q2⟩ := hq i H p
  by_cases hlt : i < xs.length
  · have hlt2 : i < ys.length := by omega
    refine .inr ⟨⟨xs, ys, xs[i], ys[i], q1, q2, by simp [hlt], by simp [hlt2]⟩, Pv (i + 1), fun H' p' => ⟨xs.length - (i + 1), by omega, rfl, hlt, p'⟩, fun v H' y => ?_⟩
    obtain ⟨T, x, y, rfl, hT, rfl, hx, hy⟩ := y
    exact hs i x y T H (hx xs q1) (hy ys q2) p hT
  · have e : i = xs.length := by omega
    subst e
    exact .inl ⟨⟨xs, ys, q1, q2, .inl (Nat.le_refl _)⟩, hd H p⟩
theorem same_upd {H H' : Hp} {D : Addr} (e : Same H H') (n : H D = none) (o : HO) : Same H (upd H' D o) := fun b u q => by
  rw [upd_ne (ne_of_none q n)]
  exact e _ _ q
def partsB (ps : List PyData) (rs : List Str) : List Bool := (ps.zip rs).map fun p => isPart p.1 p.2
theorem word_inv {d : PyData} {z : Str} (h : wordOf d = some z) : ∃ ps, d = .tuple (.str z :: ps) := by
  match d, h with
  | .tuple (.str x :: ps), h => cases h; exact ⟨ps, rfl⟩
theorem plain_none {d : PyData} {kind : Str} (h : rolesOf (wordOf d) kind = none) : isPlain d kind = false := by
  match d, h with
  | .tuple (.str x :: ps), h =>
    have h' : rolesZ x kind = none := h
    show (match rolesZ x kind with | some rs => decide (ps.length = rs.length) && allParts ps rs | none => false) = false
    rw [h']
  | .tuple [], _ => rfl
  | .tuple (.none :: _), _ => rfl
  | .tuple (.bool _ :: _), _ => rfl
  | .tuple (.int _ :: _), _ => rfl
  | .tuple (.list _ :: _), _ => rfl
  | .tuple (.tuple _ :: _), _ => rfl
  | .tuple (.dict _ :: _), _ => rfl
  | .none, _ => rfl
  | .bool _, _ => rfl
  | .int _, _ => rfl
  | .str _, _ => rfl
  | .list _, _ => rfl
  | .dict _, _ => rfl
theorem plain_some {z kind : Str} {ps : List PyData} {rs : List Str} (h : rolesZ z kind = some rs) : isPlain (.tuple (.str z :: ps)) kind = (decide (ps.length = rs.length) && allParts ps rs) := by
  show (match rolesZ z kind with | some rs => decide (ps.length = rs.length) && allParts ps rs | none => false) = _
  rw [h]
theorem roles_short {z kind : Str} {rs : List Str} (h : rolesZ z kind = some rs) : rs.length ≤ 3 := by
  unfold rolesZ at h
  repeat' split at h
  all_goals first | (cases h; decide) | (cases h)
theorem cut1 (x : V) (xs : List V) : cutV (x :: xs) (some 1) none = xs := by
  have e : HT.sIx (x :: xs).length 0 (some 1) = 1 := by
    have := HT.sIx_nat (x :: xs).length 0 1
    rw [show ((1 : Nat) : Int) = 1 from rfl] at this
    rw [this, List.length_cons]
    omega
  unfold cutV
  rw [e, HT.sIx_none]
  simp
theorem not_whole1 (x : V) (xs : List V) : ¬ (HT.sIx (x :: xs).length 0 (some 1) = 0 ∧ HT.sIx (x :: xs).length (x :: xs).length none = (x :: xs).length) := by
  intro h
  have e : HT.sIx (x :: xs).length 0 (some 1) = 1 := by
    have := HT.sIx_nat (x :: xs).length 0 1
    rw [show ((1 : Nat) : Int) = 1 from rfl] at this
    rw [this, List.length_cons]
    omega
  rw [e] at h
  exact absurd h.1 (by decide)
section
variable {P : Program} {w : World} {K : PySem.W.Frag} {mg : Str → Option Value} {base : Heap}
theorem scPlain : FnScope ["thing", "kind", "roles", "part", "role"] ["thing", "kind"] (defScope sPlain) := ⟨rfl, rfl, rfl, by decide +kernel, rfl, by decide +kernel, by decide +kernel⟩
theorem ok_plain {f : Addr} {fd : FuncData} (F : Fun K "is_plain_statement" "is_plain_statement" sPlain f fd) (T : Gs K mg) (CW : Cal P w K mg base 1 "word_of" ["thing"] (spWord K)) (CR : Cal P w K mg base 1 "roles_of" ["word", "kind"] (spRoles K))
    (CP : Cal P w K mg base 4 "is_part" ["thing", "role"] (spPart K)) : FnOk P w K mg base CX0 5 f fd ["thing", "kind"] (sp2 isPlain K) := by
  refine F.ok scPlain (fun vs H Q E h => ?_) (fun cdv A outer s H vs Q E hr h => ?_)
  · obtain ⟨v, d, kind, rfl, _⟩ := h
    rfl
  obtain ⟨v, d, kind, rfl, hd, ld, q⟩ := h
  have hr1 : Room 1 _ := hr.mono (by decide)
  refine ⟨_, pss_cons (ps_set (i := 2) scPlain.nd rfl (.inl rfl) (pe_call CR.G hr1 rfl CR.m CR.kp CR.b .nil pass0 (pa_cons (pe_call CW.G hr1 rfl CW.m CW.kp CW.b .nil pass0 (pa_cons (pv 0) pa_nil)) (pa_cons (pv 1) pa_nil))))
    (pss_cons (ps_if (PW.pt (pw_or (pt_cmpR op_isN (pv 2) pe_non (nomark _)) (pw_or1 (pt_cmpR op_ne (pe_callB call_len_seq (by rfl) T.len PySem.boot_len (pa_cons (pv 0) pa_nil)) (pe_op op_add pe_int (pe_callB call_len_seq (by rfl) T.len PySem.boot_len (pa_cons (pv 2) pa_nil))) (nomark _)))))
      (pss_one (ps_ret pe_bl)) pss_nil)
    (pss_one (ps_ret (pe_callB (cr_all rfl) (by rfl) T.all (by decide +kernel) (pa_cons
      (pe_lc (own := [("part", 3), ("role", 4)]) (g := gTup K 2 (gCons (gName 3) (gCons (gName 4) gNil))) (tt := tYes) rfl scPlain.nd
        (RZ.pi_zipA (by rfl) T.zip (pa_cons (pe_slice sl_tup (pv 0) (po_some pe_int) po_none) (pa_cons (pv 2) pa_nil)))
        (blkOk_by (N := ["thing", "kind", "roles", "part", "role"]) (sc := defScope sPlain) (by decide +kernel))
        (fun _ _ _ _ _ => pg_tup (by rfl) (pgs_cons (pg_name (i := 3) scPlain.nd rfl (.inl rfl)) (pgs_cons (pg_name (i := 4) scPlain.nd rfl (.inl rfl)) pgs_nil)))
        (fun _ _ _ _ _ => pts_nil)
        (fun _ _ _ _ _ => pe_call CP.G hr rfl CP.m CP.kp CP.b .nil pass0 (pa_cons (pv 3) (pa_cons (pv 4) pa_nil)))) pa_nil))))), ?_⟩
  refine ⟨_, rfl, v, d, rfl, hd, _, rfl, wordOf d, kind, rfl, fun hn => ?_, fun rs a hs ka => ?_⟩
  · rw [plain_none hn] at q
    exact ⟨_, rfl, rfl, _, rfl, ite2 (fun _ => iteT (q H (Same.refl H))) (fun c => absurd (decide_eq_true rfl) c)⟩
  · refine ⟨_, rfl, rfl, _, rfl, ite2 (fun c => nomatch (of_decide_eq_true c)) (fun _ => ?_)⟩
    cases hw : wordOf d with
    | none => rw [hw] at hs; cases hs
    | some z =>
      obtain ⟨ps, rfl⟩ := word_inv hw
      have hs' : rolesZ z kind = some rs := by rw [hw] at hs; exact hs
      have h3 := roles_short hs'
      rw [plain_some hs'] at q
      obtain ⟨a0, xs, rfl, h0, ha⟩ := dp_tup_inv hd
      cases ha with
      | cons hz hp =>
        rename_i x0 xr
        have hl := dpAll_len hp
        refine ⟨_, rfl, a0, _, rfl, .inr h0, _, rfl, a, _, rfl, .inr (ka _), _, _, rfl, rfl, rfl, _, rfl, ?_⟩
        by_cases c : ps.length = rs.length
        · have c' : V.int (((x0 :: xr).length : Nat) : Int) = V.int (1 + ((rs.map V.str).length : Nat)) := by
            rw [List.length_cons, List.length_map, hl, c]
            congr 1
            omega
          refine iteNS c' ?_
          rw [decide_eq_true c, Bool.true_and] at q
          refine ⟨_, rfl, _, rfl, a0, _, rfl, h0, not_whole1 _ _, fun p np => ⟨_, rfl, p, a, _, _, rfl, .inr ⟨SqT.of upd_same, ka _, fun D nD => ?_⟩⟩⟩
          rw [cut1] at nD ⊢
          have g1 : Same H (upd H p (.tup xr)) := same_new np _
          refine lc_zipT (K := K) (a := p) (b := a) (xs := xr) (ys := rs.map V.str) (by rw [List.length_map]; omega)
            (fun i H' => Same (upd H p (.tup xr)) H' ∧ H' D = some (.lst (((partsB ps rs).take i).map V.bl))) ⟨same_upd (Same.refl _) nD _, upd_same⟩
            (fun i H' P => ⟨SqT.of (P.1 _ _ upd_same), ka _⟩) ?_ ?_
          · rintro i x y T H' hx hy ⟨s1, eD⟩ nT
            obtain ⟨di, hdi, hxd⟩ := dpAll_get hp hx
            rw [List.getElem?_map] at hy
            cases hri : rs[i]? with
            | none => rw [hri] at hy; cases hy
            | some ri =>
              rw [hri] at hy
              cases hy
              have sT : Same H' (upd H' T (.tup [x, V.str ri])) := same_new nT _
              have nDT : D ≠ T := ne_of_none eD nT
              refine ⟨T, _, rfl, SqT.of upd_same, rfl, _, _, rfl, _, _, rfl, rfl, rfl, ?_⟩
              refine ⟨_, rfl, _, rfl, x, di, ri, rfl, dp_mono (g1.trans (s1.trans sT)) _ _ hxd, ?_, _, sT _ _ eD, ?_, ?_, ?_⟩
              · exact lay_mem (lay_tup ld) _ (List.mem_cons_of_mem _ (List.mem_of_getElem? hdi))
              · rw [List.length_map, List.length_take, partsB, List.length_map, List.length_zip]
                exact Nat.lt_of_le_of_lt (by omega : _ ≤ 1000) (by decide)
              · exact same_upd (s1.trans sT) nD _
              · rw [upd_same]
                congr 2
                have hz : (ps.zip rs)[i]? = some (di, ri) := by rw [List.getElem?_zip_eq_some]; exact ⟨hdi, hri⟩
                have hm : (partsB ps rs)[i]? = some (isPart di ri) := by rw [partsB, List.getElem?_map, hz]; rfl
                have hil : i < (partsB ps rs).length := (List.getElem?_eq_some_iff.mp hm).1
                rw [← List.take_append_getElem hil, List.map_append]
                congr 1
                rw [(List.getElem?_eq_some_iff.mp hm).2]
                rfl
          · rintro H' ⟨s1, eD⟩
            refine ⟨D, partsB ps rs, rfl, SqL.of ?_, q _ (g1.trans s1)⟩
            rw [eD, List.take_of_length_le]
            rw [partsB, List.length_map, List.length_zip]
            omega
        · rw [decide_eq_false c, Bool.false_and] at q
          refine ite2 (fun _ => q H (Same.refl H)) (fun c2 => absurd ?_ c2)
          rw [Bool.not_eq_true', decide_eq_false_iff_not]
          intro z
          have z' : (((x0 :: xr).length : Nat) : Int) = 1 + ((rs.map V.str).length : Nat) := by injection z
          rw [List.length_cons, List.length_map] at z'
          omega
end
theorem out_none {d : PyData} {kind : Str} (h : wordOf d = none) : isOut d kind = isPlain d kind := by
  match d, h with
  | .tuple [], _ => rfl
  | .tuple (.none :: _), _ => rfl
  | .tuple (.bool _ :: _), _ => rfl
  | .tuple (.int _ :: _), _ => rfl
  | .tuple (.list _ :: _), _ => rfl
  | .tuple (.tuple _ :: _), _ => rfl
  | .tuple (.dict _ :: _), _ => rfl
  | .none, _ => rfl
  | .bool _, _ => rfl
  | .int _, _ => rfl
  | .str _, _ => rfl
  | .list _, _ => rfl
  | .dict _, _ => rfl
theorem if_while : ¬ (("while" : Str) = "if") := by decide +kernel
theorem out_if {kind : Str} {ps : List PyData} : isOut (.tuple (.str "if" :: ps)) kind = cond3 ps := by
  simp [isOut]
theorem out_while {kind : Str} {ps : List PyData} : isOut (.tuple (.str "while" :: ps)) kind = cond2 ps := by
  simp [isOut, if_while]
theorem out_else {z kind : Str} {ps : List PyData} (h1 : ¬ z = "if") (h2 : ¬ z = "while") : isOut (.tuple (.str z :: ps)) kind = isPlain (.tuple (.str z :: ps)) kind := by
  show (if z = "if" then _ else if z = "while" then _ else _) = _
  rw [if_neg h1, if_neg h2]
theorem cut2 (xs : List V) : cutV xs (some 2) none = xs.drop 2 := by
  have e := HT.sIx_nat xs.length 0 2
  rw [show ((2 : Nat) : Int) = 2 from rfl] at e
  unfold cutV
  rw [e, HT.sIx_none]
  by_cases h : 2 ≤ xs.length
  · rw [Nat.min_eq_left h, List.take_of_length_le (by rw [List.length_drop]; omega)]
  · rw [Nat.min_eq_right (by omega), List.drop_of_length_le (Nat.le_refl _), List.drop_of_length_le (by omega)]
    simp
theorem not_whole2 {xs : List V} (h : 0 < xs.length) : ¬ (HT.sIx xs.length 0 (some 2) = 0 ∧ HT.sIx xs.length xs.length none = xs.length) := by
  intro c
  have e := HT.sIx_nat xs.length 0 2
  rw [show ((2 : Nat) : Int) = 2 from rfl] at e
  rw [e] at c
  omega
theorem dpAll_drop {K : PySem.W.Frag} {H : Hp} : ∀ (n : Nat) {xs : List V} {ds : List PyData}, DpAll K H xs ds → DpAll K H (xs.drop n) (ds.drop n)
  | 0, _, _, h => h
  | n + 1, _, _, .nil => .nil
  | n + 1, _, _, .cons _ t => dpAll_drop n t
def spBods (K : PySem.W.Frag) : Sp := fun vs H Q _ => ∃ (v : V) (z : Str) (ps : List PyData) (H0 : Hp), vs = [v] ∧ Same H0 H ∧ Dp K H0 v (.tuple (.str z :: ps)) ∧
  ∀ H' b ys, Same H H' → SqT K H' b ys → DpAll K H0 ys (bodsOf (.tuple (.str z :: ps))) → Q (.ref b) H'
section
variable {P : Program} {w : World} {K : PySem.W.Frag} {mg : Str → Option Value} {base : Heap}
theorem scOut : FnScope ["thing", "kind", "word"] ["thing", "kind"] (defScope sOut) := ⟨rfl, rfl, rfl, by decide +kernel, rfl, by decide +kernel, by decide +kernel⟩
theorem ok_out {f : Addr} {fd : FuncData} (F : Fun K "is_outside_of_statement" "is_outside_of_statement" sOut f fd) (T : Gs K mg) (D : Gd K w mg) (CW : Cal P w K mg base 1 "word_of" ["thing"] (spWord K))
    (CC : Cal P w K mg base 4 "is_condition" ["thing"] (sp1 isCond K)) (CP : Cal P w K mg base 5 "is_plain_statement" ["thing", "kind"] (sp2 isPlain K)) : FnOk P w K mg base CX0 6 f fd ["thing", "kind"] (sp2 isOut K) := by
  refine F.ok scOut (fun vs H Q E h => ?_) (fun cdv A outer s H vs Q E hr h => ?_)
  · obtain ⟨v, d, kind, rfl, _⟩ := h
    rfl
  obtain ⟨v, d, kind, rfl, hd, ld, q⟩ := h
  have hr1 : Room 1 _ := hr.mono (by decide)
  have hr3 : Room 4 _ := hr.mono (by decide)
  refine ⟨_, pss_cons (ps_set (i := 2) scOut.nd rfl (.inl rfl) (pe_call CW.G hr1 rfl CW.m CW.kp CW.b .nil pass0 (pa_cons (pv 0) pa_nil)))
    (pss_cons (ps_if (pt_cmpR op_inK (pv 2) (pe_gref rfl D.mB) (by rfl))
      (pss_one (ps_ret (pe_and (pe_cmpR op_eq (pe_callB call_len_seq (by rfl) T.len PySem.boot_len (pa_cons (pv 0) pa_nil)) (pe_op op_add pe_int (pe_ix ix_kdict (pe_gref rfl D.mB) (pv 2) (fun _ _ => rfl))) (nomark _))
        (pe_one (pe_call CC.G hr3 rfl CC.m CC.kp CC.b .nil pass0 (pa_cons (pe_ix ix_tup (pv 0) pe_int (fun _ _ => rfl)) pa_nil)))))) pss_nil)
    (pss_one (ps_ret (pe_call CP.G hr rfl CP.m CP.kp CP.b .nil pass0 (pa_cons (pv 0) (pa_cons (pv 1) pa_nil)))))), ?_⟩
  refine ⟨_, rfl, v, d, rfl, hd, _, rfl, D.aB, _, wordOf d, rfl, D.tB, rfl, _, rfl, ?_⟩
  cases hw : wordOf d with
  | none =>
    rw [out_none hw] at q
    exact iteF ⟨_, rfl, _, rfl, v, d, kind, rfl, hd, ld, q⟩
  | some z =>
    obtain ⟨ps, rfl⟩ := word_inv hw
    have eG : ∀ tab, getT tab (some z) = lookT tab z := fun _ => rfl
    rw [eG]
    obtain ⟨a0, xs, rfl, h0, ha⟩ := dp_tup_inv hd
    have hl := dpAll_len ha
    have lm := lay_mem (lay_tup ld)
    by_cases c1 : z = "if"
    · subst c1
      rw [lookT_eq]
      refine iteT ⟨_, rfl, a0, _, rfl, .inr h0, _, rfl, D.aB, _, _, rfl, rfl, ktab_ix D.tB lookT_eq, _, _, rfl, rfl, rfl, _, rfl, ?_⟩
      rw [out_if] at q
      by_cases c : xs.length = 4
      · rw [decide_eq_true (show V.int ((xs.length : Nat) : Int) = V.int (2 + 2) by rw [c]; rfl)]
        have c3 : ps.length = 3 := by rw [List.length_cons] at hl; omega
        match ps, c3, q, ha, lm with
        | [c0, b1, b2], _, q, .cons hz (.cons hc _), lm =>
          exact iteT ⟨_, rfl, a0, _, _, _, rfl, rfl, h0, atI_nat (j := 1) rfl, _, c0, rfl, hc, lm _ (by simp), q H (Same.refl H)⟩
      · rw [decide_eq_false (show ¬ V.int ((xs.length : Nat) : Int) = V.int (2 + 2) from fun e => c (by injection e; omega))]
        refine iteF ?_
        have c3 : ¬ ps.length = 3 := by rw [List.length_cons] at hl; omega
        match ps, c3, q with
        | [], _, q => exact q H (Same.refl H)
        | [_], _, q => exact q H (Same.refl H)
        | [_, _], _, q => exact q H (Same.refl H)
        | [_, _, _], c3, _ => exact absurd rfl c3
        | _ :: _ :: _ :: _ :: _, _, q => exact q H (Same.refl H)
    rw [lookT_ne c1]
    by_cases c2 : z = "while"
    · subst c2
      rw [lookT_eq]
      refine iteT ⟨_, rfl, a0, _, rfl, .inr h0, _, rfl, D.aB, _, _, rfl, rfl, ktab_ix D.tB (by rw [lookT_ne c1, lookT_eq]), _, _, rfl, rfl, rfl, _, rfl, ?_⟩
      rw [out_while] at q
      by_cases c : xs.length = 3
      · rw [decide_eq_true (show V.int ((xs.length : Nat) : Int) = V.int (2 + 1) by rw [c]; rfl)]
        have c3 : ps.length = 2 := by rw [List.length_cons] at hl; omega
        match ps, c3, q, ha, lm with
        | [c0, b1], _, q, .cons hz (.cons hc _), lm =>
          exact iteT ⟨_, rfl, a0, _, _, _, rfl, rfl, h0, atI_nat (j := 1) rfl, _, c0, rfl, hc, lm _ (by simp), q H (Same.refl H)⟩
      · rw [decide_eq_false (show ¬ V.int ((xs.length : Nat) : Int) = V.int (2 + 1) from fun e => c (by injection e; omega))]
        refine iteF ?_
        have c3 : ¬ ps.length = 2 := by rw [List.length_cons] at hl; omega
        match ps, c3, q with
        | [], _, q => exact q H (Same.refl H)
        | [_], _, q => exact q H (Same.refl H)
        | [_, _], c3, _ => exact absurd rfl c3
        | _ :: _ :: _ :: _, _, q => exact q H (Same.refl H)
    rw [lookT_ne c2]
    rw [out_else c1 c2] at q
    exact iteF ⟨_, rfl, _, rfl, _, _, kind, rfl, hd, ld, q⟩
theorem scBodies : FnScope ["statement"] ["statement"] (defScope sBodies) := ⟨rfl, rfl, rfl, by decide +kernel, rfl, by decide +kernel, by decide +kernel⟩
theorem ok_bodies {f : Addr} {fd : FuncData} (F : Fun K "bodies_of" "bodies_of" sBodies f fd) (T : Gs K mg) (D : Gd K w mg) : FnOk P w K mg base CX0 1 f fd ["statement"] (spBods K) := by
  refine F.ok scBodies (fun vs H Q E h => ?_) (fun cdv A outer s H vs Q E hr h => ?_)
  · obtain ⟨v, z, ps, H0, rfl, _⟩ := h
    rfl
  obtain ⟨v, z, ps, H0, rfl, s0, hd, q⟩ := h
  obtain ⟨a0, xs, rfl, h0', ha⟩ := dp_tup_inv hd
  have h0 : SqT K H a0 xs := Same.tup s0 h0'
  refine ⟨_, pss_one (ps_ret (pe_ifExp (pt_cmpR op_inK (pe_ix ix_tup (pv 0) pe_int (fun _ _ => rfl)) (pe_gref rfl D.mB) (by rfl)) (pe_slice sl_tup (pv 0) (po_some pe_int) po_none) (pe_tup pa_nil))), ?_⟩
  cases ha with
  | cons hz hp =>
    cases hz
    rename_i xr
    have eB : bodsOf (.tuple (.str z :: ps)) = if z = "if" ∨ z = "while" then ps.drop 1 else [] := rfl
    refine ⟨_, rfl, a0, _, _, _, rfl, rfl, h0, atI_nat (j := 0) rfl, D.aB, _, some z, rfl, D.tB, rfl, _, rfl, ?_⟩
    have eG : ∀ tab, getT tab (some z) = lookT tab z := fun _ => rfl
    rw [eG]
    rw [eB] at q
    by_cases c : z = "if" ∨ z = "while"
    · have e : (lookT [(("if" : Str), V.int 2), ("while", V.int 1)] z).isSome = true := by
        rcases c with rfl | rfl
        · rw [lookT_eq]; rfl
        · rw [lookT_ne if_while, lookT_eq]; rfl
      rw [if_pos c] at q
      refine ite2 (fun _ => ?_) (fun c2 => absurd e c2)
      refine ⟨_, rfl, _, rfl, a0, _, rfl, h0, not_whole2 (by rw [List.length_cons]; omega), fun p np => ?_⟩
      rw [cut2]
      exact q _ p _ (same_new np _) (SqT.of upd_same) (dpAll_drop 1 hp)
    · rw [if_neg c] at q
      have e : (lookT [(("if" : Str), V.int 2), ("while", V.int 1)] z).isSome = false := by
        rw [lookT_ne (fun e => c (.inl e)), lookT_ne (fun e => c (.inr e))]
        rfl
      refine ite2 (fun c2 => ?_) (fun _ => ⟨by show 0 ≤ sizeLine; decide, fun p np => ?_⟩)
      · have c3 : (lookT [(("if" : Str), V.int 2), ("while", V.int 1)] z).isSome = true := c2
        rw [e] at c3
        cases c3
      · exact q _ p _ (same_new np _) (SqT.of upd_same) .nil
end
/-! ### counting statements -/
def addO : Option Nat → Option Nat → Option Nat
  | some a, some b => some (a + b)
  | _, _ => none
def sumO : List (Option Nat) → Option Nat
  | [] => some 0
  | x :: r => addO x (sumO r)
theorem addO_none (x : Option Nat) : addO x none = none := by cases x <;> rfl
theorem none_addO (x : Option Nat) : addO none x = none := by cases x <;> rfl
theorem addO_assoc (x y z : Option Nat) : addO (addO x y) z = addO x (addO y z) := by
  cases x <;> cases y <;> cases z <;> simp [addO, Nat.add_assoc]
theorem addO_comm (x y : Option Nat) : addO x y = addO y x := by
  cases x <;> cases y <;> simp [addO, Nat.add_comm]
theorem zero_addO (x : Option Nat) : addO (some 0) x = x := by cases x <;> simp [addO]
theorem addO_zero (x : Option Nat) : addO x (some 0) = x := by cases x <;> simp [addO]
theorem sumO_append (xs ys : List (Option Nat)) : sumO (xs ++ ys) = addO (sumO xs) (sumO ys) := by
  induction xs with
  | nil => exact (zero_addO _).symm
  | cons x r ih => rw [List.cons_append]; simp only [sumO]; rw [ih, addO_assoc]
def bodyN (kind : Str) : Nat → PyData → Option Nat
  | 0, .tuple [] => some 0
  | 0, _ => none
  | r + 1, .tuple ss => sumO (ss.map fun s => if isOut s kind = true then addO (some 1) (sumO ((bodsOf s).map (bodyN kind r))) else none)
  | _ + 1, _ => none
def stN (kind : Str) (r : Nat) (s : PyData) : Option Nat := if isOut s kind = true then addO (some 1) (sumO ((bodsOf s).map (bodyN kind r))) else none
theorem bodyN_tup (kind : Str) (r : Nat) (ss : List PyData) : bodyN kind (r + 1) (.tuple ss) = sumO (ss.map (stN kind r)) := by
  simp only [bodyN]
  rfl
def okN (many : Nat) : Option Nat → Bool
  | some n => decide (many + n ≤ 24)
  | none => false
def isProg (d : PyData) : Bool := match d with
  | .tuple [.str k, b] => inS (.str k) kinds && okN 0 (bodyN k 4 b)
  | _ => false
def tot (kind : Str) (stk : List (PyData × Nat)) : Option Nat := sumO (stk.map fun p => bodyN kind (5 - p.2) p.1)
def good (kind : Str) (many : Nat) (stk : List (PyData × Nat)) : Bool := okN many (tot kind stk)
theorem tot_append (kind : Str) (a b : List (PyData × Nat)) : tot kind (a ++ b) = addO (tot kind a) (tot kind b) := by
  unfold tot
  rw [List.map_append, sumO_append]
theorem tot_one (kind : Str) (p : PyData × Nat) : tot kind [p] = bodyN kind (5 - p.2) p.1 := by
  unfold tot
  simp only [List.map_cons, List.map_nil, sumO, addO_zero]
theorem okN_none (m : Nat) : okN m none = false := rfl
theorem okN_add (m k : Nat) (x : Option Nat) : okN m (addO (some k) x) = okN (m + k) x := by
  cases x with
  | none => rfl
  | some n => simp only [addO, okN]; congr 1; rw [Nat.add_assoc]
theorem bodyN_no (kind : Str) (r : Nat) {d : PyData} (h : isT d "tuple" = false) : bodyN kind r d = none := by
  cases d <;> first | (cases r <;> rfl) | (simp [isT, tyN] at h)
theorem stN_ge {kind : Str} {r n : Nat} {s : PyData} (h : stN kind r s = some n) : 1 ≤ n := by
  unfold stN at h
  split at h
  · cases e : sumO ((bodsOf s).map (bodyN kind r)) with
    | none => rw [e] at h; cases h
    | some m =>
      rw [e] at h
      have : 1 + m = n := by injection h
      omega
  · cases h
theorem sumO_ge {kind : Str} {r : Nat} : ∀ {ss : List PyData} {n : Nat}, sumO (ss.map (stN kind r)) = some n → ss.length ≤ n
  | [], _, _ => Nat.zero_le _
  | s :: t, n, h => by
    simp only [List.map_cons, sumO] at h
    cases e1 : stN kind r s with
    | none => rw [e1, none_addO] at h; cases h
    | some a =>
      cases e2 : sumO (t.map (stN kind r)) with
      | none => rw [e2, addO_none] at h; cases h
      | some b =>
        rw [e1, e2] at h
        have e : a + b = n := by injection h
        have h1 := stN_ge e1
        have h2 := sumO_ge e2
        rw [List.length_cons]
        omega
/-- too many, or too deep -/
theorem good_over {kind : Str} {many dep : Nat} {st : List (PyData × Nat)} {ss : List PyData} (h : 24 < many + ss.length ∨ (0 < ss.length ∧ 4 < dep)) : good kind many (st ++ [(.tuple ss, dep)]) = false := by
  unfold good
  rw [tot_append, tot_one]
  show okN many (addO (tot kind st) (bodyN kind (5 - dep) (.tuple ss))) = false
  cases e : bodyN kind (5 - dep) (.tuple ss) with
  | none => rw [addO_none]; rfl
  | some n =>
    cases e1 : tot kind st with
    | none => rfl
    | some a =>
      show decide (many + (a + n) ≤ 24) = false
      rw [decide_eq_false_iff_not]
      cases hr : 5 - dep with
      | zero =>
        rw [hr] at e
        cases ss with
        | nil => rcases h with h | ⟨h, _⟩
                 · simp at h; omega
                 · simp at h
        | cons s t => simp [bodyN] at e
      | succ r =>
        rw [hr, bodyN_tup] at e
        have g := sumO_ge e
        rcases h with h | ⟨_, h⟩
        · omega
        · omega
theorem good_no {kind : Str} {many dep : Nat} {st : List (PyData × Nat)} {d : PyData} (h : isT d "tuple" = false) : good kind many (st ++ [(d, dep)]) = false := by
  unfold good
  rw [tot_append, tot_one]
  show okN many (addO (tot kind st) (bodyN kind (5 - dep) d)) = false
  rw [bodyN_no kind _ h, addO_none]
  rfl
theorem sumO_none {kind : Str} {r : Nat} {s : PyData} (h : isOut s kind = false) : ∀ {ss : List PyData}, s ∈ ss → sumO (ss.map (stN kind r)) = none
  | x :: t, m => by
    simp only [List.map_cons, sumO]
    rcases List.mem_cons.mp m with e | m
    · subst e
      have e : stN kind r s = none := by unfold stN; rw [if_neg (by rw [h]; decide)]
      rw [e, none_addO]
    · rw [sumO_none h m, addO_none]
theorem good_bad {kind : Str} {many dep : Nat} {st : List (PyData × Nat)} {ss : List PyData} {s : PyData} (h : isOut s kind = false) (m : s ∈ ss) : good kind many (st ++ [(.tuple ss, dep)]) = false := by
  unfold good
  rw [tot_append, tot_one]
  show okN many (addO (tot kind st) (bodyN kind (5 - dep) (.tuple ss))) = false
  have e : bodyN kind (5 - dep) (.tuple ss) = none := by
    cases 5 - dep with
    | zero =>
      cases ss with
      | nil => cases m
      | cons _ _ => rfl
    | succ r => rw [bodyN_tup, sumO_none h m]
  rw [e, addO_none]
  rfl
def pushes (dep : Nat) (ss : List PyData) : List (PyData × Nat) := ss.flatMap fun s => (bodsOf s).map fun b => (b, dep + 1)
theorem sumO_all {kind : Str} {r dep : Nat} (hr : 5 - (dep + 1) = r) : ∀ {ss : List PyData}, (∀ s ∈ ss, isOut s kind = true) → sumO (ss.map (stN kind r)) = addO (some ss.length) (tot kind (pushes dep ss))
  | [], _ => rfl
  | s :: t, h => by
    have ih := sumO_all hr (ss := t) (fun x m => h x (List.mem_cons_of_mem _ m))
    simp only [List.map_cons, sumO]
    rw [ih]
    have e : stN kind r s = addO (some 1) (sumO ((bodsOf s).map (bodyN kind r))) := by unfold stN; rw [if_pos (h s (by simp))]
    have e2 : tot kind (pushes dep (s :: t)) = addO (sumO ((bodsOf s).map (bodyN kind r))) (tot kind (pushes dep t)) := by
      unfold pushes
      rw [List.flatMap_cons, tot_append]
      congr 1
      unfold tot
      rw [List.map_map]
      congr 2
      funext b
      show bodyN kind (5 - (dep + 1)) b = _
      rw [hr]
    rw [e, e2]
    cases sumO ((bodsOf s).map (bodyN kind r)) with
    | none => simp [addO, none_addO]
    | some a =>
      cases tot kind (pushes dep t) with
      | none => simp [addO]
      | some b => simp only [addO, List.length_cons]; congr 1; omega
theorem good_step {kind : Str} {many dep : Nat} {st : List (PyData × Nat)} {ss : List PyData} (hd : dep ≤ 5) (h4 : 0 < ss.length → dep ≤ 4) (h : ∀ s ∈ ss, isOut s kind = true) :
    good kind (many + ss.length) (st ++ pushes dep ss) = good kind many (st ++ [(.tuple ss, dep)]) := by
  unfold good
  rw [tot_append, tot_append, tot_one]
  show _ = okN many (addO (tot kind st) (bodyN kind (5 - dep) (.tuple ss)))
  have e : bodyN kind (5 - dep) (.tuple ss) = addO (some ss.length) (tot kind (pushes dep ss)) := by
    by_cases c : dep ≤ 4
    · have e1 : 5 - dep = (5 - (dep + 1)) + 1 := by omega
      rw [e1, bodyN_tup, sumO_all (dep := dep) rfl h]
    · have z : ss = [] := by
        cases ss with
        | nil => rfl
        | cons _ _ => exact absurd (h4 (by simp)) c
      subst z
      have e1 : 5 - dep = 0 := by omega
      rw [e1]
      rfl
  rw [e, ← addO_assoc, addO_comm (tot kind st) (some ss.length), addO_assoc, okN_add]
/-! ### a measure -/
mutual
def sz : PyData → Nat
  | .tuple xs => 1 + szAll xs
  | .list xs => 1 + szAll xs
  | .none | .bool _ | .int _ | .str _ | .dict _ => 1
def szAll : List PyData → Nat
  | [] => 0
  | x :: xs => sz x + szAll xs
end
def tsz : List (PyData × Nat) → Nat
  | [] => 0
  | p :: r => sz p.1 + tsz r
theorem tsz_append : ∀ a b : List (PyData × Nat), tsz (a ++ b) = tsz a + tsz b
  | [], b => by simp [tsz]
  | x :: r, b => by rw [List.cons_append]; simp only [tsz]; rw [tsz_append r b]; omega
theorem tsz_map (dep : Nat) : ∀ bs : List PyData, tsz (bs.map fun b => (b, dep)) = szAll bs
  | [] => rfl
  | x :: r => by simp only [List.map_cons, tsz, szAll]; rw [tsz_map dep r]
theorem szAll_drop : ∀ (n : Nat) (bs : List PyData), szAll (bs.drop n) ≤ szAll bs
  | 0, bs => Nat.le_refl _
  | n + 1, [] => Nat.le_refl _
  | n + 1, x :: r => by
    rw [List.drop_succ_cons]
    have := szAll_drop n r
    simp only [szAll]
    omega
theorem bods_sz (s : PyData) : szAll (bodsOf s) ≤ sz s := by
  match s with
  | .tuple (.str z :: ps) =>
    show szAll (if z = "if" ∨ z = "while" then ps.drop 1 else []) ≤ _
    simp only [sz, szAll]
    split
    · have := szAll_drop 1 ps
      omega
    · simp [szAll]
  | .tuple [] => exact Nat.zero_le _
  | .tuple (.none :: _) => exact Nat.zero_le _
  | .tuple (.bool _ :: _) => exact Nat.zero_le _
  | .tuple (.int _ :: _) => exact Nat.zero_le _
  | .tuple (.list _ :: _) => exact Nat.zero_le _
  | .tuple (.tuple _ :: _) => exact Nat.zero_le _
  | .tuple (.dict _ :: _) => exact Nat.zero_le _
  | .none => exact Nat.zero_le _
  | .bool _ => exact Nat.zero_le _
  | .int _ => exact Nat.zero_le _
  | .str _ => exact Nat.zero_le _
  | .list _ => exact Nat.zero_le _
  | .dict _ => exact Nat.zero_le _
theorem pushes_sz (dep : Nat) : ∀ ss : List PyData, tsz (pushes dep ss) ≤ szAll ss
  | [] => Nat.le_refl _
  | s :: t => by
    have e : pushes dep (s :: t) = (bodsOf s).map (fun b => (b, dep + 1)) ++ pushes dep t := by unfold pushes; rw [List.flatMap_cons]
    rw [e, tsz_append, tsz_map]
    have h1 := bods_sz s
    have h2 := pushes_sz dep t
    simp only [szAll]
    omega
theorem out_word {s : PyData} {kind : Str} (h : isOut s kind = true) : ∃ z ps, s = .tuple (.str z :: ps) := by
  cases hw : wordOf s with
  | some z => obtain ⟨ps, e⟩ := word_inv hw; exact ⟨z, ps, e⟩
  | none =>
    rw [out_none hw] at h
    have : rolesOf (wordOf s) kind = none := by rw [hw]; rfl
    rw [plain_none this] at h
    cases h
theorem bods_short {s : PyData} {kind : Str} (h : isOut s kind = true) : (bodsOf s).length ≤ 2 := by
  obtain ⟨z, ps, rfl⟩ := out_word h
  show (if z = "if" ∨ z = "while" then ps.drop 1 else []).length ≤ 2
  split
  · rename_i c
    rcases c with rfl | rfl
    · rw [out_if] at h
      match ps, h with
      | [_, _, _], _ => simp
    · rw [out_while] at h
      match ps, h with
      | [_, _], _ => simp
  · decide
theorem pushes_len {kind : Str} (dep : Nat) : ∀ {ss : List PyData}, (∀ s ∈ ss, isOut s kind = true) → (pushes dep ss).length ≤ 2 * ss.length
  | [], _ => Nat.le_refl _
  | s :: t, h => by
    have e : pushes dep (s :: t) = (bodsOf s).map (fun b => (b, dep + 1)) ++ pushes dep t := by unfold pushes; rw [List.flatMap_cons]
    rw [e, List.length_append, List.length_map, List.length_cons]
    have h1 := bods_short (h s (by simp))
    have h2 := pushes_len dep (ss := t) (fun x m => h x (List.mem_cons_of_mem _ m))
    omega
theorem pushes_snoc (dep : Nat) (a : List PyData) (s : PyData) : pushes dep (a ++ [s]) = pushes dep a ++ (bodsOf s).map fun b => (b, dep + 1) := by
  unfold pushes
  rw [List.flatMap_append, List.flatMap_cons, List.flatMap_nil, List.append_nil]
theorem while_m {c : TT} {tb : TS} {D : Ends} {σ : L2.St} {H : Hp} (Pv : Nat → L2.St → Hp → Prop) {m0 : Nat} (h0 : Pv m0 σ H)
    (hs : ∀ m σ H, Pv m σ H → c σ H fun b H1 => if b = true then tb { D with nx := fun σ' H' => ∃ m', m' < m ∧ Pv m' σ' H', ct := fun σ' H' => ∃ m', m' < m ∧ Pv m' σ' H', bk := D.nx } σ H1 else D.nx σ H1)
    (mono : ∀ σ H Q Q', (∀ b H1, Q b H1 → Q' b H1) → c σ H Q → c σ H Q') : tWhile c tb D σ H := by
  refine ⟨Pv, ⟨_, h0⟩, ?_⟩
  intro m σ H p
  refine mono σ H _ _ (fun b H1 q => ?_) (hs m σ H p)
  cases b with
  | true => exact ⟨_, fun σ' H' p' => p', q⟩
  | false => exact q
theorem seq_while {c : TT} {tb u : TS} {D : Ends} {σ : L2.St} {H : Hp} (h : tWhile c tb { D with nx := u D } σ H) : tSeq (tWhile c tb) u D σ H := h
/-- the things on the pile: pairs (body, depth) -/
def Itm (K : PySem.W.Frag) (H0 H : Hp) (x : V) (p : PyData × Nat) : Prop := ∃ (t : Addr) (v : V), x = .ref t ∧ H t = some (.tup [v, .int (p.2 : Nat)]) ∧ Dp K H0 v p.1 ∧ Lay p.1 ∧ p.2 ≤ 5
inductive Items (K : PySem.W.Frag) (H0 H : Hp) : List V → List (PyData × Nat) → Prop
  | nil : Items K H0 H [] []
  | cons {x : V} {xs : List V} {p : PyData × Nat} {ps : List (PyData × Nat)} : Itm K H0 H x p → Items K H0 H xs ps → Items K H0 H (x :: xs) (p :: ps)
section
variable {K : PySem.W.Frag} {H0 H H' : Hp}
theorem Items.len : ∀ {xs : List V} {ps : List (PyData × Nat)}, Items K H0 H xs ps → xs.length = ps.length
  | _, _, .nil => rfl
  | _, _, .cons _ t => by rw [List.length_cons, List.length_cons, t.len]
theorem Items.append : ∀ {xs ys : List V} {ps qs : List (PyData × Nat)}, Items K H0 H xs ps → Items K H0 H ys qs → Items K H0 H (xs ++ ys) (ps ++ qs)
  | _, _, _, _, .nil, h => h
  | _, _, _, _, .cons i t, h => .cons i (t.append h)
theorem Items.snoc : ∀ (xs : List V) {y : V} {ps : List (PyData × Nat)}, Items K H0 H (xs ++ [y]) ps → ∃ st p, ps = st ++ [p] ∧ Items K H0 H xs st ∧ Itm K H0 H y p
  | [], _, _, .cons i .nil => ⟨[], _, rfl, .nil, i⟩
  | x :: r, _, _, .cons i t => by
    obtain ⟨st, p, e, h1, h2⟩ := Items.snoc r t
    exact ⟨_ :: st, p, by rw [e]; rfl, .cons i h1, h2⟩
theorem Itm.keep {l : Addr} {x : V} {p : PyData × Nat} (i : Itm K H0 H x p) (e : ∀ b o, b ≠ l → H b = some o → H' b = some o) {ys : List V} (hl : H l = some (.lst ys)) : Itm K H0 H' x p := by
  obtain ⟨t, v, e1, e2, r⟩ := i
  exact ⟨t, v, e1, e t _ (ne_of e2 hl (by intro z; cases z)) e2, r⟩
theorem Items.keep {l : Addr} {ys : List V} (e : ∀ b o, b ≠ l → H b = some o → H' b = some o) (hl : H l = some (.lst ys)) : ∀ {xs : List V} {ps : List (PyData × Nat)}, Items K H0 H xs ps → Items K H0 H' xs ps
  | _, _, .nil => .nil
  | _, _, .cons i t => .cons (i.keep e hl) (t.keep e hl)
theorem Items.mono (e : Same H H') : ∀ {xs : List V} {ps : List (PyData × Nat)}, Items K H0 H xs ps → Items K H0 H' xs ps
  | _, _, .nil => .nil
  | _, _, .cons ⟨t, v, e1, e2, r⟩ s => .cons ⟨t, v, e1, e _ _ e2, r⟩ (s.mono e)
end
def spProg (K : PySem.W.Frag) : Sp := fun vs H Q _ => ∃ (v : V) (d : PyData), vs = [v] ∧ Dp K H v d ∧ Lay d ∧ ∀ H', Same H H' → Q (.bl (isProg d)) H'
section
variable {P : Program} {w : World} {K : PySem.W.Frag} {mg : Str → Option Value} {base : Heap}
theorem scProg : FnScope ["thing", "kind", "many", "pending", "body", "depth", "statement", "inner"] ["thing"] (defScope sProg) := ⟨rfl, rfl, rfl, by decide +kernel, rfl, by decide +kernel, by decide +kernel⟩
theorem dp_two {H : Hp} {xs : List V} {ds : List PyData} (h : DpAll K H xs ds) (l : ds.length = 2) : ∃ x0 x1 d0 d1, xs = [x0, x1] ∧ ds = [d0, d1] ∧ Dp K H x0 d0 ∧ Dp K H x1 d1 := by
  match ds, l, h with
  | [d0, d1], _, .cons (v := x0) h0 (.cons (v := x1) h1 .nil) => exact ⟨x0, x1, d0, d1, rfl, rfl, h0, h1⟩
theorem take_snoc {α : Type} {l : List α} {j : Nat} {x : α} (h : l[j]? = some x) : l.take (j + 1) = l.take j ++ [x] := by
  rw [List.take_add_one, h]
  rfl
theorem bods_lay {s : PyData} (h : Lay s) : ∀ b ∈ bodsOf s, Lay b := by
  intro b m
  match s, h, m with
  | .tuple (.str z :: ps), h, m =>
    have m' : b ∈ (if z = "if" ∨ z = "while" then ps.drop 1 else []) := m
    split at m'
    · exact lay_mem (lay_tup h) b (List.mem_cons_of_mem _ (List.mem_of_mem_drop m'))
    · cases m'
theorem loop_ok {D : Ends} {H H1 : Hp} {k : Str} {n dep : Nat} {a0 pl ab : Addr} {xs ys : List V} {ss : List PyData} {st : List (PyData × Nat)} {s6 : Option V} (sH1 : Same H H1) (nplH : H pl = none) (hp1 : H1 pl = some (.lst ys)) (it1 : Items K H H1 ys st)
    (hab : SqT K H ab xs) (hss : DpAll K H xs ss) (lay : PyData.canLayAll0 ss = true) (hdep : dep ≤ 5) (h4 : 0 < ss.length → dep ≤ 4) (h24 : ss.length ≤ 24) (hst : st.length ≤ 100)
    (hF : ∀ s, s ∈ ss → isOut s k = false → ∀ H', Same H H' → D.rt (.bl false) H')
    (hN : ∀ H' ys' s6, (∀ s ∈ ss, isOut s k = true) → Same H H' → H' pl = some (.lst ys') → Items K H H' ys' (st ++ pushes dep ss) →
      D.nx [some (.ref a0), some (.str k), some (.int (n : Nat)), some (.ref pl), some (.ref ab), some (.int (dep : Nat)), s6, none] H') :
    tFor (iTup K (tVar 4)) (gName 6) (tSeq (tIfS (tNot (tB (tCall (sp2 isOut K) [] E0 (tCons (tVar 6) (tCons (tVar 1) tNil))))) (tRet (tC (.bl false))) tNext)
      (tDrop (tBM K "list" rExtend (tVar 3) (tCons (tLc (iTup K (tCall (spBods K) [] E0 (tCons (tVar 6) tNil))) (gName 7) tYes (tTup (tCons (tVar 7) (tCons (tOp (rI0 fun i j => V.int (i + j)) (tVar 5) (tC (V.int 1))) tNil))) [7]) tNil))))
      D [some (.ref a0), some (.str k), some (.int (n : Nat)), some (.ref pl), some (.ref ab), some (.int (dep : Nat)), s6, none] H1 := by
  have hl := dpAll_len hss
  refine ⟨_, rfl, ab, rfl, ⟨_, Same.tup sH1 hab⟩, for_tup (K := K) (a := ab) (xs := xs)
    (fun i σ H' => ∃ (ys' : List V) (s6 : Option V), σ = [some (.ref a0), some (.str k), some (.int (n : Nat)), some (.ref pl), some (.ref ab), some (.int (dep : Nat)), s6, none] ∧ (∀ s ∈ ss.take i, isOut s k = true) ∧ Same H H' ∧ H' pl = some (.lst ys') ∧
      Items K H H' ys' (st ++ pushes dep (ss.take i))) ⟨ys, s6, rfl, by simp, sH1, hp1, by simpa [pushes] using it1⟩ (fun i σ H' _ ⟨_, _, _, _, s1, _⟩ => Same.tup s1 hab) ?_ ?_⟩
  · rintro i x σ H' hx ⟨ys', s6', rfl, hall, s1, hp', it'⟩
    obtain ⟨si, hsi, hxd⟩ := dpAll_get hss hx
    have hil : i < ss.length := (List.getElem?_eq_some_iff.mp hsi).1
    have msi : si ∈ ss := List.mem_of_getElem? hsi
    have lsi : Lay si := lay_mem lay _ msi
    refine ⟨_, rfl, _, rfl, x, si, k, rfl, dp_mono s1 _ _ hxd, lsi, fun H2 s2 => ⟨_, rfl, ?_⟩⟩
    cases ho : isOut si k with
    | false => exact iteT (hF si msi ho H2 (s1.trans s2))
    | true =>
      refine iteF ?_
      obtain ⟨z, ps, rfl⟩ := out_word ho
      have h4' := h4 (by omega)
      refine ⟨_, rfl, .inl ⟨rfl, _, SqL.of (s2 _ _ hp')⟩, _, rfl, x, z, ps, H, rfl, s1.trans s2, hxd, fun H3 b zs s3 hb hz => ⟨b, rfl, ⟨_, hb⟩, fun Dn nD => ?_⟩⟩
      refine lc_tup (K := K) (a := b) (xs := zs) (fun j H4 => Same H3 H4 ∧ ∃ acc, H4 Dn = some (.lst acc) ∧ Items K H H4 acc (((bodsOf (.tuple (.str z :: ps))).take j).map fun b => (b, dep + 1)))
        ⟨same_upd (Same.refl _) nD _, [], upd_same, .nil⟩ (fun j H4 _ P => Same.tup P.1 hb) ?_ ?_
      · rintro j y H4 hy ⟨s4, acc, eD, itA⟩
        obtain ⟨bj, hbj, hyd⟩ := dpAll_get hz hy
        refine ⟨rfl, ?_⟩
        refine ⟨_, rfl, _, rfl, _, _, rfl, rfl, (by show 2 ≤ sizeLine; decide), fun T nT => ⟨acc, ?_, ?_, ?_, _, upd_same, ?_⟩⟩
        · rw [upd_ne (ne_of_none eD nT)]
          exact eD
        · have e := itA.len
          rw [List.length_map, List.length_take] at e
          have e2 := bods_short ho
          exact Nat.lt_of_le_of_lt (by omega : _ ≤ 1000) (by decide)
        · exact same_upd (s4.trans (same_new nT _)) nD _
        · rw [take_snoc hbj, List.map_append]
          have nTD : T ≠ Dn := fun e => by rw [← e, nT] at eD; cases eD
          have g : ∀ b o, b ≠ Dn → (upd H4 T (.tup [y, .int ((dep : Int) + 1)])) b = some o → (upd (upd H4 T (.tup [y, .int ((dep : Int) + 1)])) Dn (.lst (acc ++ [.ref T]))) b = some o := fun b o n e => by rw [upd_ne n]; exact e
          have eD' : (upd H4 T (.tup [y, .int ((dep : Int) + 1)])) Dn = some (.lst acc) := by rw [upd_ne (ne_of_none eD nT)]; exact eD
          refine ((itA.mono (same_new nT _)).keep g eD').append (.cons ⟨T, y, rfl, ?_, hyd, bods_lay lsi _ (List.mem_of_getElem? hbj), by show dep + 1 ≤ 5; omega⟩ .nil)
          rw [upd_ne nTD, upd_same]
          rfl
      · rintro H4 ⟨s4, acc, eD, itA⟩
        have hzl := dpAll_len hz
        rw [hzl, List.take_length] at itA
        have s24 := s2.trans (s3.trans s4)
        have hp4 := s24 _ _ hp'
        have nDp : Dn ≠ pl := fun e => by
          have := (s2.trans s3) _ _ hp'
          rw [← e, nD] at this
          cases this
        refine ⟨pl, Dn, ys', acc, rfl, rfl, hp4, eD, ?_, ys' ++ acc, _, rfl, ?_, same_upd (s1.trans s24) nplH _, upd_same, ?_⟩
        · have e1 := it'.len
          have e2 := itA.len
          have e3 := bods_short ho
          have e4 := pushes_len (kind := k) dep hall
          rw [List.length_append] at e1
          rw [List.length_map] at e2
          rw [List.length_take] at e4
          exact Nat.le_of_lt (Nat.lt_of_le_of_lt (by omega : _ ≤ 1000) (by decide))
        · intro s ms
          rw [take_snoc hsi] at ms
          rcases List.mem_append.mp ms with m | m
          · exact hall s m
          · rw [List.mem_singleton.mp m]
            exact ho
        · rw [take_snoc hsi, pushes_snoc, ← List.append_assoc]
          have g : ∀ b o, b ≠ pl → H4 b = some o → (upd H4 pl (.lst (ys' ++ acc))) b = some o := fun b o n e => by rw [upd_ne n]; exact e
          exact ((it'.mono s24).keep g hp4).append (itA.keep g hp4)
  · rintro σ H' ⟨ys', s6', rfl, hall, s1, hp', it'⟩
    rw [hl, List.take_length] at hall it'
    exact hN H' ys' s6' hall s1 hp' it'
theorem prog_no {d : PyData} (h : ∀ k b, d ≠ .tuple [.str k, b]) : isProg d = false := by
  unfold isProg
  split
  · rename_i k b; exact absurd rfl (h k b)
  · rfl
theorem ok_prog {f : Addr} {fd : FuncData} (F : Fun K "is_program" "is_program" sProg f fd) (T : Gs K mg) (CO : Cal P w K mg base 6 "is_outside_of_statement" ["thing", "kind"] (sp2 isOut K))
    (CB : Cal P w K mg base 1 "bodies_of" ["statement"] (spBods K)) : FnOk P w K mg base CX0 7 f fd ["thing"] (spProg K) := by
  refine F.ok scProg (fun vs H Q E h => ?_) (fun cdv A outer s H vs Q E hr h => ?_)
  · obtain ⟨v, d, rfl, _⟩ := h
    rfl
  obtain ⟨v, d, rfl, hd, ld, q⟩ := h
  have hr1 : Room 1 _ := hr.mono (by decide)
  refine ⟨_, pss_cons (ps_if (PW.pt (pw_or (pt_not (pt_val (pe_callB call_isi (by rfl) T.isi (by decide +kernel) (pa_cons (pv 0) (pa_cons (pe_bltn (v := .ty "tuple") (by rfl) T.tup (by decide +kernel) rfl) pa_nil)))))
      (pw_or (pt_cmpR op_ne (pe_callB call_len_seq (by rfl) T.len PySem.boot_len (pa_cons (pv 0) pa_nil)) pe_int (nomark _))
      (pw_or1 (pt_cmpR (op_notInS (hu65 hr)) (pe_ix ix_tup (pv 0) pe_int (fun _ _ => rfl)) (pe_gref rfl T.mK) (by rfl)))))) (pss_one (ps_ret pe_bl)) pss_nil)
    (pss_cons (ps_set (i := 1) scProg.nd rfl (.inl rfl) (pe_ix ix_tup (pv 0) pe_int (fun _ _ => rfl)))
    (pss_cons (ps_set (i := 2) scProg.nd rfl (.inl rfl) pe_int)
    (pss_cons (ps_set (i := 3) scProg.nd rfl (.inl rfl) (pe_lst (pa_cons (pe_tup (pa_cons (pe_ix ix_tup (pv 0) pe_int (fun _ _ => rfl)) (pa_cons pe_int pa_nil))) pa_nil)))
    (pss_cons (ps_while PassesOwn.never (pt_truth (pv 3) (by intro _; rfl))
      (pss_cons (ps_asg (pe_bm0 PySem.F.plainAttrs_list PySem.F.slot_list_pop PySem.F.type_list_pop mt_pop (pv 3)) (pg_tup (by rfl) (pgs_cons (pg_name (i := 4) scProg.nd rfl (.inl rfl)) (pgs_cons (pg_name (i := 5) scProg.nd rfl (.inr rfl)) pgs_nil))))
      (pss_cons (ps_if (pt_not (pt_val (pe_callB call_isi (by rfl) T.isi (by decide +kernel) (pa_cons (pv 4) (pa_cons (pe_bltn (v := .ty "tuple") (by rfl) T.tup (by decide +kernel) rfl) pa_nil))))) (pss_one (ps_ret pe_bl)) pss_nil)
      (pss_cons (ps_aug (i := 2) scProg.nd rfl (.inl rfl) (pe_callB call_len_seq (by rfl) T.len PySem.boot_len (pa_cons (pv 4) pa_nil)) ip_add)
      (pss_cons (ps_if (PW.pt (pw_or (pt_cmpR op_gt (pv 2) (pe_gint rfl T.mS) (nomark _)) (pw_or1 (PW.pt (pw_and (pt_cmpR op_gt (pe_callB call_len_seq (by rfl) T.len PySem.boot_len (pa_cons (pv 4) pa_nil)) pe_int (nomark _)) (pw_and1 (pt_cmpR op_gt (pv 5) (pe_gint rfl T.mD) (nomark _)))))))) (pss_one (ps_ret pe_bl)) pss_nil)
      (pss_one (ps_for PassesOwn.never rfl (pi_tup (pv 4)) (pg_name (i := 6) scProg.nd rfl (.inl rfl))
        (pss_cons (ps_if (pt_not (pt_val (pe_call CO.G hr rfl CO.m CO.kp CO.b .nil pass0 (pa_cons (pv 6) (pa_cons (pv 1) pa_nil))))) (pss_one (ps_ret pe_bl)) pss_nil)
        (pss_one (ps_expr (pe_bm PySem.F.plainAttrs_list PySem.F.slot_list_extend PySem.F.type_list_extend mt_extend (pv 3) (pa_cons
          (pe_lc (own := [("inner", 7)]) (g := gName 7) (tt := tYes) rfl scProg.nd (pi_tup (pe_call CB.G hr1 rfl CB.m CB.kp CB.b .nil pass0 (pa_cons (pv 6) pa_nil)))
            (blkOk_by (N := ["thing", "kind", "many", "pending", "body", "depth", "statement", "inner"]) (sc := defScope sProg) (by decide +kernel))
            (fun _ _ _ _ _ => pg_name (i := 7) scProg.nd rfl (.inl rfl)) (fun _ _ _ _ _ => pts_nil)
            (fun _ _ _ _ _ => pe_tup (pa_cons (pv 7) (pa_cons (pe_op op_add (pv 5) pe_int) pa_nil)))) pa_nil))))))))))))
    (pss_one (ps_ret pe_bl)))))), ?_⟩
  refine ⟨_, rfl, v, .ty "tuple", _, _, _, rfl, .ty _, dp_ty hd, kit_isT d (by simp) (dp_nd hd), _, rfl, ?_⟩
  cases ht : isT d "tuple" with
  | false =>
    refine iteT (iteT ?_)
    rw [prog_no (fun k b e => by rw [e] at ht; cases ht)] at q
    exact q H (Same.refl H)
  | true =>
    obtain ⟨ds, rfl⟩ := isT_tup ht
    obtain ⟨a0, xs, rfl, h0, ha⟩ := dp_tup_inv hd
    have hl := dpAll_len ha
    refine iteF ⟨_, rfl, a0, xs, rfl, .inr h0, rfl, _, rfl, ?_⟩
    by_cases h2 : ds.length = 2
    · refine iteNS (show V.int ((xs.length : Nat) : Int) = V.int 2 by rw [hl, h2]; rfl) ?_
      obtain ⟨x0, x1, d0, d1, rfl, rfl, hx0, hx1⟩ := dp_two ha h2
      have lm := lay_mem (lay_tup ld)
      refine ⟨_, rfl, a0, _, _, _, rfl, rfl, h0, atI_nat (j := 0) rfl, d0, kinds, T.aK, rfl, hx0, lm _ (by simp), T.kK _, by decide +kernel, _, rfl, ?_⟩
      cases hk : inS d0 kinds with
      | false =>
        refine iteT ?_
        have e : isProg (.tuple [d0, d1]) = false := by
          cases d0 with
          | str k => show (inS (.str k) kinds && _) = false; rw [hk]; rfl
          | _ => rfl
        rw [e] at q
        exact q H (Same.refl H)
      | true =>
        refine iteF ?_
        obtain ⟨k, rfl⟩ : ∃ k, d0 = .str k := by
          cases d0 with
          | str k => exact ⟨k, rfl⟩
          | _ => cases hk
        cases hx0
        refine ⟨_, rfl, a0, _, _, _, rfl, rfl, h0, atI_nat (j := 0) rfl, ?_⟩
        refine ⟨_, rfl, a0, _, _, _, rfl, rfl, h0, atI_nat (j := 1) rfl, (by show 2 ≤ sizeLine; decide), fun t nt => ⟨(by show 1 ≤ sizeLine; decide), fun pl npl => ?_⟩⟩
        have eP : good k 0 [(d1, 1)] = isProg (.tuple [.str k, d1]) := by
          show okN 0 (tot k [(d1, 1)]) = (inS (.str k) kinds && okN 0 (bodyN k 4 d1))
          rw [tot_one, hk]
          rfl
        have npt : pl ≠ t := fun e => by rw [e, upd_same] at npl; cases npl
        have nplH : H pl = none := by rw [upd_ne npt] at npl; exact npl
        have sH0 : Same H (upd (upd H t (.tup [x1, .int 1])) pl (.lst [.ref t])) := same_upd (same_new nt _) nplH _
        dsimp only [gName]
        refine seq_while ?_
        refine while_m (fun m σ H' => ∃ (many : Nat) (stk : List (PyData × Nat)) (ys : List V) (s4 s5 s6 : Option V), σ = [some (.ref a0), some (.str k), some (.int (many : Nat)), some (.ref pl), s4, s5, s6, none] ∧
            Same H H' ∧ H' pl = some (.lst ys) ∧ Items K H H' ys stk ∧ good k many stk = isProg (.tuple [.str k, d1]) ∧ many ≤ 24 ∧ stk.length ≤ 1 + 2 * many ∧ m = tsz stk)
          (m0 := tsz [(d1, 1)]) ⟨0, [(d1, 1)], [.ref t], none, none, none, rfl, sH0, upd_same, .cons ⟨t, x1, rfl, by rw [upd_ne npt.symm, upd_same]; rfl, hx1, lm _ (by simp), (by show 1 ≤ 5; decide)⟩ .nil, eP, by decide, Nat.le_refl 1, rfl⟩ ?_ ?_
        · rintro m σ H' ⟨many, stk, ys, s4, s5, s6, rfl, sH, hp, it, hg, hm, hlen, rfl⟩
          refine ⟨_, rfl, !ys.isEmpty, .inl ⟨ys, SqL.of hp, rfl⟩, ?_⟩
          rcases List.eq_nil_or_concat ys with e0 | ⟨ys', y, e0⟩
          · subst e0
            refine iteF ?_
            cases it
            have e : isProg (.tuple [.str k, d1]) = true := by
              rw [← hg]
              exact decide_eq_true hm
            rw [e] at q
            exact q H' sH
          rw [List.concat_eq_append] at e0
          subst e0
          obtain ⟨st, p, e0, it', ⟨t', v, e1, ht', hdv, hlay, h5⟩⟩ := Items.snoc ys' it
          subst e0 e1
          obtain ⟨b, dep⟩ := p
          refine ite2 (fun _ => ?_) (fun c => absurd (by simp) c)
          have ntp : t' ≠ pl := ne_of ht' hp (by intro z; cases z)
          refine ⟨_, rfl, .inl ⟨rfl, _, SqL.of hp⟩, pl, _, V.ref t', rfl, rfl, hp, (by simp), ?_⟩
          rw [show (ys' ++ [V.ref t']).dropLast = ys' by simp]
          refine ⟨t', _, rfl, SqT.of (by rw [upd_ne ntp]; exact ht'), rfl, _, _, rfl, _, _, rfl, rfl, ?_⟩
          have sH1 : Same H (upd H' pl (.lst ys')) := same_upd sH nplH _
          have kp1 : ∀ b o, b ≠ pl → H' b = some o → (upd H' pl (.lst ys')) b = some o := fun b o n e => by rw [upd_ne n]; exact e
          have it1 := it'.keep kp1 hp
          have hp1 : (upd H' pl (.lst ys')) pl = some (.lst ys') := upd_same
          have hdv1 : Dp K (upd H' pl (.lst ys')) v b := dp_mono sH1 _ _ hdv
          generalize upd H' pl (.lst ys') = H1 at sH1 it1 hp1 hdv1 ⊢
          refine ⟨_, rfl, v, .ty "tuple", _, _, _, rfl, .ty _, dp_ty hdv1, kit_isT b (by simp) (dp_nd hdv), _, rfl, ?_⟩
          cases hb : isT b "tuple" with
          | false =>
            refine iteT ?_
            rw [good_no hb] at hg
            rw [← hg] at q
            exact q H1 sH1
          | true =>
            refine iteF ?_
            obtain ⟨ss, rfl⟩ := isT_tup hb
            obtain ⟨ab, xs, rfl, hab, hss⟩ := dp_tup_inv hdv
            have hab1 : SqT K H1 ab xs := Same.tup sH1 hab
            have hl := dpAll_len hss
            refine ⟨_, rfl, _, rfl, ab, xs, rfl, .inr hab1, _, _, rfl, rfl, ?_⟩
            have lss : PyData.canLayAll0 ss = true := lay_tup hlay
            have hst : st.length ≤ 100 := by rw [List.length_append] at hlen; simp at hlen; omega
            have hover : (24 < many + ss.length ∨ (0 < ss.length ∧ 4 < dep)) → ∀ H', Same H H' → Q (.bl false) H' := fun c H2 s2 => by
              have e := good_over (kind := k) (st := st) c
              have e2 : isProg (.tuple [.str k, d1]) = false := hg.symm.trans e
              rw [e2] at q
              exact q H2 s2
            have hF : ∀ s, s ∈ ss → isOut s k = false → ∀ H', Same H H' → Q (.bl false) H' := fun s ms ho H2 s2 => by
              have e2 : isProg (.tuple [.str k, d1]) = false := hg.symm.trans (good_bad ho ms)
              rw [e2] at q
              exact q H2 s2
            have hN : many + ss.length ≤ 24 → (0 < ss.length → dep ≤ 4) → ∀ (H2 : Hp) (ys2 : List V) (s6 : Option V), (∀ s ∈ ss, isOut s k = true) → Same H H2 → H2 pl = some (.lst ys2) → Items K H H2 ys2 (st ++ pushes dep ss) →
                ∃ m', m' < tsz (st ++ [(.tuple ss, dep)]) ∧ ∃ (many' : Nat) (stk : List (PyData × Nat)) (ys : List V) (s4 s5 s6' : Option V), ([some (.ref a0), some (.str k), some (.int ((many + xs.length : Nat) : Int)), some (.ref pl), some (.ref ab), some (.int (dep : Nat)), s6, none] : L2.St) = [some (.ref a0), some (.str k), some (.int (many' : Nat)), some (.ref pl), s4, s5, s6', none] ∧
                Same H H2 ∧ H2 pl = some (.lst ys) ∧ Items K H H2 ys stk ∧ good k many' stk = isProg (.tuple [.str k, d1]) ∧ many' ≤ 24 ∧ stk.length ≤ 1 + 2 * many' ∧ m' = tsz stk := by
              intro h24 h4 H2 ys2 s6 hall s2 hp2 it2
              refine ⟨tsz (st ++ pushes dep ss), ?_, many + xs.length, st ++ pushes dep ss, ys2, _, _, _, rfl, s2, hp2, it2, ?_, by omega, ?_, rfl⟩
              · rw [tsz_append, tsz_append]
                have e1 := pushes_sz dep ss
                have e2 : tsz [(PyData.tuple ss, dep)] = 1 + szAll ss := by simp [tsz, sz]
                omega
              · rw [hl, good_step h5 h4 hall]
                exact hg
              · have e1 := pushes_len (kind := k) dep hall
                rw [List.length_append] at hlen ⊢
                simp only [List.length_cons, List.length_nil] at hlen
                omega
            refine ⟨_, rfl, _, _, rfl, rfl, _, rfl, ?_⟩
            by_cases c24 : (24 : Int) < (many : Nat) + (xs.length : Nat)
            · rw [decide_eq_true c24]
              exact iteT (iteT (hover (.inl (by omega)) H1 sH1))
            rw [decide_eq_false c24]
            refine iteF ⟨_, rfl, ab, xs, rfl, .inr hab1, _, _, rfl, rfl, _, rfl, ?_⟩
            by_cases c0 : (0 : Int) < (xs.length : Nat)
            · rw [decide_eq_true c0]
              refine iteT ⟨_, rfl, _, _, rfl, rfl, _, rfl, ?_⟩
              by_cases c4 : (4 : Int) < (dep : Nat)
              · rw [decide_eq_true (show (4 : Int) < (((PyData.tuple ss, dep).snd : Nat) : Int) from c4)]
                exact iteT (hover (.inr ⟨by omega, by omega⟩) H1 sH1)
              · rw [decide_eq_false (show ¬ (4 : Int) < (((PyData.tuple ss, dep).snd : Nat) : Int) from c4)]
                refine iteF ?_
                exact loop_ok (n := many + xs.length) (dep := dep) (s6 := s6) sH1 nplH hp1 it1 hab hss lss h5 (fun _ => by omega) (by omega) hst hF (hN (by omega) (fun _ => by omega))
            · rw [decide_eq_false c0]
              refine iteF (iteF ?_)
              exact loop_ok (n := many + xs.length) (dep := dep) (s6 := s6) sH1 nplH hp1 it1 hab hss lss h5 (fun h => by omega) (by omega) hst hF (hN (by omega) (fun h => by omega))
        · rintro σ H' Q1 Q2 h ⟨v, e, k, t, q⟩
          exact ⟨v, e, k, t, h _ _ q⟩
    · refine ite2 (fun _ => iteT ?_) (fun c => absurd ?_ c)
      · rw [prog_no (fun k b e => h2 (by injection e with e; rw [e]; rfl))] at q
        exact q H (Same.refl H)
      · rw [Bool.not_eq_true', decide_eq_false_iff_not]
        intro z
        have z' : ((xs.length : Nat) : Int) = 2 := by injection z
        omega
end
/-! ### the bag: a list of two numbers, drawn from -/
def Bag (H : Hp) (b : Addr) : Prop := ∃ c s : Int, H b = some (.lst [.int c, .int s]) ∧ 0 ≤ c ∧ 0 ≤ s ∧ s < 2147483648
/-- all but b stays -/
def Fr (b : Addr) (H H' : Hp) : Prop := ∀ a o, a ≠ b → H a = some o → H' a = some o
def hide (b : Addr) (H : Hp) : Hp := fun a => if a = b then none else H a
theorem Fr.refl (b : Addr) (H : Hp) : Fr b H H := fun _ _ _ h => h
theorem Fr.trans {b : Addr} {H H1 H2 : Hp} (x : Fr b H H1) (y : Fr b H1 H2) : Fr b H H2 := fun a o n h => y a o n (x a o n h)
theorem Fr.of {b : Addr} {H H' : Hp} (x : Same H H') : Fr b H H' := fun a o _ h => x a o h
theorem Fr.upd {b : Addr} {H : Hp} (o : HO) : Fr b H (upd H b o) := fun a u n h => by rw [upd_ne n]; exact h
theorem hide_same (b : Addr) (H : Hp) : Same (hide b H) H := fun a o h => by
  unfold hide at h
  split at h
  · cases h
  · exact h
theorem hide_mono {b : Addr} {H H' : Hp} (x : Fr b H H') : Same (hide b H) (hide b H') := fun a o h => by
  unfold hide at h ⊢
  split at h
  · cases h
  · rename_i n
    rw [if_neg n]
    exact x a o n h
theorem hide_get {b a : Addr} {H : Hp} {o : HO} (n : a ≠ b) (h : H a = some o) : hide b H a = some o := by
  unfold hide
  rw [if_neg n]
  exact h
theorem Bag.ne {H : Hp} {b p : Addr} (h : Bag H b) (n : H p = none) : b ≠ p := by
  obtain ⟨c, s, e, _⟩ := h
  exact ne_of_none e n
theorem Bag.keep {H H' : Hp} {b : Addr} (h : Bag H b) (s : Same H H') : Bag H' b := by
  obtain ⟨c, t, e, r⟩ := h
  exact ⟨c, t, s _ _ e, r⟩
/-- a datum, apart from the bag -/
abbrev Da (K : PySem.W.Frag) (b : Addr) (H : Hp) (v : V) (d : PyData) : Prop := Dp K (hide b H) v d
theorem Da.fr {K : PySem.W.Frag} {b : Addr} {H H' : Hp} {v : V} {d : PyData} (h : Da K b H v d) (x : Fr b H H') : Da K b H' v d := dp_mono (hide_mono x) _ _ h
theorem Da.dp {K : PySem.W.Frag} {b : Addr} {H : Hp} {v : V} {d : PyData} (h : Da K b H v d) : Dp K H v d := dp_mono (hide_same b H) _ _ h
theorem da_tup {K : PySem.W.Frag} {b p : Addr} {H : Hp} {xs : List V} {ds : List PyData} (n : p ≠ b) (h : H p = some (.tup xs)) (a : DpAll K (hide b H) xs ds) : Da K b H (.ref p) (.tuple ds) := .tup (SqT.of (hide_get n h)) a
def spBag (K : PySem.W.Frag) : Sp := fun vs H Q _ => ∃ (a : Addr) (ns : List Int) (k : Nat), vs = [.ref a, .int (k : Nat)] ∧ SqL K H a (ns.map V.int) ∧ ns.length ≤ 63 ∧ k < 64 ∧ ∀ H' p, Same H H' → H p = none → Bag H' p → Q (.ref p) H'
def spDraw : Sp := fun vs H Q _ => ∃ (b : Addr) (m : Int), vs = [.ref b, .int m] ∧ Bag H b ∧ 0 < m ∧ m < 1073741824 ∧ ∀ H' r, Fr b H H' → Bag H' b → 0 ≤ r → r < m → Q (.int r) H'
def spLarge : Sp := fun vs H Q _ => ∃ (b : Addr) (m : Int), vs = [.ref b, .int m] ∧ Bag H b ∧ 0 < m ∧ ∀ H' r, Fr b H H' → Bag H' b → 0 ≤ r → r < m → Q (.int r) H'
section
variable {P : Program} {w : World} {K : PySem.W.Frag} {mg : Str → Option Value} {base : Heap}
end
theorem seq_setC {v : V} {i : Nat} {u : TS} {D : Ends} {σ : L2.St} {H : Hp} (h : u D (σ.set i (some v)) H) : tSeq (tAsg (tC v) (gName i)) u D σ H := h
theorem at2 {x y : V} {r : Int} (h0 : 0 ≤ r) (h1 : r < 2) : ∃ v, atI [x, y] r = some v ∧ (v = x ∨ v = y) := by
  have : r = 0 ∨ r = 1 := by omega
  rcases this with rfl | rfl
  · exact ⟨x, rfl, .inl rfl⟩
  · exact ⟨y, rfl, .inr rfl⟩
theorem at3 {x y z : V} {r : Int} (h0 : 0 ≤ r) (h1 : r < 3) : ∃ v, atI [x, y, z] r = some v ∧ (v = x ∨ v = y ∨ v = z) := by
  have : r = 0 ∨ r = 1 ∨ r = 2 := by omega
  rcases this with rfl | rfl | rfl
  · exact ⟨x, rfl, .inl rfl⟩
  · exact ⟨y, rfl, .inr (.inl rfl)⟩
  · exact ⟨z, rfl, .inr (.inr rfl)⟩
theorem ab_at {r : Int} (h0 : 0 ≤ r) (h1 : r < 2) : ∃ c, atI ("ab" : Str).cps.toList r = some c ∧ inS (.str ⟨#[c]⟩) vars = true ∧ PyData.strOk ⟨#[c]⟩ = true := by
  have : r = 0 ∨ r = 1 := by omega
  rcases this with rfl | rfl
  · exact ⟨97, by decide +kernel, by decide +kernel, by decide +kernel⟩
  · exact ⟨98, by decide +kernel, by decide +kernel, by decide +kernel⟩
theorem asks_at {r : Int} (h0 : 0 ≤ r) (h1 : r < 3) : ∃ c, atI ("+-=" : Str).cps.toList r = some c ∧ inS (.str ⟨#[c]⟩) asks = true ∧ PyData.strOk ⟨#[c]⟩ = true := by
  have : r = 0 ∨ r = 1 ∨ r = 2 := by omega
  rcases this with rfl | rfl | rfl
  · exact ⟨43, by decide +kernel, by decide +kernel, by decide +kernel⟩
  · exact ⟨45, by decide +kernel, by decide +kernel, by decide +kernel⟩
  · exact ⟨61, by decide +kernel, by decide +kernel, by decide +kernel⟩
def spSteps : Sp := fun vs H Q _ => ∃ (b : Addr), vs = [.ref b] ∧ Bag H b ∧ ∀ H' r, Fr b H H' → Bag H' b → 1 ≤ r → r ≤ longest → Q (.int r) H'
def spTermL (K : PySem.W.Frag) : Sp := fun vs H Q _ => ∃ (b : Addr), vs = [.ref b] ∧ Bag H b ∧ ∀ H' v d, Fr b H H' → Bag H' b → (∀ H0, Dp K H0 v d) → isTerm d = true → Lay d → Q v H'
def spCondL (K : PySem.W.Frag) : Sp := fun vs H Q _ => ∃ (b : Addr), vs = [.ref b] ∧ Bag H b ∧ ∀ H' v d, Fr b H H' → Bag H' b → Da K b H' v d → isCond d = true → Lay d → Q v H'
def spKind : Sp := fun vs H Q _ => ∃ (b : Addr), vs = [.ref b] ∧ Bag H b ∧ ∀ H' (k : Str), Fr b H H' → Bag H' b → (k = "teller" ∨ k = "collector") → Q (.str k) H'
section
variable {P : Program} {w : World} {K : PySem.W.Frag} {mg : Str → Option Value} {base : Heap}
theorem pow30 : (10 : Int) ^ (30 : Int).toNat = longest := by decide +kernel
end
structure G2 (mg : Str → Option Value) : Prop where
  abs : mg "abs" = none
  max : mg "max" = none
  min : mg "min" = none
  range : mg "range" = none
theorem one_or (b : Bool) : -(2 ^ 64) < (if b = true then (1 : Int) else 0) ∧ (if b = true then (1 : Int) else 0) < 2 ^ 64 := by cases b <;> decide
theorem part_variable (d : PyData) : isPart d "variable" = inS d vars := by unfold isPart; rw [if_pos rfl]
theorem part_term (d : PyData) : isPart d "term" = isTerm d := by unfold isPart; rw [if_neg (by decide +kernel), if_pos rfl]
theorem part_sign (d : PyData) : isPart d "sign" = inS d asks := by unfold isPart; rw [if_neg (by decide +kernel), if_neg (by decide +kernel), if_pos rfl]
theorem part_steps (d : PyData) : isPart d "steps" = intIn d 1 longest := by unfold isPart; rw [if_neg (by decide +kernel), if_neg (by decide +kernel), if_neg (by decide +kernel), if_pos rfl]
theorem part_answer (d : PyData) : isPart d "answer" = intIn d 0 1 := by unfold isPart; rw [if_neg (by decide +kernel), if_neg (by decide +kernel), if_neg (by decide +kernel), if_neg (by decide +kernel), if_pos rfl]
theorem part_value (d : PyData) : isPart d "value" = intIn d 0 15 := by unfold isPart; rw [if_neg (by decide +kernel), if_neg (by decide +kernel), if_neg (by decide +kernel), if_neg (by decide +kernel), if_neg (by decide +kernel)]
theorem roles_set (k : Str) : rolesZ "set" k = some (["variable", "value"] : List Str) := by unfold rolesZ; rw [if_pos rfl]
theorem roles_add (k : Str) : rolesZ "add" k = some (["variable", "term"] : List Str) := by unfold rolesZ; rw [if_neg (by decide +kernel), if_pos rfl]
theorem roles_wait (k : Str) : rolesZ "wait" k = some (["steps"] : List Str) := by unfold rolesZ; rw [if_neg (by decide +kernel), if_neg (by decide +kernel), if_pos rfl]
theorem roles_ask : rolesZ "ask" "teller" = some (["sign", "term", "variable"] : List Str) := by decide +kernel
theorem roles_answer : rolesZ "answer" "teller" = some (["answer"] : List Str) := by decide +kernel
theorem roles_grow : rolesZ "grow" "collector" = some (["term"] : List Str) := by decide +kernel
theorem roles_list : rolesZ "list" "collector" = some (["term"] : List Str) := by decide +kernel
theorem plain1 {z k r : Str} {p : PyData} (h : rolesZ z k = some [r]) (e : isPart p r = true) : isPlain (.tuple [.str z, p]) k = true := by
  rw [plain_some h]; simp [allParts, e]
theorem plain2 {z k r1 r2 : Str} {p1 p2 : PyData} (h : rolesZ z k = some [r1, r2]) (e1 : isPart p1 r1 = true) (e2 : isPart p2 r2 = true) : isPlain (.tuple [.str z, p1, p2]) k = true := by
  rw [plain_some h]; simp [allParts, e1, e2]
theorem plain3 {z k r1 r2 r3 : Str} {p1 p2 p3 : PyData} (h : rolesZ z k = some [r1, r2, r3]) (e1 : isPart p1 r1 = true) (e2 : isPart p2 r2 = true) (e3 : isPart p3 r3 = true) : isPlain (.tuple [.str z, p1, p2, p3]) k = true := by
  rw [plain_some h]; simp [allParts, e1, e2, e3]
theorem lay_str {z : Str} (h : PyData.strOk z = true) : Lay (.str z) := by unfold Lay; simp only [PyData.canLay0]; exact h
theorem lay_int (i : Int) : Lay (.int i) := by unfold Lay; simp only [PyData.canLay0]
theorem lay_nil : Lay (.tuple []) := by unfold Lay; simp only [PyData.canLay0, PyData.canLayAll0]
theorem lay_all : ∀ {ds : List PyData}, (∀ d ∈ ds, Lay d) → PyData.canLayAll0 ds = true
  | [], _ => by simp only [PyData.canLayAll0]
  | d :: r, h => by
    simp only [PyData.canLayAll0, Bool.and_eq_true]
    exact ⟨h d (by simp), lay_all fun x m => h x (List.mem_cons_of_mem _ m)⟩
theorem lay_tuple {ds : List PyData} (h : ∀ d ∈ ds, Lay d) : Lay (.tuple ds) := by unfold Lay; simp only [PyData.canLay0]; exact lay_all h
theorem lay2 {a b : PyData} (ha : Lay a) (hb : Lay b) : Lay (.tuple [a, b]) := lay_tuple (by intro d m; simp at m; rcases m with rfl | rfl <;> assumption)
theorem lay3 {a b c : PyData} (ha : Lay a) (hb : Lay b) (hc : Lay c) : Lay (.tuple [a, b, c]) := lay_tuple (by intro d m; simp at m; rcases m with rfl | rfl | rfl <;> assumption)
theorem lay4 {a b c e : PyData} (ha : Lay a) (hb : Lay b) (hc : Lay c) (he : Lay e) : Lay (.tuple [a, b, c, e]) := lay_tuple (by intro d m; simp at m; rcases m with rfl | rfl | rfl | rfl <;> assumption)
def spSimple (K : PySem.W.Frag) : Sp := fun vs H Q _ => ∃ (b : Addr) (k : Str), vs = [.ref b, .str k] ∧ Bag H b ∧ (k = "teller" ∨ k = "collector") ∧ ∀ H' v d, Fr b H H' → Bag H' b → Da K b H' v d → isPlain d k = true → Lay d → Q v H'
section
variable {P : Program} {w : World} {K : PySem.W.Frag} {mg : Str → Option Value} {base : Heap}
end
theorem lay1 {a : PyData} (ha : Lay a) : Lay (.tuple [a]) := lay_tuple (by intro d m; simp at m; rcases m with rfl; assumption)
theorem body_nil (k : Str) (r : Nat) : bodyN k r (.tuple []) = some 0 := by cases r <;> rfl
theorem bods_if {ps : List PyData} : bodsOf (.tuple (.str "if" :: ps)) = ps.drop 1 := by
  show (if ("if" : Str) = "if" ∨ ("if" : Str) = "while" then ps.drop 1 else []) = _
  rw [if_pos (.inl rfl)]
theorem bods_while {ps : List PyData} : bodsOf (.tuple (.str "while" :: ps)) = ps.drop 1 := by
  show (if ("while" : Str) = "if" ∨ ("while" : Str) = "while" then ps.drop 1 else []) = _
  rw [if_pos (.inr rfl)]
theorem body_one (k : Str) (r : Nat) (s : PyData) : bodyN k (r + 1) (.tuple [s]) = stN k r s := by
  rw [bodyN_tup]
  simp only [List.map_cons, List.map_nil, sumO, addO_zero]
theorem bods_else {z : Str} {ps : List PyData} (h1 : ¬ z = "if") (h2 : ¬ z = "while") : bodsOf (.tuple (.str z :: ps)) = [] := by
  show (if z = "if" ∨ z = "while" then ps.drop 1 else []) = _
  rw [if_neg (by rintro (e | e); exact h1 e; exact h2 e)]
theorem roles_if (k : Str) : rolesZ "if" k = none := by
  unfold rolesZ
  rw [if_neg (by decide +kernel), if_neg (by decide +kernel), if_neg (by decide +kernel)]
  split
  · rw [if_neg (by decide +kernel), if_neg (by decide +kernel)]
  · rw [if_neg (by decide +kernel), if_neg (by decide +kernel)]
theorem roles_while (k : Str) : rolesZ "while" k = none := by
  unfold rolesZ
  rw [if_neg (by decide +kernel), if_neg (by decide +kernel), if_neg (by decide +kernel)]
  split
  · rw [if_neg (by decide +kernel), if_neg (by decide +kernel)]
  · rw [if_neg (by decide +kernel), if_neg (by decide +kernel)]
theorem plain_inv {d : PyData} {k : Str} (h : isPlain d k = true) : ∃ z ps rs, d = .tuple (.str z :: ps) ∧ rolesZ z k = some rs ∧ ps.length = rs.length ∧ allParts ps rs = true := by
  cases hw : wordOf d with
  | none =>
    have e : rolesOf (wordOf d) k = none := by rw [hw]; rfl
    rw [plain_none e] at h
    cases h
  | some z =>
    obtain ⟨ps, rfl⟩ := word_inv hw
    cases hz : rolesZ z k with
    | none =>
      have e : rolesOf (wordOf (.tuple (.str z :: ps))) k = none := hz
      rw [plain_none e] at h
      cases h
    | some rs =>
      rw [plain_some hz, Bool.and_eq_true] at h
      exact ⟨z, ps, rs, rfl, hz, of_decide_eq_true h.1, h.2⟩
theorem plain_st {d : PyData} {k : Str} (h : isPlain d k = true) : isOut d k = true ∧ bodsOf d = [] := by
  obtain ⟨z, ps, rs, rfl, hz, _⟩ := plain_inv h
  have n1 : ¬ z = "if" := fun e => by rw [e, roles_if] at hz; cases hz
  have n2 : ¬ z = "while" := fun e => by rw [e, roles_while] at hz; cases hz
  exact ⟨(out_else n1 n2).trans h, bods_else n1 n2⟩
theorem stN_plain {d : PyData} {k : Str} {r : Nat} (h : isPlain d k = true) : stN k r d = some 1 := by
  obtain ⟨h1, h2⟩ := plain_st h
  unfold stN
  rw [if_pos h1, h2]
  rfl
theorem sum_plain {k : Str} {r : Nat} : ∀ {ds : List PyData}, (∀ d ∈ ds, isPlain d k = true) → sumO (ds.map (stN k r)) = some ds.length
  | [], _ => rfl
  | d :: t, h => by
    simp only [List.map_cons, sumO]
    rw [stN_plain (h d (by simp)), sum_plain fun x m => h x (List.mem_cons_of_mem _ m)]
    simp only [addO, List.length_cons]
    congr 1
    omega
theorem kinds_in {k : Str} (h : k = "teller" ∨ k = "collector") : inS (.str k) kinds = true := by
  rcases h with rfl | rfl <;> decide +kernel
theorem strOk_kind {k : Str} (h : k = "teller" ∨ k = "collector") : PyData.strOk k = true := by
  rcases h with rfl | rfl <;> decide +kernel
/-! ### data without lists -/
mutual
def noL : PyData → Bool
  | .list _ => false
  | .tuple xs => noLAll xs
  | .none | .bool _ | .int _ | .str _ | .dict _ => true
def noLAll : List PyData → Bool
  | [] => true
  | x :: xs => noL x && noLAll xs
end
mutual
theorem dp_keepL {K : PySem.W.Frag} {H H' : Hp} {D : Addr} {ys : List V} (e : ∀ a o, a ≠ D → H a = some o → H' a = some o) (hD : H D = some (.lst ys)) : ∀ (d : PyData) (v : V), noL d = true → Dp K H v d → Dp K H' v d
  | .none, _, _, h => by cases h; exact .non
  | .bool b, _, _, h => by cases h; exact .bl b
  | .int i, _, _, h => by cases h; exact .int i
  | .str x, _, _, h => by cases h; exact .str x
  | .list ds, _, n, h => by simp [noL] at n
  | .tuple ds, _, n, h => by
    cases h with
    | tup hs ha =>
      refine .tup ?_ (dpAll_keepL e hD ds _ (by simpa [noL] using n) ha)
      rcases hs with (h | ⟨o, h⟩) | h
      · exact .inl (.inl (e _ _ (ne_of h hD (by intro z; cases z)) h))
      · exact .inl (.inr ⟨o, e _ _ (ne_of h hD (by intro z; cases z)) h⟩)
      · exact .inr h
  | .dict _, _, _, h => by cases h
theorem dpAll_keepL {K : PySem.W.Frag} {H H' : Hp} {D : Addr} {ys : List V} (e : ∀ a o, a ≠ D → H a = some o → H' a = some o) (hD : H D = some (.lst ys)) : ∀ (ds : List PyData) (vs : List V), noLAll ds = true → DpAll K H vs ds → DpAll K H' vs ds
  | [], _, _, h => by cases h; exact .nil
  | d :: ds, _, n, h => by
    simp only [noLAll, Bool.and_eq_true] at n
    cases h with
    | cons hd ht => exact .cons (dp_keepL e hD d _ n.1 hd) (dpAll_keepL e hD ds _ n.2 ht)
end
theorem part_noL {p : PyData} {r : Str} (h : isPart p r = true) : noL p = true := by
  cases p with
  | list xs => unfold isPart at h; repeat' split at h
               all_goals simp [inS, isTerm, intIn] at h
  | tuple xs => unfold isPart at h; repeat' split at h
                all_goals simp [inS, isTerm, intIn] at h
  | _ => rfl
theorem parts_noL : ∀ {ps : List PyData} {rs : List Str}, ps.length = rs.length → allParts ps rs = true → noLAll ps = true
  | [], _, _, _ => rfl
  | p :: ps, [], l, _ => by simp at l
  | p :: ps, r :: rs, l, h => by
    have h' : isPart p r = true ∧ allParts ps rs = true := by
      simpa [allParts] using h
    simp only [noLAll, Bool.and_eq_true]
    exact ⟨part_noL h'.1, parts_noL (by simpa using l) h'.2⟩
theorem plain_noL {d : PyData} {k : Str} (h : isPlain d k = true) : noL d = true := by
  obtain ⟨z, ps, rs, rfl, hz, hl, hp⟩ := plain_inv h
  simp only [noL, noLAll, Bool.true_and]
  exact parts_noL hl hp
theorem all_noL {k : Str} : ∀ {ds : List PyData}, (∀ d ∈ ds, isPlain d k = true ∧ Lay d) → noLAll ds = true
  | [], _ => rfl
  | d :: t, h => by
    simp only [noLAll, Bool.and_eq_true]
    exact ⟨plain_noL (h d (by simp)).1, all_noL fun x m => h x (List.mem_cons_of_mem _ m)⟩
theorem dpAll_append {K : PySem.W.Frag} {H : Hp} : ∀ {xs ys : List V} {ds es : List PyData}, DpAll K H xs ds → DpAll K H ys es → DpAll K H (xs ++ ys) (ds ++ es)
  | _, _, _, _, .nil, h => h
  | _, _, _, _, .cons a t, h => .cons a (dpAll_append t h)
theorem dpAll_take {K : PySem.W.Frag} {H : Hp} : ∀ (n : Nat) {xs : List V} {ds : List PyData}, DpAll K H xs ds → DpAll K H (xs.take n) (ds.take n)
  | 0, _, _, _ => .nil
  | n + 1, _, _, .nil => .nil
  | n + 1, _, _, .cons a t => .cons a (dpAll_take n t)
theorem cut_lo (xs : List V) (n : Nat) : cutV xs none (some (n : Int)) = xs.take n := by
  unfold cutV
  rw [HT.sIx_nat, HT.sIx_none, List.drop_zero, Nat.sub_zero, List.take_eq_take_iff]
  omega
theorem cut_hi (xs : List V) (n : Nat) : cutV xs (some (n : Int)) none = xs.drop n := by
  unfold cutV
  rw [HT.sIx_nat, HT.sIx_none]
  by_cases h : n ≤ xs.length
  · rw [Nat.min_eq_left h, List.take_of_length_le (by rw [List.length_drop]; omega)]
  · rw [Nat.min_eq_right (by omega), List.drop_of_length_le (Nat.le_refl _), List.drop_of_length_le (by omega)]
    simp
theorem and_one {c e : Bool} {tb : TE} {σ : L2.St} {H : Hp} {Q : VK} (h : ∀ Q' : VK, Q' (.bl e) H → tb σ H Q') (q : Q (.bl (c && e)) H) : if c = true then tb σ H Q else Q (.bl false) H := by
  cases c with
  | true => exact iteT (h _ q)
  | false => exact iteF q
theorem Bag.upd {H : Hp} {b D : Addr} {o : HO} (h : Bag H b) (n : D ≠ b) : Bag (upd H D o) b := by
  obtain ⟨c, s, e, r⟩ := h
  exact ⟨c, s, by rw [upd_ne n.symm]; exact e, r⟩
theorem hide_upd {b D : Addr} {H : Hp} {o : HO} : ∀ a u, a ≠ D → hide b H a = some u → hide b (L2.upd H D o) a = some u := fun a u n h => by
  unfold hide at h ⊢
  split at h
  · cases h
  · rename_i nb
    rw [if_neg nb, upd_ne n]
    exact h
theorem fr_upd {b D : Addr} {H H' : Hp} (f : Fr b H H') (n : H D = none) (o : HO) : Fr b H (upd H' D o) := fun x u nx h => by
  rw [upd_ne (ne_of_none h n)]
  exact f _ _ nx h
def Fr2 (b m : Addr) (H H' : Hp) : Prop := ∀ a o, a ≠ b → a ≠ m → H a = some o → H' a = some o
theorem Fr2.refl (b m : Addr) (H : Hp) : Fr2 b m H H := fun _ _ _ _ h => h
theorem Fr2.trans {b m : Addr} {H H1 H2 : Hp} (x : Fr2 b m H H1) (y : Fr2 b m H1 H2) : Fr2 b m H H2 := fun a o n1 n2 h => y a o n1 n2 (x a o n1 n2 h)
theorem Fr.two {b m : Addr} {H H' : Hp} (x : Fr b H H') : Fr2 b m H H' := fun a o n _ h => x a o n h
theorem Same.two {b m : Addr} {H H' : Hp} (x : Same H H') : Fr2 b m H H' := fun a o _ _ h => x a o h
theorem Fr2.updm {b m : Addr} {H : Hp} (o : HO) : Fr2 b m H (upd H m o) := fun a u _ n h => by rw [upd_ne n]; exact h
def Rm (H : Hp) (m : Addr) (r : Nat) : Prop := H m = some (.lst [.int (r : Nat)])
theorem da_fr2 {K : PySem.W.Frag} {b m : Addr} {H H' : Hp} {v : V} {d : PyData} {ys : List V} (n : noL d = true) (h : Da K b H v d) (f : Fr2 b m H H') (hm : H m = some (.lst ys)) (nm : m ≠ b) : Da K b H' v d := by
  refine dp_keepL (D := m) (ys := ys) (fun a o na ha => ?_) (hide_get nm hm) d v n h
  unfold hide at ha ⊢
  split at ha
  · cases ha
  · rename_i nb
    rw [if_neg nb]
    exact f a o nb na ha
theorem daAll_fr2 {K : PySem.W.Frag} {b m : Addr} {H H' : Hp} {vs : List V} {ds : List PyData} {ys : List V} (n : noLAll ds = true) (h : DpAll K (hide b H) vs ds) (f : Fr2 b m H H') (hm : H m = some (.lst ys)) (nm : m ≠ b) : DpAll K (hide b H') vs ds := by
  refine dpAll_keepL (D := m) (ys := ys) (fun a o na ha => ?_) (hide_get nm hm) ds vs n h
  unfold hide at ha ⊢
  split at ha
  · cases ha
  · rename_i nb
    rw [if_neg nb]
    exact f a o nb na ha
theorem term_noL {d : PyData} (h : isTerm d = true) : noL d = true := by
  cases d with
  | list xs => simp [isTerm, inS, intIn] at h
  | tuple xs => simp [isTerm, inS, intIn] at h
  | _ => rfl
theorem inS_noL {d : PyData} {zs : List Str} (h : inS d zs = true) : noL d = true := by
  cases d with
  | list xs => simp [inS] at h
  | tuple xs => simp [inS] at h
  | _ => rfl
theorem cond_noL {d : PyData} (h : isCond d = true) : noL d = true := by
  match d, h with
  | .tuple [x, y, z], h =>
    have h' : (inS x vars && inS y signs && isTerm z) = true := h
    rw [Bool.and_eq_true, Bool.and_eq_true] at h'
    simp only [noL, noLAll, inS_noL h'.1.1, inS_noL h'.1.2, term_noL h'.2]
    rfl
def spBody (K : PySem.W.Frag) (n : Nat) : Sp := fun vs H Q _ => ∃ (b m : Addr) (k : Str) (r : Nat) (dep mo : Int), vs = [.ref b, .str k, .ref m, .int dep, .int mo] ∧ dep = 5 - (n : Int) ∧ n ≤ 4 ∧ Bag H b ∧ Rm H m r ∧ m ≠ b ∧ (k = "teller" ∨ k = "collector") ∧ mo < 1000 ∧
  ∀ H' v d r' c, Fr2 b m H H' → Bag H' b → Rm H' m r' → Da K b H' v d → noL d = true → Lay d → bodyN k n d = some c → r' + c = r → Q v H'
def spStmt (K : PySem.W.Frag) (n : Nat) : Sp := fun vs H Q _ => ∃ (b m : Addr) (k : Str) (r : Nat) (dep : Int), vs = [.ref b, .str k, .ref m, .int dep] ∧ dep = 4 - (n : Int) ∧ n ≤ 3 ∧ Bag H b ∧ Rm H m r ∧ m ≠ b ∧ (k = "teller" ∨ k = "collector") ∧
  ∀ H' v d r' c, Fr2 b m H H' → Bag H' b → Rm H' m r' → Da K b H' v d → noL d = true → Lay d → stN k n d = some (1 + c) → r' + c = r → Q v H'
theorem sumO_snoc (xs : List (Option Nat)) (x : Option Nat) : sumO (xs ++ [x]) = addO (sumO xs) x := by
  rw [sumO_append]
  simp only [sumO, addO_zero]
theorem noLAll_snoc : ∀ {ds : List PyData} {d : PyData}, noLAll ds = true → noL d = true → noLAll (ds ++ [d]) = true
  | [], d, _, h => by simp [noLAll, h]
  | x :: r, d, h, h2 => by
    simp only [noLAll, Bool.and_eq_true] at h
    rw [List.cons_append]
    simp only [noLAll, Bool.and_eq_true]
    exact ⟨h.1, noLAll_snoc h.2 h2⟩
section
variable {P : Program} {w : World} {K : PySem.W.Frag} {mg : Str → Option Value} {base : Heap}
theorem none_stmt {f : Addr} {fd : FuncData} (lv : Nat) : FnOk P w K mg base CX0 lv f fd ["_law_bag_here", "_law_kind", "_law_room", "_law_depth"] (fun vs H Q E => 0 ≠ 0 ∧ spStmt K (0 - 1) vs H Q E) :=
  ⟨fun vs H Q E h => absurd rfl h.1, fun A outer s H args us vs Q E _ _ _ _ h => absurd rfl h.1⟩
def spProgL (K : PySem.W.Frag) : Sp := fun vs H Q _ => ∃ (b : Addr) (k : Str), vs = [.ref b, .str k, .int 24] ∧ Bag H b ∧ (k = "teller" ∨ k = "collector") ∧
  ∀ H' t v d, Fr b H H' → Bag H' b → H' t = some (.tup [.str k, v]) → t ≠ b → Da K b H' v d → isProg (.tuple [.str k, d]) = true → Lay d → noL d = true → Q (.ref t) H'
end
section
variable {X : Cx}
def rInSL (K : PySem.W.Frag) (neg : Bool) : R2 := fun x y H Q => ∃ (d : PyData) (zs : List Str) (p : Addr), y = .ref p ∧ Dp K H x d ∧ d.canLay0 = true ∧ H p = some (.lst (zs.map V.str)) ∧ zs.all PyData.strOk = true ∧
  Q (.bl (if neg then !inS d zs else inS d zs)) H
theorem op_inSL (hu : X.A.units + 65 < cLine) : OpR X (compareOp .In) (rInSL X.K false) := by
  intro pins s σ H x y v u Q I rx ry h
  obtain ⟨d, zs, p, rfl, hd, ld, hz, oz, q⟩ := h
  obtain ⟨as, r1⟩ := Dp.reads I d x v hd rx
  obtain ⟨bs, r2⟩ := Dp.reads I (.list (zs.map PyData.str)) (.ref p) u (.lst (SqL.of hz) (dp_strs zs)) ry
  refine SeqAt.in_list_reads r2 r1 (lay_strs zs oz) ld ?_ ⟨.bl _, H, I, rfl, ?_⟩
  · rw [depth_strs]
    have := Nat.min_le_left 0 d.depth
    omega
  · rw [any_strs]; exact q
theorem op_notInSL (hu : X.A.units + 65 < cLine) : OpR X (compareOp .NotIn) (rInSL X.K true) := by
  intro pins s σ H x y v u Q I rx ry h
  obtain ⟨d, zs, p, rfl, hd, ld, hz, oz, q⟩ := h
  obtain ⟨as, r1⟩ := Dp.reads I d x v hd rx
  obtain ⟨bs, r2⟩ := Dp.reads I (.list (zs.map PyData.str)) (.ref p) u (.lst (SqL.of hz) (dp_strs zs)) ry
  refine SeqAt.notIn_list_reads r2 r1 (lay_strs zs oz) ld ?_ ⟨.bl _, H, I, rfl, ?_⟩
  · rw [depth_strs]
    have := Nat.min_le_left 0 d.depth
    omega
  · rw [any_strs]; exact q
end
def isInt (d : PyData) : Bool := match d with | .int _ => true | _ => false
def spL1 (f : PyData → Bool) (K : PySem.W.Frag) : Sp := fun vs H Q _ => ∃ (v : V) (d : PyData), vs = [v] ∧ Dp K H v d ∧ Lay d ∧ ∀ H', Same H H' → Q (.bl (f d)) H'
theorem isT_int {d : PyData} : (isT d "int" && !isT d "bool") = isInt d := by cases d <;> rfl
section
variable {P : Program} {w : World} {K : PySem.W.Frag} {mg : Str → Option Value} {base : Heap}
def isVar (d : PyData) : Bool := inS d vars
theorem dp_three {H : Hp} {xs : List V} {ds : List PyData} (h : DpAll K H xs ds) (l : ds.length = 3) : ∃ x0 x1 x2 d0 d1 d2, xs = [x0, x1, x2] ∧ ds = [d0, d1, d2] ∧ Dp K H x0 d0 ∧ Dp K H x1 d1 ∧ Dp K H x2 d2 := by
  match ds, l, h with
  | [d0, d1, d2], _, .cons (v := x0) h0 (.cons (v := x1) h1 (.cons (v := x2) h2 .nil)) => exact ⟨x0, x1, x2, d0, d1, d2, rfl, rfl, h0, h1, h2⟩
end
theorem strT {z : Str} {A B : Prop} (h : A) : if decide (V.str z = V.str z) = true then A else B := by
  rw [if_pos (decide_eq_true rfl)]; exact h
theorem strF {z y : Str} {A B : Prop} (n : ¬ z = y) (h : B) : if decide (V.str z = V.str y) = true then A else B := by
  rw [if_neg (by intro c; have c' := of_decide_eq_true c; injection c' with c''; exact n c'')]; exact h
def lenOf (z : Str) : Int := if z = "set" then 2 else if z = "add" then 2 else if z = "wait" then 1 else if z = "ask" then 3 else if z = "answer" then 1 else if z = "grow" then 1 else if z = "list" then 1 else -1
def kv7 : List (Key × V) := [(.inr "set", .int 2), (.inr "add", .int 2), (.inr "wait", .int 1), (.inr "ask", .int 3), (.inr "answer", .int 1), (.inr "grow", .int 1), (.inr "list", .int 1)]
theorem merge7 : mergeK [] kv7 = kv7 := by decide +kernel
theorem valV_eq {k : Key} {v : V} {r : List (Key × V)} : valV ((k, v) :: r) k = some v := by
  unfold valV; rw [List.find?_cons_of_pos (by exact decide_eq_true rfl)]; rfl
theorem valV_ne {z x : Str} {v : V} {r : List (Key × V)} (n : ¬ z = x) : valV (((Sum.inr x : Key), v) :: r) (Sum.inr z) = valV r (Sum.inr z) := by
  unfold valV; rw [List.find?_cons_of_neg (by intro c; have c' := of_decide_eq_true c; injection c' with c''; exact n c''.symm)]
theorem get7 (z : Str) : (valV kv7 (.inr z)).getD (.int (-1)) = .int (lenOf z) := by
  unfold kv7 lenOf
  by_cases h1 : z = "set"
  · subst h1; rw [valV_eq, if_pos rfl]; rfl
  rw [valV_ne h1, if_neg h1]
  by_cases h2 : z = "add"
  · subst h2; rw [valV_eq, if_pos rfl]; rfl
  rw [valV_ne h2, if_neg h2]
  by_cases h3 : z = "wait"
  · subst h3; rw [valV_eq, if_pos rfl]; rfl
  rw [valV_ne h3, if_neg h3]
  by_cases h4 : z = "ask"
  · subst h4; rw [valV_eq, if_pos rfl]; rfl
  rw [valV_ne h4, if_neg h4]
  by_cases h5 : z = "answer"
  · subst h5; rw [valV_eq, if_pos rfl]; rfl
  rw [valV_ne h5, if_neg h5]
  by_cases h6 : z = "grow"
  · subst h6; rw [valV_eq, if_pos rfl]; rfl
  rw [valV_ne h6, if_neg h6]
  by_cases h7 : z = "list"
  · subst h7; rw [valV_eq, if_pos rfl]; rfl
  rw [valV_ne h7, if_neg h7]
  rfl
theorem l_set : lenOf "set" = 2 := by decide +kernel
theorem l_add : lenOf "add" = 2 := by decide +kernel
theorem l_wait : lenOf "wait" = 1 := by decide +kernel
theorem l_answer : lenOf "answer" = 1 := by decide +kernel
theorem l_ask : lenOf "ask" = 3 := by decide +kernel
theorem dp_one {K : PySem.W.Frag} {H : Hp} {xs : List V} {ds : List PyData} (h : DpAll K H xs ds) (l : ds.length = 1) : ∃ x0 d0, xs = [x0] ∧ ds = [d0] ∧ Dp K H x0 d0 := by
  match ds, l, h with
  | [d0], _, .cons (v := x0) h0 .nil => exact ⟨x0, d0, rfl, rfl, h0⟩
theorem plain_len {z k : Str} {ps : List PyData} (hk : k = "teller" ∨ k = "collector") (h : isPlain (.tuple (.str z :: ps)) k = true) : (ps.length : Int) = lenOf z := by
  obtain ⟨z', ps', rs, e, hz, hl, _⟩ := plain_inv h
  injection e with e
  injection e with e1 e2
  injection e1 with e1
  subst e1 e2
  rw [hl]
  unfold rolesZ at hz
  unfold lenOf
  rcases hk with rfl | rfl
  all_goals
    repeat' split at hz
    all_goals first | cases hz | skip
    all_goals (subst_vars; first | decide +kernel | (rename_i h1; revert h1; decide +kernel))
def spSimpleL (K : PySem.W.Frag) : Sp := fun vs H Q _ => ∃ (v : V) (k z : Str) (ps : List PyData), vs = [.str k, v] ∧ Dp K H v (.tuple (.str z :: ps)) ∧ Lay (.tuple (.str z :: ps)) ∧ (k = "teller" ∨ k = "collector") ∧ ∀ H', Same H H' → Q (.bl (isPlain (.tuple (.str z :: ps)) k)) H'
theorem plainE1 {z k r : Str} {p : PyData} (h : rolesZ z k = some [r]) : isPlain (.tuple [.str z, p]) k = isPart p r := by rw [plain_some h]; simp [allParts]
theorem plainE2 {z k r1 r2 : Str} {p1 p2 : PyData} (h : rolesZ z k = some [r1, r2]) : isPlain (.tuple [.str z, p1, p2]) k = (isPart p1 r1 && isPart p2 r2) := by rw [plain_some h]; simp [allParts]
theorem plainE3 {z k r1 r2 r3 : Str} {p1 p2 p3 : PyData} (h : rolesZ z k = some [r1, r2, r3]) : isPlain (.tuple [.str z, p1, p2, p3]) k = (isPart p1 r1 && (isPart p2 r2 && isPart p3 r3)) := by rw [plain_some h]; simp [allParts]
theorem plainE0 {z k : Str} {ps : List PyData} (h : rolesZ z k = none) : isPlain (.tuple (.str z :: ps)) k = false := plain_none (d := .tuple (.str z :: ps)) h
/-- an integer within bounds, asked by the law's words -/
theorem within {lo hi : Int} {K : PySem.W.Frag} {H : Hp} {v : V} {d : PyData} (hd : Dp K H v d) : (isInt d = true → ∃ i, v = .int i ∧ d = .int i) ∧ (isInt d = false → intIn d lo hi = false) := by
  cases hd with
  | int i => exact ⟨fun _ => ⟨i, rfl, rfl⟩, fun h => (nomatch h)⟩
  | _ => exact ⟨fun h => (nomatch h), fun _ => rfl⟩
section
variable {P : Program} {w : World} {K : PySem.W.Frag} {mg : Str → Option Value} {base : Heap}
end
def oV : Option Nat → V
  | some n => .int (n : Nat)
  | none => .non
def oneN (k : Str) : Nat → PyData → Option Nat
  | 0, _ => none
  | n + 1, d => stN k n d
theorem body_oneN (k : Str) (n : Nat) (ss : List PyData) : bodyN k n (.tuple ss) = sumO (ss.map (oneN k n)) := by
  cases n with
  | zero =>
    cases ss with
    | nil => rfl
    | cons s t =>
      show none = _
      simp only [List.map_cons, sumO, oneN, none_addO]
  | succ n => exact bodyN_tup k n ss
theorem flat_oV : ∀ os : List (Option Nat), (os.map oV).all flatV = true
  | [] => rfl
  | o :: r => by
    rw [List.map_cons, List.all_cons, flat_oV r, Bool.and_true]
    cases o <;> rfl
theorem inV_oV : ∀ os : List (Option Nat), inV .non (os.map oV) = os.any (·.isNone)
  | [] => rfl
  | o :: r => by
    have ih := inV_oV r
    unfold inV at ih ⊢
    rw [List.map_cons, List.any_cons, List.any_cons, ih]
    cases o <;> rfl
theorem sumO_any : ∀ {os : List (Option Nat)}, os.any (·.isNone) = true → sumO os = none
  | o :: r, h => by
    rw [List.any_cons, Bool.or_eq_true] at h
    simp only [sumO]
    rcases h with h | h
    · cases o with
      | none => exact none_addO _
      | some _ => cases h
    · rw [sumO_any h, addO_none]
theorem sumO_some : ∀ {os : List (Option Nat)}, os.any (·.isNone) = false → ∃ ns : List Nat, os.map oV = (ns.map (fun n : Nat => (n : Int))).map V.int ∧ sumO os = some ns.sum
  | [], _ => ⟨[], rfl, rfl⟩
  | o :: r, h => by
    rw [List.any_cons, Bool.or_eq_false_iff] at h
    obtain ⟨ns, e1, e2⟩ := sumO_some h.2
    cases o with
    | none => cases h.1
    | some n =>
      refine ⟨n :: ns, ?_, ?_⟩
      · rw [List.map_cons, e1]; rfl
      · simp only [sumO, e2, addO, List.sum_cons]
theorem sum_cast (ns : List Nat) : (ns.map (fun n : Nat => (n : Int))).sum = ((ns.sum : Nat) : Int) := by
  induction ns with
  | nil => rfl
  | cons n r ih => rw [List.map_cons, List.sum_cons, ih, List.sum_cons]; omega
mutual
def wd (m : Nat) : PyData → Bool
  | .tuple xs => decide (xs.length ≤ m) && wdAll m xs
  | .list xs => decide (xs.length ≤ m) && wdAll m xs
  | .none | .bool _ | .int _ | .str _ | .dict _ => true
def wdAll (m : Nat) : List PyData → Bool
  | [] => true
  | x :: xs => wd m x && wdAll m xs
end
mutual
theorem wd_mono {m m' : Nat} (h : m ≤ m') : ∀ d : PyData, wd m d = true → wd m' d = true
  | .none, _ => by simp only [wd]
  | .bool _, _ => by simp only [wd]
  | .int _, _ => by simp only [wd]
  | .str _, _ => by simp only [wd]
  | .dict _, _ => by simp only [wd]
  | .tuple xs, e => by
    simp only [wd, Bool.and_eq_true, decide_eq_true_eq] at e ⊢
    exact ⟨by omega, wdAll_mono h xs e.2⟩
  | .list xs, e => by
    simp only [wd, Bool.and_eq_true, decide_eq_true_eq] at e ⊢
    exact ⟨by omega, wdAll_mono h xs e.2⟩
theorem wdAll_mono {m m' : Nat} (h : m ≤ m') : ∀ ds : List PyData, wdAll m ds = true → wdAll m' ds = true
  | [], _ => by simp only [wdAll]
  | x :: xs, e => by
    simp only [wdAll, Bool.and_eq_true] at e ⊢
    exact ⟨wd_mono h x e.1, wdAll_mono h xs e.2⟩
end
theorem wdAll_iff {m : Nat} : ∀ {ds : List PyData}, wdAll m ds = true ↔ ∀ d ∈ ds, wd m d = true
  | [] => by simp [wdAll]
  | x :: xs => by
    simp only [wdAll, Bool.and_eq_true, wdAll_iff (ds := xs)]
    constructor
    · intro h d md
      rcases List.mem_cons.mp md with e | md
      · rw [e]; exact h.1
      · exact h.2 d md
    · intro h
      exact ⟨h x (by simp), fun d md => h d (List.mem_cons_of_mem _ md)⟩
theorem wd_tup {m : Nat} {ds : List PyData} : wd m (.tuple ds) = true ↔ ds.length ≤ m ∧ ∀ d ∈ ds, wd m d = true := by
  simp only [wd, Bool.and_eq_true, decide_eq_true_eq, wdAll_iff]
theorem wd_of_noDeep {m : Nat} {d : PyData} (h : isT d "tuple" = false) (h2 : noL d = true) : wd m d = true := by
  cases d with
  | tuple xs => cases h
  | list xs => simp [noL] at h2
  | _ => simp only [wd]
theorem part_wd {m : Nat} {p : PyData} {r : Str} (h : isPart p r = true) : wd m p = true := by
  cases p with
  | list xs => unfold isPart at h; repeat' split at h
               all_goals simp [inS, isTerm, intIn] at h
  | tuple xs => unfold isPart at h; repeat' split at h
                all_goals simp [inS, isTerm, intIn] at h
  | _ => simp only [wd]
theorem parts_wd {m : Nat} : ∀ {ps : List PyData} {rs : List Str}, ps.length = rs.length → allParts ps rs = true → wdAll m ps = true
  | [], _, _, _ => by simp only [wdAll]
  | p :: ps, [], l, _ => by simp at l
  | p :: ps, r :: rs, l, h => by
    have h' : isPart p r = true ∧ allParts ps rs = true := by
      simpa [allParts] using h
    simp only [wdAll, Bool.and_eq_true]
    exact ⟨part_wd h'.1, parts_wd (by simpa using l) h'.2⟩
theorem plain_wd {d : PyData} {k : Str} (h : isPlain d k = true) : wd 30 d = true := by
  obtain ⟨z, ps, rs, rfl, hz, hl, hp⟩ := plain_inv h
  have h3 := roles_short hz
  simp only [wd, wdAll, Bool.true_and, Bool.and_eq_true, decide_eq_true_eq, List.length_cons]
  exact ⟨by omega, parts_wd hl hp⟩
theorem cond_wd {d : PyData} (h : isCond d = true) : wd 30 d = true := by
  match d, h with
  | .tuple [x, y, z], h =>
    have h' : (inS x vars && inS y signs && isTerm z) = true := h
    rw [Bool.and_eq_true, Bool.and_eq_true] at h'
    have a1 : wd 30 x = true := part_wd (r := "variable") (by rw [part_variable]; exact h'.1.1)
    have a2 : wd 30 y = true := by
      cases y with
      | list _ => simp [inS] at h'
      | tuple _ => simp [inS] at h'
      | _ => simp only [wd]
    have a3 : wd 30 z = true := part_wd (r := "term") (by rw [part_term]; exact h'.2)
    simp only [wd, wdAll, a1, a2, a3]
    rfl
theorem addO_le {x y : Option Nat} {c : Nat} (h : addO x y = some c) : ∃ a b, x = some a ∧ y = some b ∧ a ≤ c ∧ b ≤ c := by
  cases x with
  | none => rw [none_addO] at h; cases h
  | some a =>
    cases y with
    | none => cases h
    | some b =>
      have e : a + b = c := by injection h
      exact ⟨a, b, rfl, rfl, by omega, by omega⟩
theorem sumO_mem {xs : List (Option Nat)} : ∀ {c : Nat}, sumO xs = some c → ∀ x ∈ xs, ∃ a, x = some a ∧ a ≤ c := by
  induction xs with
  | nil => intro c _ x m; cases m
  | cons y r ih =>
    intro c h x m
    obtain ⟨a, b, e1, e2, l1, l2⟩ := addO_le (show addO y (sumO r) = some c from h)
    rcases List.mem_cons.mp m with rfl | m
    · exact ⟨a, e1, l1⟩
    · obtain ⟨a', e, l⟩ := ih e2 x m
      exact ⟨a', e, by omega⟩
theorem body_wd {k : Str} : ∀ {n c : Nat} {d : PyData}, c ≤ 24 → bodyN k n d = some c → wd 30 d = true
  | 0, c, d, hc, h => by
    match d, h with
    | .tuple [], _ => rfl
  | n + 1, c, d, hc, h => by
    cases ht : isT d "tuple" with
    | false => rw [bodyN_no k _ ht] at h; cases h
    | true =>
      obtain ⟨ss, rfl⟩ := isT_tup ht
      rw [bodyN_tup] at h
      have hl := sumO_ge h
      rw [wd_tup]
      refine ⟨by omega, fun s ms => ?_⟩
      obtain ⟨a, ea, la⟩ := sumO_mem h (stN k n s) (List.mem_map_of_mem ms)
      unfold stN at ea
      split at ea
      · rename_i ho
        obtain ⟨a1, b1, _, e2, _, l2⟩ := addO_le ea
        obtain ⟨z, ps, rfl⟩ := out_word ho
        have hb : ∀ b ∈ bodsOf (.tuple (.str z :: ps)), wd 30 b = true := fun b mb => by
          obtain ⟨x, ex, lx⟩ := sumO_mem e2 _ (List.mem_map_of_mem mb)
          exact body_wd (n := n) (c := x) (by omega) ex
        by_cases h1 : z = "if"
        · subst h1
          rw [out_if] at ho
          rw [bods_if] at hb
          match ps, ho, hb with
          | [c0, b1, b2], ho, hb =>
            have w1 := cond_wd (d := c0) ho
            have w2 := hb b1 (by simp)
            have w3 := hb b2 (by simp)
            simp only [wd, wdAll, w1, w2, w3]
            rfl
        by_cases h2 : z = "while"
        · subst h2
          rw [out_while] at ho
          rw [bods_while] at hb
          match ps, ho, hb with
          | [c0, b1], ho, hb =>
            have w1 := cond_wd (d := c0) ho
            have w2 := hb b1 (by simp)
            simp only [wd, wdAll, w1, w2]
            rfl
        · rw [out_else h1 h2] at ho
          exact plain_wd ho
      · cases ea
theorem prog_wd {d : PyData} (h : isProg d = true) : wd 30 d = true := by
  match d, h with
  | .tuple [.str k, b], h =>
    have h' : (inS (.str k) kinds && okN 0 (bodyN k 4 b)) = true := h
    rw [Bool.and_eq_true] at h'
    cases e : bodyN k 4 b with
    | none => rw [e] at h'; cases h'.2
    | some c =>
      rw [e] at h'
      have hc : 0 + c ≤ 24 := of_decide_eq_true h'.2
      have w := body_wd (by omega) e
      simp only [wd, wdAll, w]
      rfl
def spOne (K : PySem.W.Frag) (n : Nat) : Sp := fun vs H Q _ => ∃ (v : V) (d : PyData) (k : Str) (dep : Int), vs = [.str k, v, .int dep] ∧ dep = 5 - (n : Int) ∧ n ≤ 4 ∧ Dp K H v d ∧ Lay d ∧ wd 31 d = true ∧ (k = "teller" ∨ k = "collector") ∧ ∀ H', Same H H' → Q (oV (oneN k n d)) H'
def spCnt (K : PySem.W.Frag) (n : Nat) : Sp := fun vs H Q _ => ∃ (v : V) (d : PyData) (k : Str) (dep : Int), vs = [.str k, v, .int dep] ∧ dep = 5 - (n : Int) ∧ n ≤ 4 ∧ Dp K H v d ∧ Lay d ∧ wd 31 d = true ∧ (k = "teller" ∨ k = "collector") ∧ ∀ H', Same H H' → Q (oV (bodyN k n d)) H'
section
variable {P : Program} {w : World} {K : PySem.W.Frag} {mg : Str → Option Value} {base : Heap}
theorem oneN_no {k : Str} {n : Nat} {d : PyData} (h : isOut d k = false) : oneN k n d = none := by
  cases n with
  | zero => rfl
  | succ n => show stN k n d = none; unfold stN; rw [if_neg (by rw [h]; decide)]
theorem none_cnt {f : Addr} {fd : FuncData} (lv : Nat) : FnOk P w K mg base CX0 lv f fd ["_law_kind", "_law_body_here", "_law_depth"] (fun vs H Q E => 0 ≠ 0 ∧ spCnt K (0 - 1) vs H Q E) :=
  ⟨fun vs H Q E h => absurd rfl h.1, fun A outer s H args us vs Q E _ _ _ _ h => absurd rfl h.1⟩
def spProgC (K : PySem.W.Frag) : Sp := fun vs H Q _ => ∃ (v : V) (d : PyData), vs = [v] ∧ Dp K H v d ∧ Lay d ∧ wd 31 d = true ∧ ∀ H', Same H H' → Q (.bl (isProg d)) H'
end
theorem alloc_tup {K : PySem.W.Frag} {b p : Addr} {H : Hp} {xs : List V} {ds : List PyData} (hb : Bag H b) (np : H p = none) (ha : DpAll K (hide b H) xs ds) :
    Bag (upd H p (.tup xs)) b ∧ Fr b H (upd H p (.tup xs)) ∧ Da K b (upd H p (.tup xs)) (.ref p) (.tuple ds) :=
  ⟨hb.keep (same_new np _), Fr.of (same_new np _), da_tup (hb.ne np).symm upd_same (dpAll_mono (hide_mono (Fr.of (same_new np _))) _ _ ha)⟩
theorem alloc_lst {K : PySem.W.Frag} {b p : Addr} {H : Hp} {xs : List V} {ds : List PyData} (hb : Bag H b) (np : H p = none) (ha : DpAll K (hide b H) xs ds) :
    Bag (upd H p (.lst xs)) b ∧ Fr b H (upd H p (.lst xs)) ∧ Da K b (upd H p (.lst xs)) (.ref p) (.list ds) :=
  ⟨hb.keep (same_new np _), Fr.of (same_new np _), .lst (SqL.of (hide_get (hb.ne np).symm upd_same)) (dpAll_mono (hide_mono (Fr.of (same_new np _))) _ _ ha)⟩
def odd1 : List PyData := [.none, .bool true, .bool false, .int 0, .int 1, .int 2, .int 15, .int 16, .int (-1), .int longest, .int (longest + 1), .str "", .str "a", .str "b", .str "c", .str "==", .str "<=", .str "x", .str "3"]
def odd2 : List PyData := [.tuple [], .list [], .tuple [.str "a"], .tuple [.str "a", .str "==", .int 3], .list [.str "a", .str "==", .int 3], .tuple [.str "set", .str "a", .int 3], .tuple [.str "answer", .int 1], .tuple [.str "list", .str "b"]]
def odd3 : List PyData := [.tuple [.str "wait", .int 0], .tuple [.str "while", .tuple [.str "a", .str "<", .int 3], .tuple []], .tuple [.str "if", .tuple [.str "a", .str "<", .int 3], .tuple []], .str "teller", .str "collector", .str "set"]
theorem odd_ok : (odd1 ++ odd2 ++ odd3).all (fun d => d.canLay0 && wd 30 d) = true := by decide +kernel
theorem odd_mem {d : PyData} (h : d ∈ odd1 ++ odd2 ++ odd3) : Lay d ∧ wd 30 d = true := by
  have e := List.all_eq_true.mp odd_ok d h
  rw [Bool.and_eq_true] at e
  exact e
def vals1 : List V := [.non, .bl true, .bl false, .int 0, .int 1, .int 2, .int 15, .int 16, .int (-1), .int longest, .int (longest + 1), .str "", .str "a", .str "b", .str "c", .str "==", .str "<=", .str "x", .str "3"]
theorem dp_odd1 {K : PySem.W.Frag} {H : Hp} : DpAll K H vals1 odd1 :=
  .cons .non (.cons (.bl _) (.cons (.bl _) (.cons (.int _) (.cons (.int _) (.cons (.int _) (.cons (.int _) (.cons (.int _) (.cons (.int _) (.cons (.int _) (.cons (.int _) (.cons (.str _) (.cons (.str _) (.cons (.str _) (.cons (.str _) (.cons (.str _) (.cons (.str _) (.cons (.str _) (.cons (.str _) .nil))))))))))))))))))
theorem sq_keep {b p : Addr} {H H' : Hp} {o : HO} (f : Fr b H H') (n : p ≠ b) (h : H p = some o) : H' p = some o := f p o n h
def spOdd (K : PySem.W.Frag) : Sp := fun vs H Q _ => ∃ (b : Addr), vs = [.ref b] ∧ Bag H b ∧ ∀ H' v d, Fr b H H' → Bag H' b → Da K b H' v d → Lay d → wd 30 d = true → Q v H'
theorem Da.lift {K : PySem.W.Frag} {b : Addr} {H H' : Hp} {vs : List V} {ds : List PyData} (h : DpAll K (hide b H) vs ds) (x : Fr b H H') : DpAll K (hide b H') vs ds := dpAll_mono (hide_mono x) _ _ h
section
variable {P : Program} {w : World} {K : PySem.W.Frag} {mg : Str → Option Value} {base : Heap}
end
theorem cut_whole {xs : List V} {lo hi : Option Int} (h : HT.sIx xs.length 0 lo = 0 ∧ HT.sIx xs.length xs.length hi = xs.length) : cutV xs lo hi = xs := by
  unfold cutV
  rw [h.1, h.2, List.drop_zero, Nat.sub_zero, List.take_length]
section
variable {X : Cx}
def rSlE (K : PySem.W.Frag) : V → Option Int → Option Int → Hp → VK → Prop := fun x lo hi H Q => ∃ bg a xs, x = .ref a ∧ SqT K (hide bg H) a xs ∧ Bag H bg ∧ ∀ w H', Same H H' → SqT K (hide bg H') w (cutV xs lo hi) → Q (.ref w) H'
theorem sl_tupE : SlR X (rSlE X.K) := by
  intro pins s σ H x v vl vu lo hi sl Q I rx hs pl pu h
  obtain ⟨bg, a, xs, rfl, ha, hB, q⟩ := h
  refine sl_tupA pins s σ H _ v vl vu lo hi sl Q I rx hs pl pu ⟨a, xs, rfl, Same.tup (hide_same _ _) ha, fun hw => ?_, fun _ p np => ?_⟩
  · exact q a H (Same.refl H) (by rw [cut_whole hw]; exact ha)
  · exact q p _ (same_new np _) (SqT.of (hide_get (hB.ne np).symm upd_same))
def rCatH (K : PySem.W.Frag) (bg : Addr) : R2 := fun x y H Q => ∃ a b xs ys, x = .ref a ∧ y = .ref b ∧ SqT K (hide bg H) a xs ∧ SqT K (hide bg H) b ys ∧ xs.length + ys.length ≤ sizeLine ∧ Bag H bg ∧ ∀ w H', Same H H' → SqT K (hide bg H') w (xs ++ ys) → Q (.ref w) H'
theorem op_catH (bg : Addr) : OpR X (binaryOp .Add) (rCatH X.K bg) := by
  intro pins s σ H x y v u Q I rx ry h
  obtain ⟨a, b, xs, ys, rfl, rfl, ha, hb, hz, hB, q⟩ := h
  refine op_catA pins s σ H _ _ v u Q I rx ry ⟨a, b, xs, ys, rfl, rfl, Same.tup (hide_same _ _) ha, Same.tup (hide_same _ _) hb, hz, fun e => ?_, fun _ e => ?_, fun _ _ p np => ?_⟩
  · exact q b H (Same.refl H) (by rw [e]; exact hb)
  · exact q a H (Same.refl H) (by rw [e, List.append_nil]; exact ha)
  · exact q p _ (same_new np _) (SqT.of (hide_get (hB.ne np).symm upd_same))
def rCatE (K : PySem.W.Frag) : R2 := fun x y H Q => ∃ bg, rCatH K bg x y H Q
theorem op_catE : OpR X (binaryOp .Add) (rCatE X.K) := by
  intro pins s σ H x y v u Q I rx ry h
  obtain ⟨bg, h⟩ := h
  exact op_catH bg pins s σ H x y v u Q I rx ry h
end
def spSpoilt (K : PySem.W.Frag) (n : Nat) : Sp := fun vs H Q _ => ∃ (b : Addr) (v : V) (d : PyData), vs = [.ref b, v] ∧ Bag H b ∧ Da K b H v d ∧ Lay d ∧ wd 30 d = true ∧ d.depth ≤ n ∧ ∀ H' v' d', Fr b H H' → Bag H' b → Da K b H' v' d' → Lay d' → wd 31 d' = true → Q v' H'
theorem depth_mem {ds : List PyData} : ∀ {d : PyData}, d ∈ ds → d.depth ≤ PyData.depthAll ds := by
  induction ds with
  | nil => intro d m; cases m
  | cons x r ih =>
    intro d m
    simp only [PyData.depthAll]
    rcases List.mem_cons.mp m with rfl | m
    · omega
    · have := ih m
      omega
theorem depth_tup (ds : List PyData) : (PyData.tuple ds).depth = PyData.depthAll ds + 1 := by simp only [PyData.depth]
theorem depth_all {ds : List PyData} {n : Nat} (h : ∀ d ∈ ds, d.depth ≤ n) : PyData.depthAll ds ≤ n := by
  induction ds with
  | nil => exact Nat.zero_le _
  | cons x r ih =>
    simp only [PyData.depthAll]
    have h1 := h x (by simp)
    have h2 := ih fun d m => h d (List.mem_cons_of_mem _ m)
    omega
section
variable {P : Program} {w : World} {K : PySem.W.Frag} {mg : Str → Option Value} {base : Heap}
theorem none_spoilt {f : Addr} {fd : FuncData} (lv : Nat) : FnOk P w K mg base CX0 lv f fd ["_law_bag_here", "_law_thing"] (fun vs H Q E => 0 ≠ 0 ∧ spSpoilt K (0 - 1) vs H Q E) :=
  ⟨fun vs H Q E h => absurd rfl h.1, fun A outer s H args us vs Q E _ _ _ _ h => absurd rfl h.1⟩
end
theorem part_flat {p : PyData} {r : Str} (h : isPart p r = true) : p.depth = 0 := by
  cases p with
  | list xs => unfold isPart at h; repeat' split at h
               all_goals simp [inS, isTerm, intIn] at h
  | tuple xs => unfold isPart at h; repeat' split at h
                all_goals simp [inS, isTerm, intIn] at h
  | dict xs => unfold isPart at h; repeat' split at h
               all_goals simp [inS, isTerm, intIn] at h
  | _ => simp only [PyData.depth]
theorem inS_flat {d : PyData} {zs : List Str} (h : inS d zs = true) : d.depth = 0 := by
  cases d with
  | list xs => simp [inS] at h
  | tuple xs => simp [inS] at h
  | dict xs => simp [inS] at h
  | _ => simp only [PyData.depth]
theorem parts_flat : ∀ {ps : List PyData} {rs : List Str}, ps.length = rs.length → allParts ps rs = true → PyData.depthAll ps = 0
  | [], _, _, _ => by simp only [PyData.depthAll]
  | p :: ps, [], l, _ => by simp at l
  | p :: ps, r :: rs, l, h => by
    have h' : isPart p r = true ∧ allParts ps rs = true := by
      simpa [allParts] using h
    simp only [PyData.depthAll, part_flat h'.1, parts_flat (by simpa using l) h'.2]
    rfl
theorem plain_depth {d : PyData} {k : Str} (h : isPlain d k = true) : d.depth ≤ 1 := by
  obtain ⟨z, ps, rs, rfl, hz, hl, hp⟩ := plain_inv h
  simp only [PyData.depth, PyData.depthAll, parts_flat hl hp]
  decide
theorem cond_depth {d : PyData} (h : isCond d = true) : d.depth ≤ 1 := by
  match d, h with
  | .tuple [x, y, z], h =>
    have h' : (inS x vars && inS y signs && isTerm z) = true := h
    rw [Bool.and_eq_true, Bool.and_eq_true] at h'
    have a3 : z.depth = 0 := part_flat (r := "term") (by rw [part_term]; exact h'.2)
    simp only [PyData.depth, PyData.depthAll, inS_flat h'.1.1, inS_flat h'.1.2, a3]
    decide
def isNil : PyData → Bool
  | .tuple [] => true
  | _ => false
/-- the three shapes of a statement -/
theorem st_shape {k : Str} {n c : Nat} {s : PyData} (h : stN k n s = some c) :
    (∃ z ps, s = .tuple (.str z :: ps) ∧ ¬ z = "if" ∧ ¬ z = "while" ∧ isPlain s k = true ∧ c = 1) ∨
    (∃ co b c', s = .tuple [.str "while", co, b] ∧ isCond co = true ∧ bodyN k n b = some c' ∧ c = 1 + c') ∨
    (∃ co b1 b2 c1 c2, s = .tuple [.str "if", co, b1, b2] ∧ isCond co = true ∧ bodyN k n b1 = some c1 ∧ bodyN k n b2 = some c2 ∧ c = 1 + (c1 + c2)) := by
  unfold stN at h
  split at h
  · rename_i ho
    obtain ⟨z, ps, rfl⟩ := out_word ho
    by_cases h1 : z = "if"
    · subst h1
      rw [out_if] at ho
      rw [bods_if] at h
      match ps, ho, h with
      | [co, b1, b2], ho, h =>
        simp only [List.drop_succ_cons, List.drop_zero, List.map_cons, List.map_nil, sumO, addO_zero] at h
        cases e1 : bodyN k n b1 with
        | none => rw [e1] at h; simp [addO] at h
        | some c1 =>
          cases e2 : bodyN k n b2 with
          | none => rw [e1, e2] at h; simp [addO] at h
          | some c2 =>
            rw [e1, e2] at h
            have e : 1 + (c1 + c2) = c := by injection h
            exact .inr (.inr ⟨co, b1, b2, c1, c2, rfl, ho, e1, e2, e.symm⟩)
    by_cases h2 : z = "while"
    · subst h2
      rw [out_while] at ho
      rw [bods_while] at h
      match ps, ho, h with
      | [co, b1], ho, h =>
        simp only [List.drop_succ_cons, List.drop_zero, List.map_cons, List.map_nil, sumO, addO_zero] at h
        cases e1 : bodyN k n b1 with
        | none => rw [e1] at h; simp [addO] at h
        | some c1 =>
          rw [e1] at h
          have e : 1 + c1 = c := by injection h
          exact .inr (.inl ⟨co, b1, c1, rfl, ho, e1, e.symm⟩)
    · rw [out_else h1 h2] at ho
      have hp : isPlain (.tuple (.str z :: ps)) k = true := ho
      rw [bods_else h1 h2] at h
      have e : 1 = c := by injection h
      exact .inl ⟨z, ps, rfl, h1, h2, hp, e.symm⟩
  · cases h
theorem body_tuple {k : Str} {n c : Nat} {d : PyData} (h : bodyN k n d = some c) : ∃ ss, d = .tuple ss := by
  cases ht : isT d "tuple" with
  | false => rw [bodyN_no k n ht] at h; cases h
  | true => exact isT_tup ht
theorem sum_le {k : Str} {n c : Nat} {ss : List PyData} (h : bodyN k (n + 1) (.tuple ss) = some c) {s : PyData} (m : s ∈ ss) : ∃ a, stN k n s = some a ∧ a ≤ c := by
  rw [bodyN_tup] at h
  exact sumO_mem h _ (List.mem_map_of_mem m)
theorem noL_mem {ds : List PyData} (h : noLAll ds = true) : ∀ d ∈ ds, noL d = true := by
  induction ds with
  | nil => intro d m; cases m
  | cons x r ih =>
    simp only [noLAll, Bool.and_eq_true] at h
    intro d m
    rcases List.mem_cons.mp m with rfl | m
    · exact h.1
    · exact ih h.2 d m
theorem noL_tup {ds : List PyData} (h : noL (.tuple ds) = true) : noLAll ds = true := by simpa only [noL] using h
theorem noLAll_of {ds : List PyData} (h : ∀ d ∈ ds, noL d = true) : noLAll ds = true := by
  induction ds with
  | nil => rfl
  | cons x r ih =>
    simp only [noLAll, Bool.and_eq_true]
    exact ⟨h x (by simp), ih fun d m => h d (List.mem_cons_of_mem _ m)⟩
theorem body_depth {k : Str} : ∀ {n c : Nat} {d : PyData}, bodyN k n d = some c → d.depth ≤ 2 * n + 1
  | 0, c, d, h => by
    match d, h with
    | .tuple [], _ => simp [PyData.depth, PyData.depthAll]
  | n + 1, c, d, h => by
    cases ht : isT d "tuple" with
    | false => rw [bodyN_no k _ ht] at h; cases h
    | true =>
      obtain ⟨ss, rfl⟩ := isT_tup ht
      rw [bodyN_tup] at h
      rw [depth_tup]
      suffices hs : PyData.depthAll ss ≤ 2 * n + 2 by omega
      refine depth_all fun s ms => ?_
      obtain ⟨a, ea, la⟩ := sumO_mem h (stN k n s) (List.mem_map_of_mem ms)
      unfold stN at ea
      split at ea
      · rename_i ho
        obtain ⟨a1, b1, _, e2, _, l2⟩ := addO_le ea
        obtain ⟨z, ps, rfl⟩ := out_word ho
        have hb : ∀ b ∈ bodsOf (.tuple (.str z :: ps)), b.depth ≤ 2 * n + 1 := fun b mb => by
          obtain ⟨x, ex, lx⟩ := sumO_mem e2 _ (List.mem_map_of_mem mb)
          exact body_depth (n := n) (c := x) ex
        by_cases h1 : z = "if"
        · subst h1
          rw [out_if] at ho
          rw [bods_if] at hb
          match ps, ho, hb with
          | [c0, b1, b2], ho, hb =>
            have w1 := cond_depth (d := c0) ho
            have w2 := hb b1 (by simp)
            have w3 := hb b2 (by simp)
            simp only [PyData.depth, PyData.depthAll]
            omega
        by_cases h2 : z = "while"
        · subst h2
          rw [out_while] at ho
          rw [bods_while] at hb
          match ps, ho, hb with
          | [c0, b1], ho, hb =>
            have w1 := cond_depth (d := c0) ho
            have w2 := hb b1 (by simp)
            simp only [PyData.depth, PyData.depthAll]
            omega
        · rw [out_else h1 h2] at ho
          have := plain_depth ho
          omega
      · cases ea
theorem eqv_nil (ss : List PyData) : PyData.eqv (.tuple ss) (.tuple []) = isNil (.tuple ss) := by
  cases ss <;> simp [PyData.eqv, PyData.eqvAll, isNil]
theorem dp_four {K : PySem.W.Frag} {H : Hp} {xs : List V} {d0 d1 d2 d3 : PyData} (h : DpAll K H xs [d0, d1, d2, d3]) : ∃ x0 x1 x2 x3, xs = [x0, x1, x2, x3] ∧ Dp K H x0 d0 ∧ Dp K H x1 d1 ∧ Dp K H x2 d2 ∧ Dp K H x3 d3 := by
  match h with
  | .cons (v := x0) h0 (.cons (v := x1) h1 (.cons (v := x2) h2 (.cons (v := x3) h3 .nil))) => exact ⟨x0, x1, x2, x3, rfl, h0, h1, h2, h3⟩
abbrev sBC : Stmt := top 42
abbrev sSC : Stmt := top 43
abbrev sWC : Stmt := top 44
abbrev sIC : Stmt := top 45
def insT (c : PyData) (t : Nat) : PyData := .tuple [.str "test", c, .int (t : Nat)]
def insJ (t : Nat) : PyData := .tuple [.str "jump", .int (t : Nat)]
def whC (g : Nat → PyData → List PyData) (st0 : Nat) (c b : PyData) : List PyData := insT c (st0 + 1 + (g (st0 + 1) b).length + 1) :: (g (st0 + 1) b ++ [insJ st0])
def ifC (g : Nat → PyData → List PyData) (st0 : Nat) (c b1 b2 : PyData) : List PyData :=
  if isNil b2 = true then insT c (st0 + 1 + (g (st0 + 1) b1).length) :: g (st0 + 1) b1
  else insT c (st0 + 1 + (g (st0 + 1) b1).length + 1) :: (g (st0 + 1) b1 ++ insJ (st0 + 1 + (g (st0 + 1) b1).length + 1 + (g (st0 + 1 + (g (st0 + 1) b1).length + 1) b2).length) :: g (st0 + 1 + (g (st0 + 1) b1).length + 1) b2)
def stC (g : Nat → PyData → List PyData) (st0 : Nat) (s : PyData) : List PyData := match s with
  | .tuple [.str z, c, b] => if z = "while" then whC g st0 c b else [s]
  | .tuple [.str z, c, b1, b2] => if z = "if" then ifC g st0 c b1 b2 else [s]
  | _ => [s]
def codeL (f : Nat → PyData → List PyData) : Nat → List PyData → List PyData
  | _, [] => []
  | st0, s :: r => f st0 s ++ codeL f (st0 + (f st0 s).length) r
def bodyC : Nat → Nat → PyData → List PyData
  | 0, _, _ => []
  | n + 1, st0, .tuple ss => codeL (stC (bodyC n)) st0 ss
  | _ + 1, _, _ => []
theorem codeL_snoc (f : Nat → PyData → List PyData) : ∀ (st0 : Nat) (a : List PyData) (s : PyData), codeL f st0 (a ++ [s]) = codeL f st0 a ++ f (st0 + (codeL f st0 a).length) s
  | st0, [], s => by simp [codeL]
  | st0, x :: r, s => by
    rw [List.cons_append]
    simp only [codeL]
    rw [codeL_snoc f _ r s, List.append_assoc, List.length_append, Nat.add_assoc]
theorem stC_plain {g : Nat → PyData → List PyData} {st0 : Nat} {z : Str} {ps : List PyData} (h1 : ¬ z = "if") (h2 : ¬ z = "while") : stC g st0 (.tuple (.str z :: ps)) = [.tuple (.str z :: ps)] := by
  unfold stC
  split
  · rename_i z' c b e
    injection e with e; injection e with e1 e2; injection e1 with e1
    subst e1
    rw [if_neg h2]
  · rename_i z' c b1 b2 e
    injection e with e; injection e with e1 e2; injection e1 with e1
    subst e1
    rw [if_neg h1]
  · rfl
theorem stC_while {g : Nat → PyData → List PyData} {st0 : Nat} {c b : PyData} : stC g st0 (.tuple [.str "while", c, b]) = whC g st0 c b := by
  simp [stC]
theorem stC_if {g : Nat → PyData → List PyData} {st0 : Nat} {c b1 b2 : PyData} : stC g st0 (.tuple [.str "if", c, b1, b2]) = ifC g st0 c b1 b2 := by
  simp [stC]
theorem noL_ins {c : PyData} {t : Nat} (h : noL c = true) : noL (insT c t) = true := by simp [insT, noL, noLAll, h]
theorem noL_jmp {t : Nat} : noL (insJ t) = true := by simp [insJ, noL, noLAll]
theorem lay_ins {c : PyData} {t : Nat} (h : Lay c) : Lay (insT c t) := lay3 (lay_str (by decide +kernel)) h (lay_int _)
theorem lay_jmp {t : Nat} : Lay (insJ t) := lay2 (lay_str (by decide +kernel)) (lay_int _)
/-- what holds of an instruction -/
def okI (i : PyData) : Prop := noL i = true ∧ Lay i ∧ i.depth ≤ 2 ∧ ((∃ c t, isCond c = true ∧ i = insT c t) ∨ (∃ t, i = insJ t) ∨ ∃ z ps k, i = .tuple (.str z :: ps) ∧ isPlain i k = true)
theorem okI_T {c : PyData} {t : Nat} (hc : isCond c = true) (lc : Lay c) : okI (insT c t) := by
  refine ⟨noL_ins (cond_noL hc), lay_ins lc, ?_, .inl ⟨c, t, hc, rfl⟩⟩
  have := cond_depth hc
  simp only [insT, PyData.depth, PyData.depthAll]
  omega
theorem okI_J {t : Nat} : okI (insJ t) := ⟨noL_jmp, lay_jmp, by simp [insJ, PyData.depth, PyData.depthAll], .inr (.inl ⟨t, rfl⟩)⟩
theorem body_code_ok {k : Str} : ∀ {n c : Nat} {d : PyData} (st0 : Nat), Lay d → bodyN k n d = some c → (∀ i ∈ bodyC n st0 d, okI i) ∧ (bodyC n st0 d).length ≤ 2 * c
  | 0, c, d, st0, _, h => ⟨fun i m => by simp [bodyC] at m, Nat.zero_le _⟩
  | n + 1, c, d, st0, ld, h => by
    obtain ⟨ss, rfl⟩ := body_tuple h
    rw [bodyN_tup] at h
    have lm := lay_mem (lay_tup ld)
    show (∀ i ∈ codeL (stC (bodyC n)) st0 ss, okI i) ∧ (codeL (stC (bodyC n)) st0 ss).length ≤ 2 * c
    clear ld
    induction ss generalizing st0 c with
    | nil => exact ⟨fun i m => by simp [codeL] at m, Nat.zero_le _⟩
    | cons s r ih =>
      obtain ⟨a, b, e1, e2, _, _⟩ := addO_le (show addO (stN k n s) (sumO (r.map (stN k n))) = some c from h)
      have hc : a + b = c := by
        have h' : addO (stN k n s) (sumO (r.map (stN k n))) = some c := h
        rw [e1, e2] at h'
        injection h'
      have ls := lm s (by simp)
      have one : (∀ i ∈ stC (bodyC n) st0 s, okI i) ∧ (stC (bodyC n) st0 s).length ≤ 2 * a := by
        rcases st_shape e1 with ⟨z, ps, rfl, h1, h2, hp, rfl⟩ | ⟨co, bb, c', rfl, hco, hb, rfl⟩ | ⟨co, b1, b2, c1, c2, rfl, hco, hb1, hb2, rfl⟩
        · rw [stC_plain h1 h2]
          refine ⟨fun i m => ?_, by simp⟩
          rw [List.mem_singleton.mp m]
          exact ⟨plain_noL hp, ls, by have := plain_depth hp; omega, .inr (.inr ⟨z, ps, k, rfl, hp⟩)⟩
        · have lm' := lay_mem (lay_tup ls)
          obtain ⟨i1, l1⟩ := body_code_ok (st0 + 1) (lm' bb (by simp)) hb
          rw [stC_while]
          unfold whC
          refine ⟨fun i m => ?_, by simp; omega⟩
          simp only [List.mem_cons, List.mem_append, List.not_mem_nil, or_false] at m
          rcases m with rfl | m | rfl
          · exact okI_T hco (lm' co (by simp))
          · exact i1 i m
          · exact okI_J
        · have lm' := lay_mem (lay_tup ls)
          rw [stC_if]
          obtain ⟨i1, l1⟩ := body_code_ok (st0 + 1) (lm' b1 (by simp)) hb1
          unfold ifC
          split
          · refine ⟨fun i m => ?_, by simp; omega⟩
            simp only [List.mem_cons] at m
            rcases m with rfl | m
            · exact okI_T hco (lm' co (by simp))
            · exact i1 i m
          · obtain ⟨i2, l2⟩ := body_code_ok (st0 + 1 + (bodyC n (st0 + 1) b1).length + 1) (lm' b2 (by simp)) hb2
            refine ⟨fun i m => ?_, by simp; omega⟩
            simp only [List.mem_cons, List.mem_append] at m
            rcases m with rfl | m | rfl | m
            · exact okI_T hco (lm' co (by simp))
            · exact i1 i m
            · exact okI_J
            · exact i2 i m
      obtain ⟨j1, j2⟩ := ih (st0 := st0 + (stC (bodyC n) st0 s).length) (c := b) e2 (fun d m => lm d (List.mem_cons_of_mem _ m))
      simp only [codeL]
      refine ⟨fun i m => ?_, by rw [List.length_append]; omega⟩
      rcases List.mem_append.mp m with m | m
      · exact one.1 i m
      · exact j1 i m
def spBC (K : PySem.W.Frag) (n : Nat) : Sp := fun vs H Q _ => ∃ (v : V) (d : PyData) (k : Str) (c sn : Nat), vs = [v, .int (sn : Nat)] ∧ Dp K H v d ∧ Lay d ∧ noL d = true ∧ bodyN k n d = some c ∧ c ≤ 24 ∧
  ∀ H' p xs, Same H H' → H p = none → H' p = some (.lst xs) → DpAll K H' xs (bodyC n sn d) → Q (.ref p) H'
def spSC (K : PySem.W.Frag) (n : Nat) : Sp := fun vs H Q _ => ∃ (v : V) (d : PyData) (k : Str) (c sn : Nat), vs = [v, .int (sn : Nat)] ∧ Dp K H v d ∧ Lay d ∧ noL d = true ∧ stN k n d = some c ∧ c ≤ 24 ∧
  ∀ H' p xs, Same H H' → H p = none → H' p = some (.lst xs) → DpAll K H' xs (stC (bodyC n) sn d) → Q (.ref p) H'
def spWC (K : PySem.W.Frag) (n : Nat) : Sp := fun vs H Q _ => ∃ (v : V) (co b : PyData) (k : Str) (c sn : Nat), vs = [v, .int (sn : Nat)] ∧ Dp K H v (.tuple [.str "while", co, b]) ∧ Lay b ∧ noL co = true ∧ noL b = true ∧ bodyN k n b = some c ∧ c ≤ 24 ∧
  ∀ H' p xs, Same H H' → H p = none → H' p = some (.lst xs) → DpAll K H' xs (whC (bodyC n) sn co b) → Q (.ref p) H'
def spIC (K : PySem.W.Frag) (n : Nat) : Sp := fun vs H Q _ => ∃ (v : V) (co b1 b2 : PyData) (k : Str) (c1 c2 sn : Nat), vs = [v, .int (sn : Nat)] ∧ Dp K H v (.tuple [.str "if", co, b1, b2]) ∧ Lay b1 ∧ Lay b2 ∧ noL co = true ∧ noL b1 = true ∧ noL b2 = true ∧ bodyN k n b1 = some c1 ∧ bodyN k n b2 = some c2 ∧ c1 ≤ 24 ∧ c2 ≤ 24 ∧
  ∀ H' p xs, Same H H' → H p = none → H' p = some (.lst xs) → DpAll K H' xs (ifC (bodyC n) sn co b1 b2) → Q (.ref p) H'
theorem code_len {k : Str} {n c sn : Nat} {ss : List PyData} (ld : ∀ s ∈ ss, Lay s) (h : bodyN k (n + 1) (.tuple ss) = some c) (i : Nat) : (codeL (stC (bodyC n)) sn (ss.take i)).length ≤ 2 * c ∧ ∀ x ∈ codeL (stC (bodyC n)) sn (ss.take i), okI x := by
  have e : ∃ c', bodyN k (n + 1) (.tuple (ss.take i)) = some c' ∧ c' ≤ c := by
    rw [bodyN_tup] at h ⊢
    have e2 : ss = ss.take i ++ ss.drop i := (List.take_append_drop i ss).symm
    rw [e2, List.map_append, sumO_append] at h
    obtain ⟨a, b, h1, _, h3, _⟩ := addO_le h
    exact ⟨a, h1, h3⟩
  obtain ⟨c', h1, h2⟩ := e
  obtain ⟨h3, h4⟩ := body_code_ok (d := .tuple (ss.take i)) sn (lay_tuple fun s m => ld s (List.mem_of_mem_take m)) h1
  exact ⟨by have : (codeL (stC (bodyC n)) sn (ss.take i)).length ≤ 2 * c' := h4
            omega, h3⟩
section
variable {P : Program} {w : World} {K : PySem.W.Frag} {mg : Str → Option Value} {base : Heap}
theorem scBC : FnScope ["body", "start", "code", "statement", "at"] ["body", "start"] (defScope sBC) := ⟨rfl, rfl, rfl, by decide +kernel, rfl, by decide +kernel, by decide +kernel⟩
theorem ok_BC {f : Addr} {fd : FuncData} {lv n : Nat} (F : Fun K "body_code" "body_code" sBC f fd) (T : Gs K mg) (CS : Cal P w K mg base lv "statement_code" ["statement", "start"] (fun vs H Q E => n ≠ 0 ∧ spSC K (n - 1) vs H Q E)) :
    FnOk P w K mg base CX0 (lv + 1) f fd ["body", "start"] (spBC K n) := by
  refine F.ok scBC (fun vs H Q E h => ?_) (fun cdv A outer s H vs Q E hr h => ?_)
  · obtain ⟨v, d, k, c, sn, rfl, _⟩ := h
    rfl
  obtain ⟨v, d, k, c, sn, rfl, hd, ld, nd, hbc, hc, q⟩ := h
  refine ⟨_, pss_cons (ps_set (i := 2) scBC.nd rfl (.inl rfl) (pe_lst pa_nil))
    (pss_cons (ps_for PassesOwn.never rfl (pi_tup (pv 0)) (pg_name (i := 3) scBC.nd rfl (.inl rfl))
      (pss_cons (ps_set (i := 4) scBC.nd rfl (.inl rfl) (pe_op op_add (pv 1) (pe_callB call_len_seq (by rfl) T.len PySem.boot_len (pa_cons (pv 2) pa_nil))))
      (pss_one (ps_expr (pe_bm PySem.F.plainAttrs_list PySem.F.slot_list_extend PySem.F.type_list_extend mt_extend (pv 2) (pa_cons (pe_call CS.G hr rfl CS.m CS.kp CS.b .nil pass0 (pa_cons (pv 3) (pa_cons (pv 4) pa_nil))) pa_nil))))))
    (pss_one (ps_ret (pv 2)))), ?_⟩
  obtain ⟨ss, rfl⟩ := body_tuple hbc
  obtain ⟨a, xs, rfl, hs, ha⟩ := dp_tup_inv hd
  have hl := dpAll_len ha
  have lm := lay_mem (lay_tup ld)
  have nm := noL_mem (noL_tup nd)
  refine ⟨(by show 0 ≤ sizeLine; decide), fun l nl => ?_⟩
  have s0 : Same H (upd H l (.lst [])) := same_new nl _
  refine ⟨_, rfl, a, rfl, ⟨_, Same.tup s0 hs⟩, for_tup (K := K) (a := a) (xs := xs) (fun i σ H' => ∃ (ys : List V) (s3 s4 : Option V), σ = [some (.ref a), some (.int (sn : Nat)), some (.ref l), s3, s4] ∧ Same H H' ∧ H' l = some (.lst ys) ∧ DpAll K H' ys (bodyC n sn (.tuple (ss.take i))))
    ⟨[], none, none, rfl, s0, upd_same, by cases n <;> exact .nil⟩ (fun i σ H' _ ⟨_, _, _, _, s1, _⟩ => Same.tup s1 hs) ?_ ?_⟩
  · rintro i x σ H1 hx ⟨ys, s3, s4, rfl, s1, hl1, hys⟩
    obtain ⟨si, hsi, hxd⟩ := dpAll_get ha hx
    have msi := List.mem_of_getElem? hsi
    cases n with
    | zero =>
      cases ss with
      | nil => cases msi
      | cons _ _ => cases hbc
    | succ n =>
      obtain ⟨ai, hai, lai⟩ := sum_le hbc msi
      obtain ⟨cl1, cok⟩ := code_len (sn := sn) lm hbc i
      have hyl : ys.length = (codeL (stC (bodyC n)) sn (ss.take i)).length := dpAll_len hys
      refine ⟨_, rfl, _, rfl, l, ys, rfl, .inl (SqL.of hl1), _, _, rfl, rfl, ?_⟩
      refine ⟨_, rfl, .inl ⟨rfl, _, SqL.of hl1⟩, _, rfl, _, rfl, by omega, x, si, k, ai, sn + ys.length, rfl, dp_mono s1 _ _ hxd, lm _ msi, nm _ msi, hai, by omega, fun H2 p zs s2 np hp hzs => ?_⟩
      have hl2 := s2 _ _ hl1
      have nlp : l ≠ p := ne_of_none hl1 np
      have one := code_len (sn := sn) lm hbc (i + 1)
      have esn : codeL (stC (bodyC n)) sn (ss.take (i + 1)) = codeL (stC (bodyC n)) sn (ss.take i) ++ stC (bodyC n) (sn + ys.length) si := by rw [take_snoc hsi, codeL_snoc, hyl]
      rw [esn] at one
      have zl : zs.length = (stC (bodyC n) (sn + ys.length) si).length := dpAll_len hzs
      have ltot : ys.length + zs.length ≤ 2 * c := by
        have := one.1
        rw [List.length_append] at this
        omega
      have keep : ∀ a o, a ≠ l → H2 a = some o → (upd H2 l (.lst (ys ++ zs))) a = some o := fun a o n h => by rw [upd_ne n]; exact h
      refine ⟨l, p, ys, zs, rfl, rfl, hl2, hp, Nat.le_of_lt (Nat.lt_of_le_of_lt (by omega : _ ≤ 1000) (by decide)), ys ++ zs, _, _, rfl, same_upd (s1.trans s2) nl _, upd_same, ?_⟩
      show DpAll K _ (ys ++ zs) (codeL (stC (bodyC n)) sn (ss.take (i + 1)))
      rw [esn]
      refine dpAll_append (dpAll_keepL keep hl2 _ _ (noLAll_of fun d m => (one.2 d (List.mem_append_left _ m)).1) (dpAll_mono s2 _ _ hys)) (dpAll_keepL keep hl2 _ _ (noLAll_of fun d m => (one.2 d (List.mem_append_right _ m)).1) hzs)
  · rintro σ H1 ⟨ys, s3, s4, rfl, s1, hl1, hys⟩
    rw [hl, List.take_length] at hys
    exact ⟨_, rfl, q _ _ _ s1 nl hl1 hys⟩
theorem scSC : FnScope ["statement", "start"] ["statement", "start"] (defScope sSC) := ⟨rfl, rfl, rfl, by decide +kernel, rfl, by decide +kernel, by decide +kernel⟩
theorem ok_SC {f : Addr} {fd : FuncData} {lv n : Nat} (F : Fun K "statement_code" "statement_code" sSC f fd) (CW : Cal P w K mg base lv "while_code" ["statement", "start"] (spWC K n)) (CI : Cal P w K mg base lv "if_code" ["statement", "start"] (spIC K n)) :
    FnOk P w K mg base CX0 (lv + 1) f fd ["statement", "start"] (spSC K n) := by
  refine F.ok scSC (fun vs H Q E h => ?_) (fun cdv A outer s H vs Q E hr h => ?_)
  · obtain ⟨v, d, k, c, sn, rfl, _⟩ := h
    rfl
  obtain ⟨v, d, k, c, sn, rfl, hd, ld, nd, hst, hc, q⟩ := h
  refine ⟨_, pss_cons (ps_if (pt_cmpR op_eq (pe_ix ix_tup (pv 0) pe_int (fun _ _ => rfl)) pe_str (nomark _)) (pss_one (ps_ret (pe_call CW.G hr rfl CW.m CW.kp CW.b .nil pass0 (pa_cons (pv 0) (pa_cons (pv 1) pa_nil))))) pss_nil)
    (pss_cons (ps_if (pt_cmpR op_eq (pe_ix ix_tup (pv 0) pe_int (fun _ _ => rfl)) pe_str (nomark _)) (pss_one (ps_ret (pe_call CI.G hr rfl CI.m CI.kp CI.b .nil pass0 (pa_cons (pv 0) (pa_cons (pv 1) pa_nil))))) pss_nil)
    (pss_one (ps_ret (pe_lst (pa_cons (pv 0) pa_nil))))), ?_⟩
  rcases st_shape hst with ⟨z, ps, rfl, h1, h2, hp, rfl⟩ | ⟨co, bb, c', rfl, hco, hb, rfl⟩ | ⟨co, b1, b2, c1, c2, rfl, hco, hb1, hb2, rfl⟩
  · obtain ⟨a, xs, rfl, hs, ha⟩ := dp_tup_inv hd
    obtain ⟨xr, rfl⟩ : ∃ xr, xs = .str z :: xr := by
      cases ha with
      | cons hz _ => cases hz; exact ⟨_, rfl⟩
    refine ⟨_, rfl, a, _, _, _, rfl, rfl, hs, atI_nat (j := 0) rfl, rfl, _, rfl, strF h2 ?_⟩
    refine ⟨_, rfl, a, _, _, _, rfl, rfl, hs, atI_nat (j := 0) rfl, rfl, _, rfl, strF h1 ?_⟩
    refine ⟨_, rfl, (by show 1 ≤ sizeLine; decide), fun p np => ?_⟩
    rw [stC_plain h1 h2] at q
    exact q _ p _ (same_new np _) np upd_same (.cons (dp_mono (same_new np _) _ _ hd) .nil)
  · obtain ⟨a, xs, rfl, hs, ha⟩ := dp_tup_inv hd
    obtain ⟨xr, rfl⟩ : ∃ xr, xs = .str "while" :: xr := by
      cases ha with
      | cons hz _ => cases hz; exact ⟨_, rfl⟩
    have lm := lay_mem (lay_tup ld)
    have nm := noL_mem (noL_tup nd)
    rw [stC_while] at q
    exact ⟨_, rfl, a, _, _, _, rfl, rfl, hs, atI_nat (j := 0) rfl, rfl, _, rfl, strT ⟨_, rfl, _, rfl, _, co, bb, k, c', sn, rfl, hd, lm bb (by simp), nm co (by simp), nm bb (by simp), hb, by omega, q⟩⟩
  · obtain ⟨a, xs, rfl, hs, ha⟩ := dp_tup_inv hd
    obtain ⟨xr, rfl⟩ : ∃ xr, xs = .str "if" :: xr := by
      cases ha with
      | cons hz _ => cases hz; exact ⟨_, rfl⟩
    have lm := lay_mem (lay_tup ld)
    have nm := noL_mem (noL_tup nd)
    rw [stC_if] at q
    refine ⟨_, rfl, a, _, _, _, rfl, rfl, hs, atI_nat (j := 0) rfl, rfl, _, rfl, strF (by decide +kernel) ?_⟩
    exact ⟨_, rfl, a, _, _, _, rfl, rfl, hs, atI_nat (j := 0) rfl, rfl, _, rfl, strT ⟨_, rfl, _, rfl, _, co, b1, b2, k, c1, c2, sn, rfl, hd, lm b1 (by simp), lm b2 (by simp), nm co (by simp), nm b1 (by simp), nm b2 (by simp), hb1, hb2, by omega, by omega, q⟩⟩
theorem scWC : FnScope ["statement", "start", "condition", "body", "inside", "behind"] ["statement", "start"] (defScope sWC) := ⟨rfl, rfl, rfl, by decide +kernel, rfl, by decide +kernel, by decide +kernel⟩
theorem ok_WC {f : Addr} {fd : FuncData} {lv n : Nat} (F : Fun K "while_code" "while_code" sWC f fd) (T : Gs K mg) (CB : Cal P w K mg base lv "body_code" ["body", "start"] (spBC K n)) :
    FnOk P w K mg base CX0 (lv + 1) f fd ["statement", "start"] (spWC K n) := by
  refine F.ok scWC (fun vs H Q E h => ?_) (fun cdv A outer s H vs Q E hr h => ?_)
  · obtain ⟨v, co, b, k, c, sn, rfl, _⟩ := h
    rfl
  obtain ⟨v, co, b, k, c, sn, rfl, hd, lb, nco, nb, hbc, hc, q⟩ := h
  refine ⟨_, pss_cons (ps_asg (pe_slice sl_tup (pv 0) (po_some pe_int) po_none) (pg_tup (by rfl) (pgs_cons (pg_name (i := 2) scWC.nd rfl (.inl rfl)) (pgs_cons (pg_name (i := 3) scWC.nd rfl (.inl rfl)) pgs_nil))))
    (pss_cons (ps_set (i := 4) scWC.nd rfl (.inl rfl) (pe_call CB.G hr rfl CB.m CB.kp CB.b .nil pass0 (pa_cons (pv 3) (pa_cons (pe_op op_add (pv 1) pe_int) pa_nil))))
    (pss_cons (ps_set (i := 5) scWC.nd rfl (.inl rfl) (pe_op op_add (pe_op op_add (pe_op op_add (pv 1) pe_int) (pe_callB call_len_seq (by rfl) T.len PySem.boot_len (pa_cons (pv 4) pa_nil))) pe_int))
    (pss_one (ps_ret (pe_lst (pa_cons (pe_tup (pa_cons pe_str (pa_cons (pv 2) (pa_cons (pv 5) pa_nil)))) (StX.pa_star (pv 4) (pa_cons (pe_tup (pa_cons pe_str (pa_cons (pv 1) pa_nil))) pa_nil)))))))), ?_⟩
  obtain ⟨a, xs, rfl, hs, ha⟩ := dp_tup_inv hd
  obtain ⟨x0, x1, x2, d0, d1, d2, rfl, e, hx0, hx1, hx2⟩ := dp_three ha rfl
  injection e with e0 e
  injection e with e1 e
  injection e with e2 e
  subst e0 e1 e2
  cases hx0
  refine ⟨_, rfl, _, rfl, a, _, rfl, hs, not_whole1 _ _, fun p np => ?_⟩
  rw [cut1]
  have s1 : Same H (upd H p (.tup [x1, x2])) := same_new np _
  refine ⟨p, _, rfl, SqT.of upd_same, rfl, _, _, rfl, _, _, rfl, rfl, ?_⟩
  generalize upd H p (.tup [x1, x2]) = H1 at s1 ⊢
  refine ⟨_, rfl, _, rfl, _, _, rfl, rfl, x2, b, k, c, sn + 1, rfl, dp_mono s1 _ _ hx2, lb, nb, hbc, hc, fun H2 q2 ys s2 nq hq hys => ?_⟩
  have s12 := s1.trans s2
  obtain ⟨cok, clen⟩ := body_code_ok (sn + 1) lb hbc
  have yl := dpAll_len hys
  refine ⟨_, rfl, _, _, rfl, rfl, _, rfl, q2, ys, rfl, .inl (SqL.of hq), _, _, rfl, rfl, _, _, rfl, rfl, ?_⟩
  refine ⟨_, rfl, _, rfl, (by show 3 ≤ sizeLine; decide), fun t nt => ?_⟩
  have s3 : Same H2 (upd H2 t (.tup [.str "test", x1, .int ((sn : Nat) + 1 + (ys.length : Nat) + 1)])) := same_new nt _
  have et : (upd H2 t (.tup [.str "test", x1, .int ((sn : Nat) + 1 + (ys.length : Nat) + 1)])) t = some (.tup [.str "test", x1, .int ((sn : Nat) + 1 + (ys.length : Nat) + 1)]) := upd_same
  generalize upd H2 t (.tup [.str "test", x1, .int ((sn : Nat) + 1 + (ys.length : Nat) + 1)]) = H3 at s3 et ⊢
  refine ⟨_, rfl, q2, ys, rfl, .inr (SqL.of (s3 _ _ hq)), _, rfl, (by show 2 ≤ sizeLine; decide), fun j nj => ?_⟩
  have s4 : Same H3 (upd H3 j (.tup [.str "jump", .int (sn : Nat)])) := same_new nj _
  have ej : (upd H3 j (.tup [.str "jump", .int (sn : Nat)])) j = some (.tup [.str "jump", .int (sn : Nat)]) := upd_same
  generalize upd H3 j (.tup [.str "jump", .int (sn : Nat)]) = H4 at s4 ej ⊢
  refine ⟨?_, fun r nr => ?_⟩
  · show (ys ++ [V.ref j]).length + 1 ≤ sizeLine
    rw [List.length_append]
    exact Nat.le_of_lt (Nat.lt_of_le_of_lt (by show ys.length + 1 + 1 ≤ 1000; omega : _ ≤ 1000) (by decide))
  have s5 : Same H4 (upd H4 r (.lst (.ref t :: (ys ++ [.ref j])))) := same_new nr _
  have s14 := s12.trans (s3.trans s4)
  refine q _ r _ (s14.trans s5) (s14.free nr) upd_same ?_
  refine .cons (.tup (SqT.of (s5 _ _ (s4 _ _ et))) (.cons (.str _) (.cons (dp_mono (s14.trans s5) _ _ hx1) (.cons ?_ .nil)))) (dpAll_append (dpAll_mono (s3.trans (s4.trans s5)) _ _ hys) (.cons (.tup (SqT.of (s5 _ _ ej)) (.cons (.str _) (.cons (.int _) .nil))) .nil))
  rw [← yl]
  exact .int _
theorem scIC : FnScope ["statement", "start", "condition", "first", "second", "inside", "behind", "otherwise", "end"] ["statement", "start"] (defScope sIC) := ⟨rfl, rfl, rfl, by decide +kernel, rfl, by decide +kernel, by decide +kernel⟩
theorem ok_IC {f : Addr} {fd : FuncData} {lv n : Nat} (F : Fun K "if_code" "if_code" sIC f fd) (T : Gs K mg) (CB : Cal P w K mg base lv "body_code" ["body", "start"] (spBC K n)) :
    FnOk P w K mg base CX0 (lv + 1) f fd ["statement", "start"] (spIC K n) := by
  refine F.ok scIC (fun vs H Q E h => ?_) (fun cdv A outer s H vs Q E hr h => ?_)
  · obtain ⟨v, co, b1, b2, k, c1, c2, sn, rfl, _⟩ := h
    rfl
  obtain ⟨v, co, b1, b2, k, c1, c2, sn, rfl, hd, lb1, lb2, nco, nb1, nb2, hbc1, hbc2, hc1, hc2, q⟩ := h
  refine ⟨_, pss_cons (ps_asg (pe_slice sl_tup (pv 0) (po_some pe_int) po_none) (pg_tup (by rfl) (pgs_cons (pg_name (i := 2) scIC.nd rfl (.inl rfl)) (pgs_cons (pg_name (i := 3) scIC.nd rfl (.inl rfl)) (pgs_cons (pg_name (i := 4) scIC.nd rfl (.inl rfl)) pgs_nil)))))
    (pss_cons (ps_set (i := 5) scIC.nd rfl (.inl rfl) (pe_call CB.G hr rfl CB.m CB.kp CB.b .nil pass0 (pa_cons (pv 3) (pa_cons (pe_op op_add (pv 1) pe_int) pa_nil))))
    (pss_cons (ps_set (i := 6) scIC.nd rfl (.inl rfl) (pe_op op_add (pe_op op_add (pv 1) pe_int) (pe_callB call_len_seq (by rfl) T.len PySem.boot_len (pa_cons (pv 5) pa_nil))))
    (pss_cons (ps_if (pt_cmpR op_eq (pe_callB call_len_seq (by rfl) T.len PySem.boot_len (pa_cons (pv 4) pa_nil)) pe_int (nomark _)) (pss_one (ps_ret (pe_lst (pa_cons (pe_tup (pa_cons pe_str (pa_cons (pv 2) (pa_cons (pv 6) pa_nil)))) (StX.pa_star (pv 5) pa_nil))))) pss_nil)
    (pss_cons (ps_set (i := 7) scIC.nd rfl (.inl rfl) (pe_call CB.G hr rfl CB.m CB.kp CB.b .nil pass0 (pa_cons (pv 4) (pa_cons (pe_op op_add (pv 6) pe_int) pa_nil))))
    (pss_cons (ps_set (i := 8) scIC.nd rfl (.inl rfl) (pe_op op_add (pe_op op_add (pv 6) pe_int) (pe_callB call_len_seq (by rfl) T.len PySem.boot_len (pa_cons (pv 7) pa_nil))))
    (pss_one (ps_ret (pe_lst (pa_cons (pe_tup (pa_cons pe_str (pa_cons (pv 2) (pa_cons (pe_op op_add (pv 6) pe_int) pa_nil)))) (StX.pa_star (pv 5) (pa_cons (pe_tup (pa_cons pe_str (pa_cons (pv 8) pa_nil))) (StX.pa_star (pv 7) pa_nil)))))))))))), ?_⟩
  obtain ⟨a, xs, rfl, hs, ha⟩ := dp_tup_inv hd
  obtain ⟨x0, x1, x2, x3, rfl, hx0, hx1, hx2, hx3⟩ := dp_four ha
  cases hx0
  refine ⟨_, rfl, _, rfl, a, _, rfl, hs, not_whole1 _ _, fun p np => ?_⟩
  rw [cut1]
  have s1 : Same H (upd H p (.tup [x1, x2, x3])) := same_new np _
  refine ⟨p, _, rfl, SqT.of upd_same, rfl, _, _, rfl, _, _, rfl, _, _, rfl, rfl, ?_⟩
  generalize upd H p (.tup [x1, x2, x3]) = H1 at s1 ⊢
  refine ⟨_, rfl, _, rfl, _, _, rfl, rfl, x2, b1, k, c1, sn + 1, rfl, dp_mono s1 _ _ hx2, lb1, nb1, hbc1, hc1, fun H2 q2 ys s2 nq hq hys => ?_⟩
  have s12 := s1.trans s2
  obtain ⟨cok, clen⟩ := body_code_ok (sn + 1) lb1 hbc1
  have yl := dpAll_len hys
  refine ⟨_, rfl, _, _, rfl, rfl, _, rfl, q2, ys, rfl, .inl (SqL.of hq), _, _, rfl, rfl, ?_⟩
  obtain ⟨ss2, rfl⟩ := body_tuple hbc2
  obtain ⟨a2, xs2, rfl, hs2, ha2⟩ := dp_tup_inv hx3
  have hl2 := dpAll_len ha2
  refine ⟨_, rfl, a2, xs2, rfl, .inr (Same.tup s12 hs2), rfl, _, rfl, ?_⟩
  unfold ifC at q
  by_cases h0 : ss2 = []
  · subst h0
    have xz : xs2.length = 0 := hl2
    refine ite2 (fun _ => ?_) (fun c => absurd (decide_eq_true (by rw [xz]; rfl)) c)
    rw [if_pos (show isNil (.tuple []) = true from rfl)] at q
    refine ⟨_, rfl, _, rfl, (by show 3 ≤ sizeLine; decide), fun t nt => ?_⟩
    have s3 : Same H2 (upd H2 t (.tup [.str "test", x1, .int ((sn : Nat) + 1 + (ys.length : Nat))])) := same_new nt _
    have et : (upd H2 t (.tup [.str "test", x1, .int ((sn : Nat) + 1 + (ys.length : Nat))])) t = some (.tup [.str "test", x1, .int ((sn : Nat) + 1 + (ys.length : Nat))]) := upd_same
    generalize upd H2 t (.tup [.str "test", x1, .int ((sn : Nat) + 1 + (ys.length : Nat))]) = H3 at s3 et ⊢
    refine ⟨_, rfl, q2, ys, rfl, .inr (SqL.of (s3 _ _ hq)), ?_, fun r nr => ?_⟩
    · show (ys ++ []).length + 1 ≤ sizeLine
      rw [List.append_nil]
      exact Nat.le_of_lt (Nat.lt_of_le_of_lt (by show ys.length + 1 ≤ 1000; omega : _ ≤ 1000) (by decide))
    have s13 := s12.trans s3
    have s5 : Same H3 (upd H3 r (.lst (.ref t :: (ys ++ [])))) := same_new nr _
    refine q _ r _ (s13.trans s5) (s13.free nr) upd_same ?_
    refine .cons (.tup (SqT.of (s5 _ _ et)) (.cons (.str _) (.cons (dp_mono (s13.trans s5) _ _ hx1) (.cons ?_ .nil)))) (by rw [List.append_nil] at s5 ⊢; exact dpAll_mono (s3.trans s5) _ _ hys)
    rw [← yl]
    exact .int _
  · have hnil : isNil (.tuple ss2) = false := by
      cases ss2 with
      | nil => exact absurd rfl h0
      | cons _ _ => rfl
    rw [if_neg (by rw [hnil]; decide)] at q
    have xnz : ¬ xs2.length = 0 := fun e => h0 (List.length_eq_zero_iff.mp (by omega))
    refine ite2 (fun c => absurd (of_decide_eq_true c) (fun e => xnz (by injection e with e; omega))) (fun _ => ?_)
    refine ⟨_, rfl, _, rfl, _, _, rfl, rfl, _, .tuple ss2, k, c2, sn + 1 + ys.length + 1, rfl, dp_mono s12 _ _ hx3, lb2, nb2, hbc2, hc2, fun H3 q3 zs s3 nq3 hq3 hzs => ?_⟩
    have s13 := s12.trans s3
    obtain ⟨cok2, clen2⟩ := body_code_ok (sn + 1 + ys.length + 1) lb2 hbc2
    have zl := dpAll_len hzs
    refine ⟨_, rfl, _, _, rfl, rfl, _, rfl, q3, zs, rfl, .inl (SqL.of hq3), _, _, rfl, rfl, ?_⟩
    refine ⟨_, rfl, _, rfl, _, _, rfl, rfl, (by show 3 ≤ sizeLine; decide), fun t nt => ?_⟩
    have s4 : Same H3 (upd H3 t (.tup [.str "test", x1, .int ((sn : Nat) + 1 + (ys.length : Nat) + 1)])) := same_new nt _
    have et : (upd H3 t (.tup [.str "test", x1, .int ((sn : Nat) + 1 + (ys.length : Nat) + 1)])) t = some (.tup [.str "test", x1, .int ((sn : Nat) + 1 + (ys.length : Nat) + 1)]) := upd_same
    generalize upd H3 t (.tup [.str "test", x1, .int ((sn : Nat) + 1 + (ys.length : Nat) + 1)]) = H4 at s4 et ⊢
    refine ⟨_, rfl, q2, ys, rfl, .inr (SqL.of (s4 _ _ (s3 _ _ hq))), _, rfl, (by show 2 ≤ sizeLine; decide), fun j nj => ?_⟩
    have s5 : Same H4 (upd H4 j (.tup [.str "jump", .int ((sn : Nat) + 1 + (ys.length : Nat) + 1 + (zs.length : Nat))])) := same_new nj _
    have ej : (upd H4 j (.tup [.str "jump", .int ((sn : Nat) + 1 + (ys.length : Nat) + 1 + (zs.length : Nat))])) j = some (.tup [.str "jump", .int ((sn : Nat) + 1 + (ys.length : Nat) + 1 + (zs.length : Nat))]) := upd_same
    generalize upd H4 j (.tup [.str "jump", .int ((sn : Nat) + 1 + (ys.length : Nat) + 1 + (zs.length : Nat))]) = H5 at s5 ej ⊢
    refine ⟨_, rfl, q3, zs, rfl, .inr (SqL.of (s5 _ _ (s4 _ _ hq3))), ?_, fun r nr => ?_⟩
    · show (ys ++ V.ref j :: (zs ++ [])).length + 1 ≤ sizeLine
      rw [List.append_nil, List.length_append, List.length_cons]
      exact Nat.le_of_lt (Nat.lt_of_le_of_lt (by omega : _ ≤ 1000) (by decide))
    have s15 := s13.trans (s4.trans s5)
    rw [List.append_nil]
    have s6 : Same H5 (upd H5 r (.lst (.ref t :: (ys ++ .ref j :: zs)))) := same_new nr _
    refine q _ r _ (s15.trans s6) (s15.free nr) upd_same ?_
    rw [← yl, ← zl]
    exact .cons (.tup (SqT.of (s6 _ _ (s5 _ _ et))) (.cons (.str _) (.cons (dp_mono (s15.trans s6) _ _ hx1) (.cons (.int _) .nil)))) (dpAll_append (dpAll_mono (s3.trans (s4.trans (s5.trans s6))) _ _ hys) (.cons (.tup (SqT.of (s6 _ _ ej)) (.cons (.str _) (.cons (.int _) .nil))) (dpAll_mono (s4.trans (s5.trans s6)) _ _ hzs)))
theorem none_SC {f : Addr} {fd : FuncData} (lv : Nat) : FnOk P w K mg base CX0 lv f fd ["statement", "start"] (fun vs H Q E => 0 ≠ 0 ∧ spSC K (0 - 1) vs H Q E) :=
  ⟨fun vs H Q E h => absurd rfl h.1, fun A outer s H args us vs Q E _ _ _ _ h => absurd rfl h.1⟩
theorem recC {fB fS fW fI : Addr} {dB dS dW dI : FuncData} (FB : Fun K "body_code" "body_code" sBC fB dB) (bB : Binds K dB ["body", "start"] []) (mB : mg "body_code" = some (.ref fB))
    (FS : Fun K "statement_code" "statement_code" sSC fS dS) (bS : Binds K dS ["statement", "start"] []) (mS : mg "statement_code" = some (.ref fS))
    (FW : Fun K "while_code" "while_code" sWC fW dW) (bW : Binds K dW ["statement", "start"] []) (mW : mg "while_code" = some (.ref fW))
    (FI : Fun K "if_code" "if_code" sIC fI dI) (bI : Binds K dI ["statement", "start"] []) (mI : mg "if_code" = some (.ref fI)) (T : Gs K mg) :
    ∀ n : Nat, FnOk P w K mg base CX0 (2 + 3 * n) fB dB ["body", "start"] (spBC K n)
  | 0 => ok_BC (lv := 1) FB T ⟨fS, dS, none_SC 1, bS, FS.kp, mS⟩
  | n + 1 => by
    have ih := recC FB bB mB FS bS mS FW bW mW FI bI mI T n
    have cb : Cal P w K mg base (2 + 3 * n) "body_code" ["body", "start"] (spBC K n) := ⟨fB, dB, ih, bB, FB.kp, mB⟩
    have st := ok_SC (lv := 2 + 3 * n + 1) FS ⟨fW, dW, ok_WC FW T cb, bW, FW.kp, mW⟩ ⟨fI, dI, ok_IC FI T cb, bI, FI.kp, mI⟩
    have st2 : FnOk P w K mg base CX0 (2 + 3 * n + 1 + 1) fS dS ["statement", "start"] (fun vs H Q E => n + 1 ≠ 0 ∧ spSC K (n + 1 - 1) vs H Q E) :=
      ⟨fun vs H Q E h => st.len vs H Q E h.2, fun A outer s H args us vs Q E h1 h2 h3 h4 h => st.run A outer s H args us vs Q E h1 h2 h3 h4 h.2⟩
    exact ok_BC (lv := 2 + 3 * n + 1 + 1) (n := n + 1) FB T ⟨fS, dS, st2, bS, FS.kp, mS⟩
end
abbrev sAsm : Stmt := top 41
abbrev sRefused : Stmt := top 84
abbrev sLaw : Stmt := top 85
theorem roles_test (k : Str) : rolesZ "test" k = none := by
  unfold rolesZ
  rw [if_neg (by decide +kernel), if_neg (by decide +kernel), if_neg (by decide +kernel)]
  split
  · rw [if_neg (by decide +kernel), if_neg (by decide +kernel)]
  · rw [if_neg (by decide +kernel), if_neg (by decide +kernel)]
theorem roles_jump (k : Str) : rolesZ "jump" k = none := by
  unfold rolesZ
  rw [if_neg (by decide +kernel), if_neg (by decide +kernel), if_neg (by decide +kernel)]
  split
  · rw [if_neg (by decide +kernel), if_neg (by decide +kernel)]
  · rw [if_neg (by decide +kernel), if_neg (by decide +kernel)]
def spRight7 (K : PySem.W.Frag) : Sp := fun vs H Q _ => ∃ (p r : Addr) (xs ys : List V) (ds : List PyData), vs = [.ref p, .ref r] ∧ H p = some (.lst xs) ∧ H r = some (.lst ys) ∧ DpAll K H xs ds ∧ DpAll K H ys ds ∧ (∀ i ∈ ds, okI i) ∧ ∀ H', Same H H' → Q (.bl true) H'
def spAsm (K : PySem.W.Frag) : Sp := fun vs H Q _ => ∃ (v : V) (k : Str) (d : PyData), vs = [v] ∧ Dp K H v (.tuple [.str k, d]) ∧ Lay (.tuple [.str k, d]) ∧ noL d = true ∧ isProg (.tuple [.str k, d]) = true ∧
  ∀ H' p xs, Same H H' → H p = none → H' p = some (.lst xs) → DpAll K H' xs (bodyC 4 0 d) → Q (.ref p) H'
theorem shaped_code {ds : List PyData} (h : ∀ i ∈ ds, okI i) : SeqAt.shaped (.list ds) = true := by
  show ((PyData.list ds).canLay0 && decide ((PyData.list ds).depth ≤ 64)) = true
  rw [Bool.and_eq_true]
  refine ⟨?_, decide_eq_true ?_⟩
  · simp only [PyData.canLay0]; exact lay_all fun d m => (h d m).2.1
  · have := depth_all (n := 2) fun d m => (h d m).2.2.1
    simp only [PyData.depth]
    omega
section
variable {P : Program} {w : World} {K : PySem.W.Frag} {mg : Str → Option Value} {base : Heap}
theorem scAsm : FnScope ["program"] ["program"] (defScope sAsm) := ⟨rfl, rfl, rfl, by decide +kernel, rfl, by decide +kernel, by decide +kernel⟩
theorem ok_asm {f : Addr} {fd : FuncData} (F : Fun K "assemble" "assemble" sAsm f fd) (CP : Cal P w K mg base 7 "is_program" ["thing"] (spProg K)) (CB : Cal P w K mg base 14 "body_code" ["body", "start"] (spBC K 4)) : FnOk P w K mg base CX0 15 f fd ["program"] (spAsm K) := by
  refine F.ok scAsm (fun vs H Q E h => ?_) (fun cdv A outer s H vs Q E hr h => ?_)
  · obtain ⟨v, k, d, rfl, _⟩ := h
    rfl
  obtain ⟨v, k, d, rfl, hd, ld, nd, hp, q⟩ := h
  have hr6 : Room 7 _ := hr.mono (by decide)
  refine ⟨_, pss_cons (ps_if (pt_not (pt_val (pe_call CP.G hr6 rfl CP.m CP.kp CP.b .nil pass0 (pa_cons (pv 0) pa_nil)))) (pss_one ps_never) pss_nil)
    (pss_one (ps_ret (pe_call CB.G hr rfl CB.m CB.kp CB.b .nil pass0 (pa_cons (pe_ix ix_tup (pv 0) pe_int (fun _ _ => rfl)) (pa_cons pe_int pa_nil))))), ?_⟩
  refine ⟨_, rfl, v, _, rfl, hd, ld, fun H1 s1 => ⟨_, rfl, ?_⟩⟩
  rw [hp]
  obtain ⟨a, xs, rfl, hs, ha⟩ := dp_tup_inv hd
  obtain ⟨x0, x1, d0, d1, rfl, e, hx0, hx1⟩ := dp_two ha rfl
  injection e with e0 e
  injection e with e1 e
  subst e0 e1
  have h' : (inS (.str k) kinds && okN 0 (bodyN k 4 d)) = true := hp
  rw [Bool.and_eq_true] at h'
  cases hb : bodyN k 4 d with
  | none => rw [hb] at h'; cases h'.2
  | some c =>
    rw [hb] at h'
    have hc : 0 + c ≤ 24 := of_decide_eq_true h'.2
    refine iteF ⟨_, rfl, a, _, _, _, rfl, rfl, Same.tup s1 hs, atI_nat (j := 1) rfl, x1, d, k, c, 0, rfl, dp_mono s1 _ _ hx1, lay_mem (lay_tup ld) _ (by simp), nd, hb, by omega, fun H2 p ys s2 np e2 hys => ?_⟩
    exact q _ p _ (s1.trans s2) (s1.free np) e2 hys
end
/-- an instruction -/
inductive Ins where
  | set (v : Str) (n : Int)
  | add (v : Str) (t : PyData)
  | wait (n : Int)
  | ask (g : Str) (t : PyData) (v : Str)
  | ans (n : Int)
  | grow (t : PyData)
  | lst (t : PyData)
  | test (c : PyData) (t : Nat)
  | jump (t : Nat)
def Ins.toD : Ins → PyData
  | .set v n => .tuple [.str "set", .str v, .int n]
  | .add v t => .tuple [.str "add", .str v, t]
  | .wait n => .tuple [.str "wait", .int n]
  | .ask g t v => .tuple [.str "ask", .str g, t, .str v]
  | .ans n => .tuple [.str "answer", .int n]
  | .grow t => .tuple [.str "grow", t]
  | .lst t => .tuple [.str "list", t]
  | .test c t => insT c t
  | .jump t => insJ t
def okV (v : Str) : Prop := v = "a" ∨ v = "b"
def Ins.ok (k : Str) : Ins → Prop
  | .set v n => okV v ∧ 0 ≤ n ∧ n ≤ 15
  | .add v t => okV v ∧ isTerm t = true
  | .wait n => 1 ≤ n ∧ n ≤ longest
  | .ask g t v => k = "teller" ∧ (g = "+" ∨ g = "-" ∨ g = "=") ∧ isTerm t = true ∧ okV v
  | .ans n => k = "teller" ∧ (n = 0 ∨ n = 1)
  | .grow t => ¬ k = "teller" ∧ isTerm t = true
  | .lst t => ¬ k = "teller" ∧ isTerm t = true
  | .test c _ => isCond c = true
  | .jump _ => True
theorem inS_var {d : PyData} (h : inS d vars = true) : ∃ v, d = .str v ∧ okV v := by
  cases d with
  | str z =>
    have h' : (vars : List Str).any (· == z) = true := h
    simp only [vars, List.any_cons, List.any_nil, Bool.or_false, Bool.or_eq_true, beq_iff_eq] at h'
    exact ⟨z, rfl, h'.elim (fun e => .inl e.symm) (fun e => .inr e.symm)⟩
  | _ => cases h
theorem inS_ask {d : PyData} (h : inS d asks = true) : ∃ g, d = .str g ∧ (g = "+" ∨ g = "-" ∨ g = "=") := by
  cases d with
  | str z =>
    have h' : (asks : List Str).any (· == z) = true := h
    simp only [asks, List.any_cons, List.any_nil, Bool.or_false, Bool.or_eq_true, beq_iff_eq] at h'
    exact ⟨z, rfl, h'.elim (fun e => .inl e.symm) (fun h => .inr (h.elim (fun e => .inl e.symm) (fun e => .inr e.symm)))⟩
  | _ => cases h
theorem inS_sign {d : PyData} (h : inS d signs = true) : ∃ g, d = .str g ∧ (g = "==" ∨ g = "!=" ∨ g = "<") := by
  cases d with
  | str z =>
    have h' : (signs : List Str).any (· == z) = true := h
    simp only [signs, List.any_cons, List.any_nil, Bool.or_false, Bool.or_eq_true, beq_iff_eq] at h'
    exact ⟨z, rfl, h'.elim (fun e => .inl e.symm) (fun h => .inr (h.elim (fun e => .inl e.symm) (fun e => .inr e.symm)))⟩
  | _ => cases h
theorem intIn_cases {d : PyData} {lo hi : Int} (h : intIn d lo hi = true) : ∃ i, d = .int i ∧ lo ≤ i ∧ i ≤ hi := by
  cases d with
  | int i =>
    have h' : (decide (lo ≤ i) && decide (i ≤ hi)) = true := h
    rw [Bool.and_eq_true, decide_eq_true_iff, decide_eq_true_iff] at h'
    exact ⟨i, rfl, h'.1, h'.2⟩
  | _ => cases h
theorem term_cases {d : PyData} (h : isTerm d = true) : (∃ v, d = .str v ∧ okV v) ∨ ∃ i, d = .int i ∧ 0 ≤ i ∧ i ≤ 15 := by
  have h' : (inS d vars || intIn d 0 15) = true := h
  rcases Bool.or_eq_true _ _ ▸ h' with h | h
  · exact .inl (inS_var h)
  · exact .inr (intIn_cases h)
theorem cond_cases {c : PyData} (h : isCond c = true) : ∃ v g t, c = .tuple [.str v, .str g, t] ∧ okV v ∧ (g = "==" ∨ g = "!=" ∨ g = "<") ∧ isTerm t = true := by
  match c, h with
  | .tuple [x, y, z], h =>
    have h' : (inS x vars && inS y signs && isTerm z) = true := h
    rw [Bool.and_eq_true, Bool.and_eq_true] at h'
    obtain ⟨v, rfl, hv⟩ := inS_var h'.1.1
    obtain ⟨g, rfl, hg⟩ := inS_sign h'.1.2
    exact ⟨v, g, z, rfl, hv, hg, h'.2⟩
theorem plain_ins {s : PyData} {k : Str} (h : isPlain s k = true) : ∃ i : Ins, s = i.toD ∧ i.ok k := by
  obtain ⟨z, ps, rs, rfl, hz, hl, hp⟩ := plain_inv h
  unfold rolesZ at hz
  split at hz
  · subst_vars
    cases hz
    match ps, hl, hp with
    | [x, y], _, hp =>
      have h' : isPart x "variable" = true ∧ isPart y "value" = true := by simpa [allParts] using hp
      rw [part_variable, part_value] at h'
      obtain ⟨v, rfl, hv⟩ := inS_var h'.1
      obtain ⟨n, rfl, hn⟩ := intIn_cases h'.2
      exact ⟨.set v n, rfl, hv, hn⟩
  split at hz
  · subst_vars
    cases hz
    match ps, hl, hp with
    | [x, y], _, hp =>
      have h' : isPart x "variable" = true ∧ isPart y "term" = true := by simpa [allParts] using hp
      rw [part_variable, part_term] at h'
      obtain ⟨v, rfl, hv⟩ := inS_var h'.1
      exact ⟨.add v y, rfl, hv, h'.2⟩
  split at hz
  · subst_vars
    cases hz
    match ps, hl, hp with
    | [x], _, hp =>
      have h' : isPart x "steps" = true := by simpa [allParts] using hp
      rw [part_steps] at h'
      obtain ⟨n, rfl, hn⟩ := intIn_cases h'
      exact ⟨.wait n, rfl, hn⟩
  split at hz
  · rename_i hk
    split at hz
    · subst_vars
      cases hz
      match ps, hl, hp with
      | [x, y, v], _, hp =>
        have h' : isPart x "sign" = true ∧ isPart y "term" = true ∧ isPart v "variable" = true := by simpa [allParts] using hp
        rw [part_sign, part_term, part_variable] at h'
        obtain ⟨g, rfl, hg⟩ := inS_ask h'.1
        obtain ⟨z, rfl, hv⟩ := inS_var h'.2.2
        exact ⟨.ask g y z, rfl, rfl, hg, h'.2.1, hv⟩
    · split at hz
      · subst_vars
        cases hz
        match ps, hl, hp with
        | [x], _, hp =>
          have h' : isPart x "answer" = true := by simpa [allParts] using hp
          rw [part_answer] at h'
          obtain ⟨n, rfl, hn⟩ := intIn_cases h'
          exact ⟨.ans n, rfl, rfl, by omega⟩
      · cases hz
  · rename_i hk
    split at hz
    · subst_vars
      cases hz
      match ps, hl, hp with
      | [x], _, hp =>
        have h' : isPart x "term" = true := by simpa [allParts] using hp
        rw [part_term] at h'
        exact ⟨.grow x, rfl, hk, h'⟩
    · split at hz
      · subst_vars
        cases hz
        match ps, hl, hp with
        | [x], _, hp =>
          have h' : isPart x "term" = true := by simpa [allParts] using hp
          rw [part_term] at h'
          exact ⟨.lst x, rfl, hk, h'⟩
      · cases hz
/-- the instructions of a program, read as such -/
theorem code_ins {k : Str} : ∀ {n c : Nat} {d : PyData} (st0 : Nat), bodyN k n d = some c → ∃ is : List Ins, bodyC n st0 d = is.map Ins.toD ∧ ∀ i ∈ is, i.ok k
  | 0, c, d, st0, h => ⟨[], rfl, fun i m => nomatch m⟩
  | n + 1, c, d, st0, h => by
    obtain ⟨ss, rfl⟩ := body_tuple h
    rw [bodyN_tup] at h
    show ∃ is : List Ins, codeL (stC (bodyC n)) st0 ss = is.map Ins.toD ∧ ∀ i ∈ is, i.ok k
    induction ss generalizing st0 c with
    | nil => exact ⟨[], rfl, fun i m => nomatch m⟩
    | cons s r ih =>
      obtain ⟨a, b, e1, e2, _, _⟩ := addO_le (show addO (stN k n s) (sumO (r.map (stN k n))) = some c from h)
      have one : ∃ is : List Ins, stC (bodyC n) st0 s = is.map Ins.toD ∧ ∀ i ∈ is, i.ok k := by
        rcases st_shape e1 with ⟨z, ps, rfl, h1, h2, hp, rfl⟩ | ⟨co, bb, c', rfl, hco, hb, rfl⟩ | ⟨co, b1, b2, c1, c2, rfl, hco, hb1, hb2, rfl⟩
        · rw [stC_plain h1 h2]
          obtain ⟨i, e, hi⟩ := plain_ins hp
          exact ⟨[i], by rw [e]; rfl, fun j m => by rw [List.mem_singleton.mp m]; exact hi⟩
        · rw [stC_while]
          unfold whC
          obtain ⟨is, e, hi⟩ := code_ins (st0 + 1) hb
          refine ⟨.test co (st0 + 1 + (bodyC n (st0 + 1) bb).length + 1) :: (is ++ [.jump st0]), ?_, fun j m => ?_⟩
          · rw [e]
            simp [Ins.toD]
          · simp only [List.mem_cons, List.mem_append, List.not_mem_nil, or_false] at m
            rcases m with rfl | m | rfl
            · exact hco
            · exact hi j m
            · trivial
        · rw [stC_if]
          unfold ifC
          obtain ⟨is, e, hi⟩ := code_ins (st0 + 1) hb1
          split
          · refine ⟨.test co (st0 + 1 + (bodyC n (st0 + 1) b1).length) :: is, ?_, fun j m => ?_⟩
            · rw [e]
              simp [Ins.toD]
            · rcases List.mem_cons.mp m with rfl | m
              · exact hco
              · exact hi j m
          · obtain ⟨js, e', hj⟩ := code_ins (st0 + 1 + (bodyC n (st0 + 1) b1).length + 1) hb2
            refine ⟨.test co (st0 + 1 + (bodyC n (st0 + 1) b1).length + 1) :: (is ++ .jump (st0 + 1 + (bodyC n (st0 + 1) b1).length + 1 + (bodyC n (st0 + 1 + (bodyC n (st0 + 1) b1).length + 1) b2).length) :: js), ?_, fun j m => ?_⟩
            · rw [e', e]
              simp [Ins.toD]
            · simp only [List.mem_cons, List.mem_append] at m
              rcases m with rfl | m | rfl | m
              · exact hco
              · exact hi j m
              · trivial
              · exact hj j m
      obtain ⟨is, e, hi⟩ := one
      obtain ⟨js, e', hj⟩ := ih (st0 := st0 + (stC (bodyC n) st0 s).length) (c := b) e2
      refine ⟨is ++ js, ?_, fun j m => ?_⟩
      · simp only [codeL]
        rw [e', e, List.map_append]
      · rcases List.mem_append.mp m with m | m
        · exact hi j m
        · exact hj j m
/-! ### what an instruction does -/
def vget (a b : Int) (v : Str) : Int := if v = "a" then a else b
def tval (a b : Int) : PyData → Int
  | .str z => vget a b z
  | .int i => i
  | _ => 0
def cval (a b : Int) : PyData → Bool
  | .tuple [.str v, .str g, t] => if g = "==" then decide (vget a b v = tval a b t) else if g = "!=" then !decide (vget a b v = tval a b t) else decide (vget a b v < tval a b t)
  | _ => false
def Ins.cost : Ins → Int
  | .wait n => n
  | _ => 1
def Ins.next (pc : Nat) (a b : Int) : Ins → Nat
  | .jump t => t
  | .test c t => if cval a b c = true then pc + 1 else t
  | _ => pc + 1
def vput (v : Str) (n : Int) (p : Int × Int) : Int × Int := if v = "a" then (n, p.2) else (p.1, n)
def Ins.held (a b : Int) : Ins → Int × Int
  | .set v n => vput v n (a, b)
  | .add v t => vput v ((vget a b v + tval a b t) % 16) (a, b)
  | _ => (a, b)
def Ins.grown (a b : Int) : Ins → Int
  | .grow t => tval a b t
  | _ => 0
def place (x a b : Int) (g : Str) (t : PyData) : Int := if g = "+" then x + tval a b t else if g = "-" then x - tval a b t else tval a b t
def in16 (a b : Int) : Prop := (0 ≤ a ∧ a ≤ 15) ∧ 0 ≤ b ∧ b ≤ 15
theorem vput16 {v : Str} {n a b : Int} (h : in16 a b) (h0 : 0 ≤ n) (h1 : n ≤ 15) : in16 (vput v n (a, b)).1 (vput v n (a, b)).2 := by
  unfold vput
  split
  · exact ⟨⟨h0, h1⟩, h.2⟩
  · exact ⟨h.1, h0, h1⟩
theorem held16 {k : Str} {i : Ins} {a b : Int} (hi : i.ok k) (h : in16 a b) : in16 (i.held a b).1 (i.held a b).2 := by
  cases i with
  | set v n => exact vput16 h hi.2.1 hi.2.2
  | add v t => exact vput16 h (Int.emod_nonneg _ (by decide)) (by have := Int.emod_lt_of_pos (vget a b v + tval a b t) (by decide : (0 : Int) < 16); omega)
  | _ => exact h
theorem vget16 {a b : Int} (h : in16 a b) (v : Str) : 0 ≤ vget a b v ∧ vget a b v ≤ 15 := by
  unfold vget
  split
  · exact h.1
  · exact h.2
theorem tval16 {a b : Int} (h : in16 a b) {t : PyData} (ht : isTerm t = true) : 0 ≤ tval a b t ∧ tval a b t ≤ 15 := by
  rcases term_cases ht with ⟨v, rfl, _⟩ | ⟨i, rfl, h0, h1⟩
  · exact vget16 h v
  · exact ⟨h0, h1⟩
theorem cost_pos {k : Str} {i : Ins} (h : i.ok k) : 1 ≤ i.cost ∧ i.cost ≤ longest := by
  cases i with
  | wait n => exact h
  | _ => exact ⟨Int.le_refl _, by show (1 : Int) ≤ longest; decide⟩
abbrev sCost : Stmt := top 47
abbrev sWorth : Stmt := inClass (top 48) 3
abbrev sTrue : Stmt := inClass (top 48) 4
abbrev sFol : Stmt := inClass (top 48) 6
def Ins.word : Ins → Str
  | .set _ _ => "set"
  | .add _ _ => "add"
  | .wait _ => "wait"
  | .ask _ _ _ => "ask"
  | .ans _ => "answer"
  | .grow _ => "grow"
  | .lst _ => "list"
  | .test _ _ => "test"
  | .jump _ => "jump"
def Ins.parts : Ins → List PyData
  | .set v n => [.str v, .int n]
  | .add v t => [.str v, t]
  | .wait n => [.int n]
  | .ask g t v => [.str g, t, .str v]
  | .ans n => [.int n]
  | .grow t => [t]
  | .lst t => [t]
  | .test c t => [c, .int (t : Nat)]
  | .jump t => [.int (t : Nat)]
theorem toD_eq (i : Ins) : i.toD = .tuple (.str i.word :: i.parts) := by cases i <;> rfl
theorem ins_inv {K : PySem.W.Frag} {H : Hp} {v : V} {i : Ins} (h : Dp K H v i.toD) : ∃ p xr, v = .ref p ∧ SqT K H p (.str i.word :: xr) ∧ DpAll K H xr i.parts := by
  rw [toD_eq] at h
  obtain ⟨p, xs, rfl, hs, ha⟩ := dp_tup_inv h
  cases ha with
  | cons h0 t =>
    cases h0
    exact ⟨p, _, rfl, hs, t⟩
theorem dp_solo {K : PySem.W.Frag} {H : Hp} {xs : List V} {d : PyData} (h : DpAll K H xs [d]) : ∃ x, xs = [x] ∧ Dp K H x d := by
  cases h with
  | cons h0 t => cases t; exact ⟨_, rfl, h0⟩
theorem dp_pair {K : PySem.W.Frag} {H : Hp} {xs : List V} {d e : PyData} (h : DpAll K H xs [d, e]) : ∃ x y, xs = [x, y] ∧ Dp K H x d ∧ Dp K H y e := by
  cases h with
  | cons h0 t =>
    obtain ⟨y, rfl, h1⟩ := dp_solo t
    exact ⟨_, _, rfl, h0, h1⟩
theorem dp_trip {K : PySem.W.Frag} {H : Hp} {xs : List V} {d e f : PyData} (h : DpAll K H xs [d, e, f]) : ∃ x y z, xs = [x, y, z] ∧ Dp K H x d ∧ Dp K H y e ∧ Dp K H z f := by
  cases h with
  | cons h0 t =>
    obtain ⟨y, z, rfl, h1, h2⟩ := dp_pair t
    exact ⟨_, _, _, rfl, h0, h1, h2⟩
/-! ### the object of a walk -/
def wf (cd hd sn : Addr) (pc : Nat) (ct t : Int) (ex : List (Str × V)) : List (Str × V) := ("code", .ref cd) :: ("at", .int pc) :: ("held", .ref hd) :: ("counter", .int ct) :: ("taken", .int t) :: ("seen", .ref sn) :: ex
def hv (a b : Int) : List (Key × V) := [(Sum.inr "a", .int a), (Sum.inr "b", .int b)]
theorem hv_get {v : Str} (h : okV v) (a b : Int) : valV (hv a b) (Sum.inr v : Key) = some (V.int (vget a b v)) := by
  rcases h with rfl | rfl
  · rfl
  · rfl
theorem hv_put {v : Str} (h : okV v) (a b n : Int) : putK (hv a b) (Sum.inr v : Key) (V.int n) = hv (vput v n (a, b)).1 (vput v n (a, b)).2 := by
  rcases h with rfl | rfl
  · rfl
  · rfl
/-- what the top has written of a class of walks -/
structure WC (K : PySem.W.Frag) (C : Addr) : Prop where
  cl : Cls K C
  nCode : NoAttr K C "code"
  nAt : NoAttr K C "at"
  nHeld : NoAttr K C "held"
  nCnt : NoAttr K C "counter"
  nTak : NoAttr K C "taken"
  nSeen : NoAttr K C "seen"
/-- a method of a class -/
structure MCal (P : Program) (w : World) (K : PySem.W.Frag) (mg : Str → Option Value) (base : Heap) (k : Nat) (C : Addr) (x : Str) (ps : List Str) (sp : Sp) where
  f : Addr
  fd : FuncData
  G : FnOk P w K mg base CX0 k f fd ps sp
  b : Binds K fd ps []
  m : Meth K C x f
/-- no further attribute of the object hides a method -/
def noM (ex : List (Str × V)) : Prop := ex.lookup ("worth" : Str) = none ∧ ex.lookup ("is_true" : Str) = none ∧ ex.lookup ("follower" : Str) = none ∧ ex.lookup ("earlier" : Str) = none ∧ ex.lookup ("upcoming" : Str) = none ∧ ex.lookup ("take" : Str) = none ∧ ex.length ≤ 10
/-- a walk stands at wk -/
structure WkA (K : PySem.W.Frag) (H : Hp) (C wk dx cd hd sn : Addr) (pc : Nat) (a b ct t : Int) (ex : List (Str × V)) : Prop where
  ob : H wk = some (.ins C dx (wf cd hd sn pc ct t ex))
  hl : H hd = some (.dK (hv a b))
def spWorth (K : PySem.W.Frag) (C : Addr) : Sp := fun vs H Q _ => ∃ (wk dx cd hd sn : Addr) (pc : Nat) (a b ct t : Int) (ex : List (Str × V)) (v : V) (d : PyData), vs = [.ref wk, v] ∧ WkA K H C wk dx cd hd sn pc a b ct t ex ∧ Dp K H v d ∧ isTerm d = true ∧ Q (.int (tval a b d)) H
def spTrue (K : PySem.W.Frag) (C : Addr) : Sp := fun vs H Q _ => ∃ (wk dx cd hd sn : Addr) (pc : Nat) (a b ct t : Int) (ex : List (Str × V)) (v : V) (d : PyData), vs = [.ref wk, v] ∧ WkA K H C wk dx cd hd sn pc a b ct t ex ∧ noM ex ∧ Dp K H v d ∧ isCond d = true ∧ Q (.bl (cval a b d)) H
def spFol (K : PySem.W.Frag) (C : Addr) : Sp := fun vs H Q _ => ∃ (wk dx cd hd sn : Addr) (pc : Nat) (a b ct t : Int) (ex : List (Str × V)) (v : V) (i : Ins) (k : Str), vs = [.ref wk, v] ∧ WkA K H C wk dx cd hd sn pc a b ct t ex ∧ noM ex ∧ Dp K H v i.toD ∧ i.ok k ∧ Q (.int (i.next pc a b : Nat)) H
def spCost (K : PySem.W.Frag) : Sp := fun vs H Q _ => ∃ (v : V) (i : Ins), vs = [v] ∧ Dp K H v i.toD ∧ Q (.int i.cost) H
section
variable {P : Program} {w : World} {K : PySem.W.Frag} {mg : Str → Option Value} {base : Heap}
theorem scCost : FnScope ["instruction"] ["instruction"] (defScope sCost) := ⟨rfl, rfl, rfl, by decide +kernel, rfl, by decide +kernel, by decide +kernel⟩
theorem ok_cost {f : Addr} {fd : FuncData} (F : Fun K "cost" "cost" sCost f fd) : FnOk P w K mg base CX0 1 f fd ["instruction"] (spCost K) := by
  refine F.ok scCost (fun vs H Q E h => ?_) (fun cdv A outer s H vs Q E hr h => ?_)
  · obtain ⟨v, i, rfl, _⟩ := h
    rfl
  obtain ⟨v, i, rfl, hd, q⟩ := h
  refine ⟨_, pss_one (ps_ret (pe_ifExp (pt_cmpR op_eq (pe_ix ix_tup (pv 0) pe_int (fun _ _ => rfl)) pe_str (nomark _)) (pe_ix ix_tup (pv 0) pe_int (fun _ _ => rfl)) pe_int)), ?_⟩
  obtain ⟨p, xr, rfl, hs, ha⟩ := ins_inv hd
  refine ⟨_, rfl, p, _, _, _, rfl, rfl, hs, atI_nat (j := 0) rfl, rfl, _, rfl, ?_⟩
  cases i with
  | wait n =>
    obtain ⟨x, rfl, hx⟩ := dp_solo ha
    cases hx
    exact strT ⟨_, rfl, p, _, _, _, rfl, rfl, hs, atI_nat (j := 1) rfl, q⟩
  | set v n => exact strF (by simp only [Ins.word]; decide +kernel) q
  | add v n => exact strF (by simp only [Ins.word]; decide +kernel) q
  | ask g t v => exact strF (by simp only [Ins.word]; decide +kernel) q
  | ans n => exact strF (by simp only [Ins.word]; decide +kernel) q
  | grow n => exact strF (by simp only [Ins.word]; decide +kernel) q
  | lst n => exact strF (by simp only [Ins.word]; decide +kernel) q
  | test n t => exact strF (by simp only [Ins.word]; decide +kernel) q
  | jump n => exact strF (by simp only [Ins.word]; decide +kernel) q
theorem scWorth : FnScope ["self", "term"] ["self", "term"] (defScope sWorth) := ⟨rfl, rfl, rfl, by decide +kernel, rfl, by decide +kernel, by decide +kernel⟩
theorem ok_worth {f C : Addr} {fd : FuncData} (F : Fun K "worth" "Walk.worth" sWorth f fd) (T : Gs K mg) (W : WC K C) : FnOk P w K mg base CX0 1 f fd ["self", "term"] (spWorth K C) := by
  refine F.ok scWorth (fun vs H Q E h => ?_) (fun cdv A outer s H vs Q E hr h => ?_)
  · obtain ⟨wk, dx, cd, hd, sn, pc, a, b, ct, t, ex, v, d, rfl, _⟩ := h
    rfl
  obtain ⟨wk, dx, cd, hd, sn, pc, a, b, ct, t, ex, v, d, rfl, hw, hdv, ht, q⟩ := h
  have hu := hu_of hr
  refine ⟨_, pss_one (ps_ret (pe_ifExp (pt_val (pe_callB call_isi (by rfl) T.isi (by decide +kernel) (pa_cons (pv 1) (pa_cons (pe_bltn (v := .ty "str") (by rfl) T.str (by decide +kernel) rfl) pa_nil)))) (pe_dget hu (pe_fld (pv 0) rfl) (pv 1) (fun _ _ => rfl)) (pv 1))), ?_⟩
  refine ⟨_, rfl, v, .ty "str", _, _, _, rfl, .ty _, dp_ty hdv, kit_isT d (by simp) (dp_nd hdv), _, rfl, ?_⟩
  rcases term_cases ht with ⟨z, rfl, hz⟩ | ⟨i, rfl, h0, h1⟩
  · cases hdv
    exact iteT ⟨_, rfl, wk, C, dx, _, _, rfl, hw.ob, W.cl, W.nHeld, rfl, _, rfl, hd, _, rfl, (by show DGet H hd (.str z) (some (.int (vget a b z))); rw [← hv_get hz a b]; exact DGet.k (k := Sum.inr z) hw.hl), q⟩
  · cases hdv
    exact iteF ⟨_, rfl, q⟩
theorem scTrue : FnScope ["self", "condition", "variable", "sign", "term"] ["self", "condition"] (defScope sTrue) := ⟨rfl, rfl, rfl, by decide +kernel, rfl, by decide +kernel, by decide +kernel⟩
theorem ok_true {f C : Addr} {fd : FuncData} (F : Fun K "is_true" "Walk.is_true" sTrue f fd) (W : WC K C) (MW : MCal P w K mg base 1 C "worth" ["self", "term"] (spWorth K C)) : FnOk P w K mg base CX0 2 f fd ["self", "condition"] (spTrue K C) := by
  refine F.ok scTrue (fun vs H Q E h => ?_) (fun cdv A outer s H vs Q E hr h => ?_)
  · obtain ⟨wk, dx, cd, hd, sn, pc, a, b, ct, t, ex, v, d, rfl, _⟩ := h
    rfl
  obtain ⟨wk, dx, cd, hd, sn, pc, a, b, ct, t, ex, v, d, rfl, hw, hn, hdv, hc, q⟩ := h
  have hu := hu_of hr
  refine ⟨_, pss_cons (ps_asg (pv 1) (pg_tup (by rfl) (pgs_cons (pg_name (i := 2) scTrue.nd rfl (.inl rfl)) (pgs_cons (pg_name (i := 3) scTrue.nd rfl (.inl rfl)) (pgs_cons (pg_name (i := 4) scTrue.nd rfl (.inl rfl)) pgs_nil)))))
    (pss_cons (ps_if (pt_cmpR op_eq (pv 3) pe_str (nomark _)) (pss_one (ps_ret (pe_cmpR op_eq (pe_dget hu (pe_fld (pv 0) rfl) (pv 2) (fun _ _ => rfl)) (pe_meth (pv 0) W.cl MW.m MW.G hr MW.b .nil pass0 (pa_cons (pv 4) pa_nil)) (nomark _)))) pss_nil)
    (pss_cons (ps_if (pt_cmpR op_eq (pv 3) pe_str (nomark _)) (pss_one (ps_ret (pe_cmpR op_ne (pe_dget hu (pe_fld (pv 0) rfl) (pv 2) (fun _ _ => rfl)) (pe_meth (pv 0) W.cl MW.m MW.G hr MW.b .nil pass0 (pa_cons (pv 4) pa_nil)) (nomark _)))) pss_nil)
    (pss_one (ps_ret (pe_cmpR op_lt (pe_dget hu (pe_fld (pv 0) rfl) (pv 2) (fun _ _ => rfl)) (pe_meth (pv 0) W.cl MW.m MW.G hr MW.b .nil pass0 (pa_cons (pv 4) pa_nil)) (nomark _)))))), ?_⟩
  obtain ⟨v0, g, t0, rfl, hv0, hg, ht⟩ := cond_cases hc
  obtain ⟨p, xs, rfl, hs, ha⟩ := dp_tup_inv hdv
  obtain ⟨x, y, z, rfl, hx, hy, hz⟩ := dp_trip ha
  cases hx
  cases hy
  have eC : cval a b (.tuple [.str v0, .str g, t0]) = (if g = "==" then decide (vget a b v0 = tval a b t0) else if g = "!=" then !decide (vget a b v0 = tval a b t0) else decide (vget a b v0 < tval a b t0)) := rfl
  rw [eC] at q
  refine ⟨_, rfl, p, _, rfl, hs, rfl, _, _, rfl, _, _, rfl, _, _, rfl, rfl, ?_⟩
  have hget : DGet H hd (.str v0) (some (.int (vget a b v0))) := by rw [← hv_get hv0 a b]; exact DGet.k (k := Sum.inr v0) hw.hl
  have call : ∀ Q' : VK, Q' (.int (tval a b t0)) H → spWorth K C [.ref wk, z] H Q' (fun _ _ _ => False) := fun Q' q' => ⟨wk, dx, cd, hd, sn, pc, a, b, ct, t, ex, z, t0, rfl, hw, hz, ht, q'⟩
  rcases hg with rfl | rfl | rfl
  · rw [if_pos rfl] at q
    refine ⟨_, rfl, rfl, _, rfl, strT ?_⟩
    refine ⟨_, rfl, wk, C, dx, _, _, rfl, hw.ob, W.cl, W.nHeld, rfl, _, rfl, hd, _, rfl, hget, _, rfl, wk, dx, _, rfl, hw.ob, hn.1, _, rfl, ?_⟩
    refine ⟨wk, dx, cd, hd, sn, pc, a, b, ct, t, ex, z, t0, rfl, hw, hz, ht, rfl, ?_⟩
    by_cases c : vget a b v0 = tval a b t0
    · rw [decide_eq_true c] at q
      have e : decide (V.int (vget a b v0) = V.int (tval a b t0)) = true := decide_eq_true (by rw [c])
      rw [e]; exact q
    · rw [decide_eq_false c] at q
      have e : decide (V.int (vget a b v0) = V.int (tval a b t0)) = false := decide_eq_false (fun z => c (by injection z))
      rw [e]; exact q
  · rw [if_neg (by decide +kernel), if_pos rfl] at q
    refine ⟨_, rfl, rfl, _, rfl, strF (by decide +kernel) ?_⟩
    refine ⟨_, rfl, rfl, _, rfl, strT ?_⟩
    refine ⟨_, rfl, wk, C, dx, _, _, rfl, hw.ob, W.cl, W.nHeld, rfl, _, rfl, hd, _, rfl, hget, _, rfl, wk, dx, _, rfl, hw.ob, hn.1, _, rfl, ?_⟩
    refine ⟨wk, dx, cd, hd, sn, pc, a, b, ct, t, ex, z, t0, rfl, hw, hz, ht, rfl, ?_⟩
    by_cases c : vget a b v0 = tval a b t0
    · rw [decide_eq_true c] at q
      have e : decide (V.int (vget a b v0) = V.int (tval a b t0)) = true := decide_eq_true (by rw [c])
      rw [e]; exact q
    · rw [decide_eq_false c] at q
      have e : decide (V.int (vget a b v0) = V.int (tval a b t0)) = false := decide_eq_false (fun z => c (by injection z))
      rw [e]; exact q
  · rw [if_neg (by decide +kernel), if_neg (by decide +kernel)] at q
    refine ⟨_, rfl, rfl, _, rfl, strF (by decide +kernel) ?_⟩
    refine ⟨_, rfl, rfl, _, rfl, strF (by decide +kernel) ?_⟩
    refine ⟨_, rfl, wk, C, dx, _, _, rfl, hw.ob, W.cl, W.nHeld, rfl, _, rfl, hd, _, rfl, hget, _, rfl, wk, dx, _, rfl, hw.ob, hn.1, _, rfl, ?_⟩
    exact ⟨wk, dx, cd, hd, sn, pc, a, b, ct, t, ex, z, t0, rfl, hw, hz, ht, _, _, rfl, rfl, q⟩
theorem scFol : FnScope ["self", "instruction"] ["self", "instruction"] (defScope sFol) := ⟨rfl, rfl, rfl, by decide +kernel, rfl, by decide +kernel, by decide +kernel⟩
theorem ok_fol {f C : Addr} {fd : FuncData} (F : Fun K "follower" "Walk.follower" sFol f fd) (W : WC K C) (MT : MCal P w K mg base 2 C "is_true" ["self", "condition"] (spTrue K C)) : FnOk P w K mg base CX0 3 f fd ["self", "instruction"] (spFol K C) := by
  refine F.ok scFol (fun vs H Q E h => ?_) (fun cdv A outer s H vs Q E hr h => ?_)
  · obtain ⟨wk, dx, cd, hd, sn, pc, a, b, ct, t, ex, v, i, k, rfl, _⟩ := h
    rfl
  obtain ⟨wk, dx, cd, hd, sn, pc, a, b, ct, t, ex, v, i, k, rfl, hw, hn, hdv, hi, q⟩ := h
  refine ⟨_, pss_cons (ps_if (pt_cmpR op_eq (pe_ix ix_tup (pv 1) pe_int (fun _ _ => rfl)) pe_str (nomark _)) (pss_one (ps_ret (pe_ix ix_tup (pv 1) pe_int (fun _ _ => rfl)))) pss_nil)
    (pss_cons (ps_if (PW.pt (pw_and (pt_cmpR op_eq (pe_ix ix_tup (pv 1) pe_int (fun _ _ => rfl)) pe_str (nomark _)) (pw_and1 (pt_not (pt_val (pe_meth (pv 0) W.cl MT.m MT.G hr MT.b .nil pass0 (pa_cons (pe_ix ix_tup (pv 1) pe_int (fun _ _ => rfl)) pa_nil))))))) (pss_one (ps_ret (pe_ix ix_tup (pv 1) pe_int (fun _ _ => rfl)))) pss_nil)
    (pss_one (ps_ret (pe_op op_add (pe_fld (pv 0) rfl) pe_int)))), ?_⟩
  obtain ⟨p, xr, rfl, hs, ha⟩ := ins_inv hdv
  refine ⟨_, rfl, p, _, _, _, rfl, rfl, hs, atI_nat (j := 0) rfl, rfl, _, rfl, ?_⟩
  have plus : ∀ D : L2.Ends, D.rt (.int ((pc + 1 : Nat) : Int)) H → (tRet (tOp (rI0 fun i j => .int (i + j)) (tFld K (tVar 0) "at") (tC (.int 1)))) D [some (.ref wk), some (.ref p)] H := fun D q' => ⟨_, rfl, wk, C, dx, _, _, rfl, hw.ob, W.cl, W.nAt, rfl, _, _, rfl, rfl, q'⟩
  cases i with
  | jump n =>
    obtain ⟨x, rfl, hx⟩ := dp_solo ha
    cases hx
    exact strT ⟨_, rfl, p, _, _, _, rfl, rfl, hs, atI_nat (j := 1) rfl, q⟩
  | test c n =>
    obtain ⟨x, y, rfl, hx, hy⟩ := dp_pair ha
    cases hy
    refine strF (by simp only [Ins.word]; decide +kernel) ⟨_, rfl, p, _, _, _, rfl, rfl, hs, atI_nat (j := 0) rfl, rfl, _, rfl, strT ?_⟩
    refine ⟨_, rfl, wk, dx, _, rfl, hw.ob, hn.2.1, _, rfl, p, _, _, _, rfl, rfl, hs, atI_nat (j := 1) rfl, ?_⟩
    refine ⟨wk, dx, cd, hd, sn, pc, a, b, ct, t, ex, x, c, rfl, hw, hn, hx, hi, _, rfl, ?_⟩
    have e : (Ins.test c n).next pc a b = if cval a b c = true then pc + 1 else n := rfl
    rw [e] at q
    cases hc : cval a b c with
    | true => rw [hc, if_pos rfl] at q; exact iteF (plus _ q)
    | false => rw [hc, if_neg (by decide)] at q; exact iteT ⟨_, rfl, p, _, _, _, rfl, rfl, hs, atI_nat (j := 2) rfl, q⟩
  | wait n => exact strF (by simp only [Ins.word]; decide +kernel) ⟨_, rfl, p, _, _, _, rfl, rfl, hs, atI_nat (j := 0) rfl, rfl, _, rfl, strF (by simp only [Ins.word]; decide +kernel) (iteF (plus _ q))⟩
  | set v n => exact strF (by simp only [Ins.word]; decide +kernel) ⟨_, rfl, p, _, _, _, rfl, rfl, hs, atI_nat (j := 0) rfl, rfl, _, rfl, strF (by simp only [Ins.word]; decide +kernel) (iteF (plus _ q))⟩
  | add v n => exact strF (by simp only [Ins.word]; decide +kernel) ⟨_, rfl, p, _, _, _, rfl, rfl, hs, atI_nat (j := 0) rfl, rfl, _, rfl, strF (by simp only [Ins.word]; decide +kernel) (iteF (plus _ q))⟩
  | ask g t v => exact strF (by simp only [Ins.word]; decide +kernel) ⟨_, rfl, p, _, _, _, rfl, rfl, hs, atI_nat (j := 0) rfl, rfl, _, rfl, strF (by simp only [Ins.word]; decide +kernel) (iteF (plus _ q))⟩
  | ans n => exact strF (by simp only [Ins.word]; decide +kernel) ⟨_, rfl, p, _, _, _, rfl, rfl, hs, atI_nat (j := 0) rfl, rfl, _, rfl, strF (by simp only [Ins.word]; decide +kernel) (iteF (plus _ q))⟩
  | grow n => exact strF (by simp only [Ins.word]; decide +kernel) ⟨_, rfl, p, _, _, _, rfl, rfl, hs, atI_nat (j := 0) rfl, rfl, _, rfl, strF (by simp only [Ins.word]; decide +kernel) (iteF (plus _ q))⟩
  | lst n => exact strF (by simp only [Ins.word]; decide +kernel) ⟨_, rfl, p, _, _, _, rfl, rfl, hs, atI_nat (j := 0) rfl, rfl, _, rfl, strF (by simp only [Ins.word]; decide +kernel) (iteF (plus _ q))⟩
end
abbrev sUp : Stmt := inClass (top 48) 1
abbrev sEar : Stmt := inClass (top 48) 2
abbrev sTake : Stmt := inClass (top 48) 5
/-! ### data stand over a change of objects that are no sequences -/
def seqO : HO → Prop
  | .lst _ => True
  | .tup _ => True
  | .frz _ _ => True
  | _ => False
def KeepS (H H' : Hp) : Prop := ∀ a o, seqO o → H a = some o → H' a = some o
theorem KeepS.rd {H H' : Hp} {a : Addr} {u : HO} (k : KeepS H H') (hu : seqO u) (h : Rd H a u) : Rd H' a u := by
  rcases h with h | ⟨o, h⟩
  · exact .inl (k _ _ hu h)
  · exact .inr ⟨o, k _ _ trivial h⟩
theorem KeepS.tup {K : PySem.W.Frag} {H H' : Hp} {a : Addr} {xs : List V} (k : KeepS H H') (h : SqT K H a xs) : SqT K H' a xs := h.elim (fun r => .inl (k.rd trivial r)) .inr
theorem KeepS.lst {K : PySem.W.Frag} {H H' : Hp} {a : Addr} {xs : List V} (k : KeepS H H') (h : SqL K H a xs) : SqL K H' a xs := h.elim (fun r => .inl (k.rd trivial r)) .inr
mutual
theorem dp_keepS {K : PySem.W.Frag} {H H' : Hp} (e : KeepS H H') : ∀ (d : PyData) (v : V), Dp K H v d → Dp K H' v d
  | .none, _, h => by cases h; exact .non
  | .bool b, _, h => by cases h; exact .bl b
  | .int i, _, h => by cases h; exact .int i
  | .str x, _, h => by cases h; exact .str x
  | .list ds, _, h => by
    cases h with
    | lst hs ha => exact .lst (e.lst hs) (dpAll_keepS e ds _ ha)
  | .tuple ds, _, h => by
    cases h with
    | tup hs ha => exact .tup (e.tup hs) (dpAll_keepS e ds _ ha)
  | .dict _, _, h => by cases h
theorem dpAll_keepS {K : PySem.W.Frag} {H H' : Hp} (e : KeepS H H') : ∀ (ds : List PyData) (vs : List V), DpAll K H vs ds → DpAll K H' vs ds
  | [], _, h => by cases h; exact .nil
  | d :: ds, _, h => by
    cases h with
    | cons hd ht => exact .cons (dp_keepS e d _ hd) (dpAll_keepS e ds _ ht)
end
theorem KeepS.upd {H : Hp} {p : Addr} {o u : HO} (h : H p = some o) (n : ¬ seqO o) : KeepS H (upd H p u) := fun a x hx e => by
  rw [upd_ne]
  · exact e
  · intro z
    subst z
    rw [h] at e
    cases e
    exact n hx
theorem KeepS.trans {H H' H'' : Hp} (a : KeepS H H') (b : KeepS H' H'') : KeepS H H'' := fun x o hx e => b x o hx (a x o hx e)
theorem KeepS.of {H H' : Hp} (s : Same H H') : KeepS H H' := fun x o _ e => s x o e
/-- nothing but what stands at these places has changed -/
def Fx (S : List Addr) (H H' : Hp) : Prop := ∀ p o, p ∉ S → H p = some o → H' p = some o
theorem Fx.of {S : List Addr} {H H' : Hp} (s : Same H H') : Fx S H H' := fun p o _ e => s p o e
theorem Fx.trans {S : List Addr} {H H' H'' : Hp} (a : Fx S H H') (b : Fx S H' H'') : Fx S H H'' := fun p o n e => b p o n (a p o n e)
theorem Fx.upd {S : List Addr} {H : Hp} {p : Addr} {o : HO} (m : p ∈ S) : Fx S H (upd H p o) := fun q x n e => by
  rw [upd_ne (fun z : q = p => n (by rw [z]; exact m))]
  exact e
theorem Fx.mono {S S' : List Addr} {H H' : Hp} (h : ∀ p ∈ S, p ∈ S') (a : Fx S H H') : Fx S' H H' := fun p o n e => a p o (fun m => n (h p m)) e
/-- what was changed was new: nothing has changed for who stood before -/
theorem Fx.same {S : List Addr} {H0 H H' : Hp} (s : Same H0 H) (n : ∀ p ∈ S, H0 p = none) (a : Fx S H H') : Same H0 H' := fun p o e => a p o (fun m => by rw [n p m] at e; cases e) (s p o e)
def keyS (pc : Nat) (a b : Int) : List Key := [Sum.inl (pc : Int), Sum.inl a, Sum.inl b]
def itemV : Option V → V
  | some v => v
  | none => .non
def spUp (K : PySem.W.Frag) (C : Addr) : Sp := fun vs H Q _ => ∃ (wk dx cd hd sn : Addr) (pc : Nat) (a b ct t : Int) (ex : List (Str × V)) (xs : List V), vs = [.ref wk] ∧ WkA K H C wk dx cd hd sn pc a b ct t ex ∧ SqL K H cd xs ∧ Q (itemV xs[pc]?) H
def spEar (K : PySem.W.Frag) (C : Addr) : Sp := fun vs H Q _ => ∃ (wk dx cd hd sn : Addr) (pc : Nat) (a b ct t : Int) (ex : List (Str × V)) (kvs : List (List Key × V)), vs = [.ref wk] ∧ WkA K H C wk dx cd hd sn pc a b ct t ex ∧ H sn = some (.dT kvs) ∧ kvs.length ≤ 100000 ∧ (∀ p ∈ kvs, ∃ r, p.2 = .ref r) ∧
  (∀ r, valV kvs (keyS pc a b) = some (.ref r) → ∀ H', Same H H' → Q (.ref r) H') ∧
  (valV kvs (keyS pc a b) = none → ∀ H' r, Fx [sn] H H' → H' sn = some (.dT (kvs ++ [(keyS pc a b, .ref r)])) → H r = none → H' r = some (.tup [.int t, .int ct]) → Q .non H')
def spTake (K : PySem.W.Frag) (C : Addr) : Sp := fun vs H Q _ => ∃ (wk dx cd hd sn : Addr) (pc : Nat) (a b ct t : Int) (ex : List (Str × V)) (v : V) (i : Ins) (k : Str), vs = [.ref wk, v] ∧ WkA K H C wk dx cd hd sn pc a b ct t ex ∧ noM ex ∧ Dp K H v i.toD ∧ i.ok k ∧
  ∀ H', Fx [wk, hd] H H' → WkA K H' C wk dx cd hd sn (i.next pc a b) (i.held a b).1 (i.held a b).2 (ct + i.grown a b) (t + i.cost) ex → Q .non H'
section
variable {P : Program} {w : World} {K : PySem.W.Frag} {mg : Str → Option Value} {base : Heap}
theorem scUp : FnScope ["self"] ["self"] (defScope sUp) := ⟨rfl, rfl, rfl, by decide +kernel, rfl, by decide +kernel, by decide +kernel⟩
theorem ok_up {f C : Addr} {fd : FuncData} (F : Fun K "upcoming" "Walk.upcoming" sUp f fd) (T : Gs K mg) (W : WC K C) : FnOk P w K mg base CX0 1 f fd ["self"] (spUp K C) := by
  refine F.ok scUp (fun vs H Q E h => ?_) (fun cdv A outer s H vs Q E hr h => ?_)
  · obtain ⟨wk, dx, cd, hd, sn, pc, a, b, ct, t, ex, xs, rfl, _⟩ := h
    rfl
  obtain ⟨wk, dx, cd, hd, sn, pc, a, b, ct, t, ex, xs, rfl, hw, hc, q⟩ := h
  refine ⟨_, pss_one (ps_ret (pe_ifExp (pt_cmpR op_lt (pe_fld (pv 0) rfl) (pe_callB call_len_seq (by rfl) T.len PySem.boot_len (pa_cons (pe_fld (pv 0) rfl) pa_nil)) (nomark _)) (pe_ix ix_list (pe_fld (pv 0) rfl) (pe_fld (pv 0) rfl) (fun _ _ => rfl)) pe_non)), ?_⟩
  refine ⟨_, rfl, wk, C, dx, _, _, rfl, hw.ob, W.cl, W.nAt, rfl, _, rfl, wk, C, dx, _, _, rfl, hw.ob, W.cl, W.nCode, rfl, cd, xs, rfl, .inl hc, _, _, rfl, rfl, _, rfl, ?_⟩
  by_cases hlt : pc < xs.length
  · refine ite2 (fun _ => ?_) (fun c => absurd (decide_eq_true (by show (pc : Int) < (xs.length : Int); omega)) c)
    have e : xs[pc]? = some xs[pc] := List.getElem?_eq_getElem hlt
    rw [e] at q
    exact ⟨_, rfl, wk, C, dx, _, _, rfl, hw.ob, W.cl, W.nCode, rfl, _, rfl, wk, C, dx, _, _, rfl, hw.ob, W.cl, W.nAt, rfl, cd, xs, _, _, rfl, rfl, hc, atI_nat e, q⟩
  · refine ite2 (fun c => absurd (of_decide_eq_true c) (by show ¬ (pc : Int) < (xs.length : Int); omega)) (fun _ => ?_)
    have e : xs[pc]? = none := List.getElem?_eq_none (by omega)
    rw [e] at q
    exact q
theorem scEar : FnScope ["self", "state", "before"] ["self"] (defScope sEar) := ⟨rfl, rfl, rfl, by decide +kernel, rfl, by decide +kernel, by decide +kernel⟩
theorem ok_ear {f C : Addr} {fd : FuncData} (F : Fun K "earlier" "Walk.earlier" sEar f fd) (W : WC K C) : FnOk P w K mg base CX0 1 f fd ["self"] (spEar K C) := by
  refine F.ok scEar (fun vs H Q E h => ?_) (fun cdv A outer s H vs Q E hr h => ?_)
  · obtain ⟨wk, dx, cd, hd, sn, pc, a, b, ct, t, ex, kvs, rfl, _⟩ := h
    rfl
  obtain ⟨wk, dx, cd, hd, sn, pc, a, b, ct, t, ex, kvs, rfl, hw, hs, hl, hr1, qS, qN⟩ := h
  have hu := hu_of hr
  refine ⟨_, pss_cons (ps_set (i := 1) scEar.nd rfl (.inl rfl) (pe_tup (pa_cons (pe_fld (pv 0) rfl) (pa_cons (pe_dget hu (pe_fld (pv 0) rfl) pe_str (fun _ _ => rfl)) (pa_cons (pe_dget hu (pe_fld (pv 0) rfl) pe_str (fun _ _ => rfl)) pa_nil)))))
    (pss_cons (ps_set (i := 2) scEar.nd rfl (.inl rfl) (pe_dget1 hu (pe_fld (pv 0) rfl) (pv 1) ⟨rfl, rfl, rfl, rfl⟩))
    (pss_cons (ps_if (pt_cmpR op_isN (pv 2) pe_non (nomark _)) (pss_one (ps_dput hu (pe_fld (pv 0) rfl) (pv 1) (pe_tup (pa_cons (pe_fld (pv 0) rfl) (pa_cons (pe_fld (pv 0) rfl) pa_nil))) rfl)) pss_nil)
    (pss_one (ps_ret (pv 2))))), ?_⟩
  refine ⟨_, rfl, wk, C, dx, _, _, rfl, hw.ob, W.cl, W.nAt, rfl, _, rfl, wk, C, dx, _, _, rfl, hw.ob, W.cl, W.nHeld, rfl, hd, _, rfl, DGet.k (k := Sum.inr "a") hw.hl, _, rfl, wk, C, dx, _, _, rfl, hw.ob, W.cl, W.nHeld, rfl, hd, _, rfl, DGet.k (k := Sum.inr "b") hw.hl, (by show 3 ≤ sizeLine; decide), fun st nst => ?_⟩
  have s1 := same_new nst (.tup [.int (pc : Nat), .int a, .int b])
  have est : (upd H st (.tup [.int (pc : Nat), .int a, .int b])) st = some (.tup ((keyS pc a b).map kV)) := upd_same
  generalize upd H st (.tup [.int (pc : Nat), .int a, .int b]) = H1 at s1 est ⊢
  have ob1 := s1 _ _ hw.ob
  have hs1 := s1 _ _ hs
  refine ⟨_, rfl, wk, C, dx, _, _, rfl, ob1, W.cl, W.nSeen, rfl, sn, rfl, .inr ⟨_, .inl hs1⟩, _, rfl, _, DGet.t (k := keyS pc a b) hs1 est, ?_⟩
  cases hv : valV kvs (keyS pc a b) with
  | some v =>
    obtain ⟨p, mp, ep⟩ : ∃ p ∈ kvs, p.2 = v := by
      unfold valV at hv
      cases hf : kvs.find? (fun kv => decide (kv.1 = keyS pc a b)) with
      | none => rw [hf] at hv; cases hv
      | some p =>
        rw [hf] at hv
        exact ⟨p, List.mem_of_find?_eq_some hf, by injection hv⟩
    obtain ⟨r, er⟩ := hr1 p mp
    rw [er] at ep
    subst ep
    refine ⟨_, rfl, rfl, _, rfl, ite2 (fun c => absurd (of_decide_eq_true c) (fun z => nomatch z)) (fun _ => ?_)⟩
    exact ⟨_, rfl, qS r hv _ s1⟩
  | none =>
    refine ⟨_, rfl, rfl, _, rfl, ite2 (fun _ => ?_) (fun c => absurd (decide_eq_true rfl) c)⟩
    refine ⟨_, rfl, wk, C, dx, _, _, rfl, ob1, W.cl, W.nTak, rfl, _, rfl, wk, C, dx, _, _, rfl, ob1, W.cl, W.nCnt, rfl, (by show 2 ≤ sizeLine; decide), fun r nr => ?_⟩
    have s2 := same_new nr (.tup [.int t, .int ct])
    have er : (upd H1 r (.tup [.int t, .int ct])) r = some (.tup [.int t, .int ct]) := upd_same
    generalize upd H1 r (.tup [.int t, .int ct]) = H2 at s2 er ⊢
    have hs2 := s2 _ _ hs1
    have nrs : r ≠ sn := fun z => by rw [z] at er; rw [er] at hs2; cases hs2
    refine ⟨_, rfl, wk, C, dx, _, _, rfl, s2 _ _ ob1, W.cl, W.nSeen, rfl, _, rfl, sn, _, rfl, DPut.t (k := keyS pc a b) hs2 (s2 _ _ est) (Nat.lt_of_le_of_lt hl (by decide)), ?_⟩
    refine ⟨_, rfl, qN hv _ r (Fx.trans (Fx.of (s1.trans s2)) (Fx.upd (by simp))) ?_ (s1.free nr) ?_⟩
    · rw [upd_same, putK_new _ hv]
    · rw [upd_ne nrs]
      exact er
theorem scTake : FnScope ["self", "instruction", "word", "variable", "term"] ["self", "instruction"] (defScope sTake) := ⟨rfl, rfl, rfl, by decide +kernel, rfl, by decide +kernel, by decide +kernel⟩
theorem ok_take {f C : Addr} {fd : FuncData} (F : Fun K "take" "Walk.take" sTake f fd) (T : Gs K mg) (W : WC K C) (CC : Cal P w K mg base 1 "cost" ["instruction"] (spCost K)) (MF : MCal P w K mg base 3 C "follower" ["self", "instruction"] (spFol K C)) (MW : MCal P w K mg base 1 C "worth" ["self", "term"] (spWorth K C)) :
    FnOk P w K mg base CX0 4 f fd ["self", "instruction"] (spTake K C) := by
  refine F.ok scTake (fun vs H Q E h => ?_) (fun cdv A outer s H vs Q E hr h => ?_)
  · obtain ⟨wk, dx, cd, hd, sn, pc, a, b, ct, t, ex, v, i, k, rfl, _⟩ := h
    rfl
  obtain ⟨wk, dx, cd, hd, sn, pc, a, b, ct, t, ex, v, i, k, rfl, hw, hn, hdv, hi, q⟩ := h
  have hu := hu_of hr
  have hr1 : Room 1 _ := hr.mono (by decide)
  refine ⟨_, pss_cons (ps_fldaug (pv 0) (pe_call CC.G hr1 rfl CC.m CC.kp CC.b .nil pass0 (pa_cons (pv 1) pa_nil)) in_add)
    (pss_cons (ps_fld (pv 0) (pe_meth (pv 0) W.cl MF.m MF.G hr MF.b .nil pass0 (pa_cons (pv 1) pa_nil)) rfl)
    (pss_cons (ps_set (i := 2) scTake.nd rfl (.inl rfl) (pe_ix ix_tup (pv 1) pe_int (fun _ _ => rfl)))
    (pss_one (ps_if (pt_cmpR op_eq (pv 2) pe_str (nomark _))
      (pss_one (ps_dput hu (pe_fld (pv 0) rfl) (pe_ix ix_tup (pv 1) pe_int (fun _ _ => rfl)) (pe_ix ix_tup (pv 1) pe_int (fun _ _ => rfl)) rfl))
      (pss_one (ps_if (pt_cmpR op_eq (pv 2) pe_str (nomark _))
        (pss_cons (ps_asg (pe_slice sl_tup (pv 1) (po_some pe_int) po_none) (pg_tup (by rfl) (pgs_cons (pg_name (i := 3) scTake.nd rfl (.inl rfl)) (pgs_cons (pg_name (i := 4) scTake.nd rfl (.inl rfl)) pgs_nil))))
        (pss_one (ps_dput hu (pe_fld (pv 0) rfl) (pv 3) (pe_op op_mod (pe_op op_add (pe_dget hu (pe_fld (pv 0) rfl) (pv 3) (fun _ _ => rfl)) (pe_meth (pv 0) W.cl MW.m MW.G hr1 MW.b .nil pass0 (pa_cons (pv 4) pa_nil))) (pe_op op_add (pe_gint rfl T.mG) pe_int)) rfl)))
        (pss_one (ps_if (pt_cmpR op_eq (pv 2) pe_str (nomark _)) (pss_one (ps_fldaug (pv 0) (pe_meth (pv 0) W.cl MW.m MW.G hr1 MW.b .nil pass0 (pa_cons (pe_ix ix_tup (pv 1) pe_int (fun _ _ => rfl)) pa_nil)) in_add)) pss_nil)))))))), ?_⟩
  have lx : ∀ {x y : Int} {p : Nat}, (wf cd hd sn p x y ex).length < 1000 := by
    intro x y p
    have := hn.2.2.2.2.2.2
    show ex.length + 1 + 1 + 1 + 1 + 1 + 1 < 1000
    omega
  have nwh : hd ≠ wk := fun z => by
    have h1 := hw.hl
    rw [z, hw.ob] at h1
    cases h1
  refine ⟨_, rfl, wk, C, dx, _, _, rfl, hw.ob, W.cl, W.nTak, rfl, _, rfl, v, i, rfl, hdv, _, _, rfl, rfl, dx, _, hw.ob, lx, ?_⟩
  have e1 : (upd H wk (.ins C dx (putF "taken" (.int (t + i.cost)) (wf cd hd sn pc ct t ex)))) wk = some (.ins C dx (wf cd hd sn pc ct (t + i.cost) ex)) := upd_same
  have f1 : Fx [wk, hd] H (upd H wk (.ins C dx (putF "taken" (.int (t + i.cost)) (wf cd hd sn pc ct t ex)))) := Fx.upd (by simp)
  have k1 : KeepS H (upd H wk (.ins C dx (putF "taken" (.int (t + i.cost)) (wf cd hd sn pc ct t ex)))) := KeepS.upd hw.ob (fun z => z)
  have h1 : (upd H wk (.ins C dx (putF "taken" (.int (t + i.cost)) (wf cd hd sn pc ct t ex)))) hd = some (.dK (hv a b)) := by rw [upd_ne nwh]; exact hw.hl
  generalize upd H wk (.ins C dx (putF "taken" (.int (t + i.cost)) (wf cd hd sn pc ct t ex))) = H1 at e1 f1 k1 h1 ⊢
  have hd1 := dp_keepS k1 _ _ hdv
  refine ⟨_, rfl, wk, dx, _, rfl, e1, hn.2.2.1, _, rfl, wk, dx, cd, hd, sn, pc, a, b, ct, t + i.cost, ex, v, i, k, rfl, ⟨e1, h1⟩, hn, hd1, hi, ?_⟩
  refine ⟨_, rfl, wk, C, dx, _, rfl, e1, W.cl, W.nAt, lx, ?_⟩
  have e2 : (upd H1 wk (.ins C dx (putF "at" (.int (i.next pc a b : Nat)) (wf cd hd sn pc ct (t + i.cost) ex)))) wk = some (.ins C dx (wf cd hd sn (i.next pc a b) ct (t + i.cost) ex)) := upd_same
  have f2 : Fx [wk, hd] H (upd H1 wk (.ins C dx (putF "at" (.int (i.next pc a b : Nat)) (wf cd hd sn pc ct (t + i.cost) ex)))) := f1.trans (Fx.upd (by simp))
  have k2 : KeepS H1 (upd H1 wk (.ins C dx (putF "at" (.int (i.next pc a b : Nat)) (wf cd hd sn pc ct (t + i.cost) ex)))) := KeepS.upd e1 (fun z => z)
  have h2 : (upd H1 wk (.ins C dx (putF "at" (.int (i.next pc a b : Nat)) (wf cd hd sn pc ct (t + i.cost) ex)))) hd = some (.dK (hv a b)) := by rw [upd_ne nwh]; exact h1
  generalize upd H1 wk (.ins C dx (putF "at" (.int (i.next pc a b : Nat)) (wf cd hd sn pc ct (t + i.cost) ex))) = H2 at e2 f2 k2 h2 ⊢
  have hd2 := dp_keepS k2 _ _ hd1
  obtain ⟨p, xr, rfl, hs, ha⟩ := ins_inv hd2
  refine ⟨_, rfl, p, _, _, _, rfl, rfl, hs, atI_nat (j := 0) rfl, ?_⟩
  refine ⟨_, rfl, rfl, _, rfl, ?_⟩
  have put : ∀ (H3 : Hp) (z : Str) (n : Int), okV z → Fx [wk, hd] H H3 → H3 wk = some (.ins C dx (wf cd hd sn (i.next pc a b) ct (t + i.cost) ex)) → H3 hd = some (.dK (hv a b)) → vput z n (a, b) = i.held a b → i.grown a b = 0 → Q .non (upd H3 hd (.dK (putK (hv a b) (Sum.inr z : Key) (V.int n)))) := by
    intro H3 z n hz f3 e3 h3 eh eg
    refine q _ (f3.trans (Fx.upd (by simp))) ⟨?_, ?_⟩
    · rw [upd_ne nwh.symm, eg, Int.add_zero]
      exact e3
    · rw [upd_same, hv_put hz, eh]
  have keepq : i.held a b = (a, b) → i.grown a b = 0 → Q .non H2 := fun eh eg => q _ f2 ⟨by rw [eg, Int.add_zero]; exact e2, by rw [eh]; exact h2⟩
  cases i with
  | set z n =>
    obtain ⟨x, y, rfl, hx, hy⟩ := dp_pair ha
    cases hx
    cases hy
    refine strT ⟨_, rfl, p, _, _, _, rfl, rfl, hs, atI_nat (j := 2) rfl, _, rfl, wk, C, dx, _, _, rfl, e2, W.cl, W.nHeld, rfl, _, rfl, p, _, _, _, rfl, rfl, hs, atI_nat (j := 1) rfl, hd, _, rfl, DPut.k (k := Sum.inr z) h2 (by show 2 < sizeLine; decide), ?_⟩
    exact put H2 z n hi.1 f2 e2 h2 rfl rfl
  | add z d =>
    obtain ⟨x, y, rfl, hx, hy⟩ := dp_pair ha
    cases hx
    refine strF (by simp only [Ins.word]; decide +kernel) ⟨_, rfl, rfl, _, rfl, strT ?_⟩
    refine ⟨_, rfl, _, rfl, p, _, rfl, hs, not_whole1 _ _, fun r nr => ?_⟩
    rw [cut1]
    have s3 : Same H2 (upd H2 r (.tup [.str z, y])) := same_new nr _
    have er : (upd H2 r (.tup [.str z, y])) r = some (.tup [.str z, y]) := upd_same
    generalize upd H2 r (.tup [.str z, y]) = H3 at s3 er ⊢
    have e3 := s3 _ _ e2
    have h3 := s3 _ _ h2
    refine ⟨r, _, rfl, SqT.of er, rfl, _, _, rfl, _, _, rfl, rfl, ?_⟩
    have hget : DGet H3 hd (.str z) (some (.int (vget a b z))) := by rw [← hv_get hi.1 a b]; exact DGet.k (k := Sum.inr z) h3
    refine ⟨_, rfl, wk, C, dx, _, _, rfl, e3, W.cl, W.nHeld, rfl, _, rfl, hd, _, rfl, hget, _, rfl, wk, dx, _, rfl, e3, hn.1, _, rfl, ?_⟩
    refine ⟨wk, dx, cd, hd, sn, _, a, b, ct, _, ex, y, d, rfl, ⟨e3, h3⟩, dp_mono s3 _ _ hy, hi.2, _, _, rfl, rfl, _, _, rfl, rfl, _, _, rfl, rfl, (by show (0 : Int) < 15 + 1; decide), ?_⟩
    refine ⟨_, rfl, wk, C, dx, _, _, rfl, e3, W.cl, W.nHeld, rfl, _, rfl, hd, _, rfl, DPut.k (k := Sum.inr z) h3 (by show 2 < sizeLine; decide), ?_⟩
    exact put H3 z _ hi.1 (f2.trans (Fx.of s3)) e3 h3 rfl rfl
  | grow d =>
    obtain ⟨x, rfl, hx⟩ := dp_solo ha
    refine strF (by simp only [Ins.word]; decide +kernel) ⟨_, rfl, rfl, _, rfl, strF (by simp only [Ins.word]; decide +kernel) ⟨_, rfl, rfl, _, rfl, strT ?_⟩⟩
    refine ⟨_, rfl, wk, C, dx, _, _, rfl, e2, W.cl, W.nCnt, rfl, _, rfl, wk, dx, _, rfl, e2, hn.1, _, rfl, p, _, _, _, rfl, rfl, hs, atI_nat (j := 1) rfl, ?_⟩
    refine ⟨wk, dx, cd, hd, sn, _, a, b, ct, _, ex, x, d, rfl, ⟨e2, h2⟩, hx, hi.2, _, _, rfl, rfl, dx, _, e2, lx, ?_⟩
    refine q _ (f2.trans (Fx.upd (by simp))) ⟨upd_same, ?_⟩
    rw [upd_ne nwh]
    exact h2
  | wait n => exact strF (by simp only [Ins.word]; decide +kernel) ⟨_, rfl, rfl, _, rfl, strF (by simp only [Ins.word]; decide +kernel) ⟨_, rfl, rfl, _, rfl, strF (by simp only [Ins.word]; decide +kernel) (keepq rfl rfl)⟩⟩
  | ask g t v => exact strF (by simp only [Ins.word]; decide +kernel) ⟨_, rfl, rfl, _, rfl, strF (by simp only [Ins.word]; decide +kernel) ⟨_, rfl, rfl, _, rfl, strF (by simp only [Ins.word]; decide +kernel) (keepq rfl rfl)⟩⟩
  | ans n => exact strF (by simp only [Ins.word]; decide +kernel) ⟨_, rfl, rfl, _, rfl, strF (by simp only [Ins.word]; decide +kernel) ⟨_, rfl, rfl, _, rfl, strF (by simp only [Ins.word]; decide +kernel) (keepq rfl rfl)⟩⟩
  | lst n => exact strF (by simp only [Ins.word]; decide +kernel) ⟨_, rfl, rfl, _, rfl, strF (by simp only [Ins.word]; decide +kernel) ⟨_, rfl, rfl, _, rfl, strF (by simp only [Ins.word]; decide +kernel) (keepq rfl rfl)⟩⟩
  | test n u => exact strF (by simp only [Ins.word]; decide +kernel) ⟨_, rfl, rfl, _, rfl, strF (by simp only [Ins.word]; decide +kernel) ⟨_, rfl, rfl, _, rfl, strF (by simp only [Ins.word]; decide +kernel) (keepq rfl rfl)⟩⟩
  | jump n => exact strF (by simp only [Ins.word]; decide +kernel) ⟨_, rfl, rfl, _, rfl, strF (by simp only [Ins.word]; decide +kernel) ⟨_, rfl, rfl, _, rfl, strF (by simp only [Ins.word]; decide +kernel) (keepq rfl rfl)⟩⟩
end
abbrev sWI : Stmt := inClass (top 48) 0
abbrev sTI : Stmt := inClass (top 58) 0
abbrev sPl : Stmt := inClass (top 58) 1
abbrev sAsk : Stmt := inClass (top 58) 2
abbrev sAP : Stmt := inClass (top 58) 3
/-! ### C.m(e, ..), C a class of the program, m a def of it -/
def tCFun (C : Addr) (sp : Sp) (dvs : List V) (E : XK) (ta : TE) (t : TA) : TE := fun σ H Q => ta σ H fun x H1 => x = .ref C ∧ t σ H1 fun vs H2 => sp (vs ++ dvs) H2 Q E
section
variable {X : Cx} {CX : CXT} {k : Nat} {C f : Addr} {fd : FuncData} {ps : List Str} {ds : List Value} {dvs : List V} {mc : Value} {sp : Sp} {E : XK} {o e : Expr} {es : List Expr} {m : Str} {pos apos : Pos} {ta : TE} {t : TA} {pl : Sem Bool}
theorem pe_cfun (he : PE X o ta) (r : ClX.CRead X.K C mc) (c : PySem.W.findCls X.K (.ref C) mc m = some (.val (.ref f))) (hk : PySem.W.keepIn X.K (.ref f) = true) (F : FnOk X.prog X.w X.K X.mg X.base CX k f fd ps sp) (hr : Room k X.A) (hb : Binds X.K fd ps ds) (hd : Vals dvs ds) (hx : Passes CX X E) (ha : PA X (e :: es) t)
    (hst : starEach (e :: es) X.env = (false, eval e X.env) :: starEach es X.env := by rfl) (hpl : (backTo pos (starEach es X.env)).any (·.1) = false := by rfl)
    (ht : eval (.Call (.Attribute o m apos) (e :: es) [] pos) X.env = (do
      let ov ← eval o X.env
      standAt apos.atName
      let (f, first) ← holding [ov] (getMethod ov m pl)
      callWith pos f first (backTo pos (starEach (e :: es) X.env)) (backToKw pos (keywordEach [] X.env))) := by rfl) :
    PE X (.Call (.Attribute o m apos) (e :: es) [] pos) (tCFun C sp dvs E ta t) := by
  refine ⟨fun pins s σ H Q I h => ?_⟩
  refine PySem.W.methodCall_KW (pl := pl) (thn (he.run pins s σ H _ I h) fun u s1 ⟨x, H1, I1, rx, ex, q⟩ => ?_) ht
  subst ex
  obtain rfl : u = Value.ref C := rx
  refine PySem.W.method_cls I1.kIn r.ga (ClX.getcval_ok (v := .ref f) I1 r ⟨c, rfl⟩ fun s2 I2 => ?_)
  refine PySem.W.callWith_K (h₀ := X.base) I2.ok.mod.kin hk (thn (ha.run pos pins s2 σ H1 _ I2 q) fun us s3 ⟨vs, H2, I3, r3, q3⟩ => ⟨I3.kIn, ?_⟩) hst hpl
  exact run_fn F hr hb hd hx I3 r3 q3
end
/-- {.. for x in a list} -/
theorem dc_list {K : PySem.W.Frag} {a : Addr} {xs : List V} {g : TG} {tt : TT} {tk tv : TE} {vs : List Nat} {σ : L2.St} {H1 : Hp} {D : Addr} {Qd : Hp → Prop} (Pv : Nat → Hp → Prop) (h0 : Pv 0 (upd H1 D (.dK []))) (hl : ∀ i H, i ≤ xs.length → Pv i H → SqL K H a xs)
    (hs : ∀ i x H, xs[i]? = some x → Pv i H → g x (wipe σ vs) H fun σ2 H2 => wipe σ2 vs = wipe σ vs ∧ tt σ2 H2 fun b H3 =>
      if b = true then tk σ2 H3 fun y H4 => tv σ2 H4 fun z H5 => ∃ kvs k, y = kV k ∧ H5 D = some (.dK kvs) ∧ kvs.length < sizeLine ∧ Pv (i + 1) (upd H5 D (.dK (putK kvs k z))) else Pv (i + 1) H3) (hd : ∀ H, Pv xs.length H → Qd H) :
    ∃ W : Nat → Nat → Hp → Prop, (∃ m, W 0 m (upd H1 D (.dK []))) ∧ ∀ i m H, W i m H →
      ((Itl K a).stop i H ∧ Qd H) ∨ ((Itl K a).go i H ∧ ∃ Nx : Hp → Prop, (∀ H', Nx H' → ∃ m', m' < m ∧ W (i + 1) m' H') ∧ ∀ x H', (Itl K a).yld i H x H' → g x (wipe σ vs) H' fun σ2 H2 => wipe σ2 vs = wipe σ vs ∧ tt σ2 H2 fun b H3 =>
        if b = true then tk σ2 H3 fun y H4 => tv σ2 H4 fun z H5 => ∃ kvs k, y = kV k ∧ H5 D = some (.dK kvs) ∧ kvs.length < sizeLine ∧ Nx (upd H5 D (.dK (putK kvs k z))) else Nx H3) := by
  refine ⟨fun i m H => m = xs.length - i ∧ i ≤ xs.length ∧ Pv i H, ⟨xs.length, by simp, Nat.zero_le _, h0⟩, ?_⟩
  rintro i m H ⟨rfl, hi, p⟩
  have q := hl i H hi p
  by_cases hlt : i < xs.length
  · refine .inr ⟨⟨xs, xs[i], q, by simp [hlt]⟩, Pv (i + 1), fun H' p' => ⟨xs.length - (i + 1), by omega, rfl, hlt, p'⟩, fun x H' y => ?_⟩
    obtain ⟨e, y⟩ := y
    subst e
    exact hs i x _ (y xs q) p
  · have e : i = xs.length := by omega
    subst e
    exact .inl ⟨⟨xs, q, Nat.le_refl _⟩, hd H p⟩
/-- what the top has written of the tellers' walks -/
structure TC (K : PySem.W.Frag) (C : Addr) : Prop where
  wc : WC K C
  nPos : NoAttr K C "position"
  nPre : NoAttr K C "present"
  nQue : NoAttr K C "questions"
def exT (x : Int) (pr qs : Addr) : List (Str × V) := [("position", .int x), ("present", .ref pr), ("questions", .ref qs)]
theorem noM_T (x : Int) (pr qs : Addr) : noM (exT x pr qs) := ⟨rfl, rfl, rfl, rfl, rfl, rfl, by show 3 ≤ 10; decide⟩
/-- the asked positions as a dict -/
def qD (ps : List Int) : List (Key × V) := ps.map fun p => (Sum.inl p, .bl true)
def putQ (p : Int) (ps : List Int) : List Int := if p ∈ ps then ps else ps ++ [p]
theorem qD_val (p : Int) : ∀ ps : List Int, (valV (qD ps) (Sum.inl p : Key)).isSome = decide (p ∈ ps)
  | [] => rfl
  | x :: r => by
    have ih := qD_val p r
    show (valV ((Sum.inl x, V.bl true) :: qD r) (Sum.inl p : Key)).isSome = _
    by_cases e : x = p
    · subst e
      rw [valV_pos rfl]
      simp
    · rw [valV_neg (p := ((Sum.inl x : Key), V.bl true)) (by intro z; injection z with z; exact e z), ih]
      have e' : ¬ p = x := fun z => e z.symm
      simp [e']
theorem qD_put (p : Int) (ps : List Int) : putK (qD ps) (Sum.inl p : Key) (.bl true) = qD (putQ p ps) := by
  have h := qD_val p ps
  unfold putQ
  by_cases e : p ∈ ps
  · rw [if_pos e]
    rw [decide_eq_true e] at h
    unfold putK
    rw [valV_any, h, if_pos rfl]
    unfold qD
    rw [List.map_map]
    refine List.map_congr_left fun x _ => ?_
    show (if (Sum.inl x : Key) = Sum.inl p then ((Sum.inl x : Key), V.bl true) else (Sum.inl x, V.bl true)) = (Sum.inl x, V.bl true)
    split <;> rfl
  · rw [if_neg e]
    rw [decide_eq_false e] at h
    have hn : valV (qD ps) (Sum.inl p : Key) = none := by
      cases hv : valV (qD ps) (Sum.inl p : Key) with
      | none => rfl
      | some v => rw [hv] at h; cases h
    rw [putK_new _ hn]
    unfold qD
    rw [List.map_append]
    rfl
/-- a teller's walk stands at wk: its present members are those that mem tells, it has asked about ps -/
structure TkA (K : PySem.W.Frag) (H : Hp) (C wk dx cd hd sn pr qs : Addr) (pc : Nat) (a b t x : Int) (mem : Int → Bool) (ps : List Int) : Prop where
  wa : WkA K H C wk dx cd hd sn pc a b 0 t (exT x pr qs)
  pre : ∃ kvs, H pr = some (.dK kvs) ∧ ∀ z : Int, (valV kvs (Sum.inl z : Key)).isSome = mem z
  que : H qs = some (.dK (qD ps))
  apart : pr ≠ qs ∧ hd ≠ pr
def spWI (K : PySem.W.Frag) (C : Addr) : Sp := fun vs H Q _ => ∃ (wk dx cd : Addr), vs = [.ref wk, .ref cd] ∧ H wk = some (.ins C dx []) ∧
  ∀ H' hd sn, Fx [wk] H H' → H hd = none → H sn = none → hd ≠ sn → WkA K H' C wk dx cd hd sn 0 0 0 0 0 [] → H' sn = some (.dT []) → Q .non H'
def spTI (K : PySem.W.Frag) (C : Addr) : Sp := fun vs H Q _ => ∃ (wk dx cd m : Addr) (x : Int) (ns : List Int), vs = [.ref wk, .ref cd, .int x, .ref m] ∧ H wk = some (.ins C dx []) ∧ SqL K H m (ns.map V.int) ∧ ns.length ≤ 10000 ∧
  ∀ H' hd sn pr qs, Fx [wk] H H' → H hd = none → H sn = none → H pr = none → H qs = none → TkA K H' C wk dx cd hd sn pr qs 0 0 0 0 x (fun z => decide (z ∈ ns)) [] → H' sn = some (.dT []) → Q .non H'
def spPl (K : PySem.W.Frag) (C : Addr) : Sp := fun vs H Q _ => ∃ (wk dx cd hd sn pr qs : Addr) (pc : Nat) (a b t x : Int) (g : Str) (v : V) (d : PyData), vs = [.ref wk, .str g, v] ∧ WkA K H C wk dx cd hd sn pc a b 0 t (exT x pr qs) ∧ Dp K H v d ∧ isTerm d = true ∧ (g = "+" ∨ g = "-" ∨ g = "=") ∧ Q (.int (place x a b g d)) H
def spAsk (K : PySem.W.Frag) (C : Addr) : Sp := fun vs H Q _ => ∃ (wk dx cd hd sn pr qs : Addr) (pc : Nat) (a b t x : Int) (mem : Int → Bool) (ps : List Int) (v : V) (g z : Str) (d : PyData), vs = [.ref wk, v] ∧ TkA K H C wk dx cd hd sn pr qs pc a b t x mem ps ∧ Dp K H v (Ins.ask g d z).toD ∧ (Ins.ask g d z).ok "teller" ∧ ps.length ≤ 100000 ∧
  ∀ H', Fx [hd, qs] H H' → TkA K H' C wk dx cd hd sn pr qs pc (vput z (if 0 ≤ place x a b g d ∧ mem (place x a b g d) = true then 1 else 0) (a, b)).1 (vput z (if 0 ≤ place x a b g d ∧ mem (place x a b g d) = true then 1 else 0) (a, b)).2 t x mem (if 0 ≤ place x a b g d then putQ (place x a b g d) ps else ps) → Q .non H'
def isort (ps : List Int) : List Int := ps.mergeSort (fun x y => decide (x ≤ y))
theorem isort_perm (ps : List Int) : (isort ps).Perm ps := List.mergeSort_perm _ _
theorem isort_sorted (ps : List Int) : (isort ps).Pairwise (· ≤ ·) := by
  have h := List.pairwise_mergeSort (le := fun (x y : Int) => decide (x ≤ y)) (fun a b c h1 h2 => decide_eq_true (Int.le_trans (of_decide_eq_true h1) (of_decide_eq_true h2))) (fun a b => by
    rcases Int.le_total a b with h | h
    · rw [decide_eq_true h]; rfl
    · rw [decide_eq_true h, Bool.or_true]) ps
  exact h.imp fun h => of_decide_eq_true h
theorem isort_unique {ps ns : List Int} (hp : ns.Perm ps) (hs : ns.Pairwise (· ≤ ·)) : ns = isort ps :=
  List.Perm.eq_of_pairwise (le := (· ≤ ·)) (fun a b _ _ h1 h2 => Int.le_antisymm h1 h2) hs (isort_sorted ps) (hp.trans (isort_perm ps).symm)
def spAP (K : PySem.W.Frag) (C : Addr) : Sp := fun vs H Q _ => ∃ (wk dx cd hd sn pr qs : Addr) (pc : Nat) (a b t x : Int) (mem : Int → Bool) (ps : List Int), vs = [.ref wk] ∧ TkA K H C wk dx cd hd sn pr qs pc a b t x mem ps ∧
  ∀ H' p, Same H H' → H p = none → H' p = some (.lst ((isort ps).map V.int)) → Q (.ref p) H'
section
variable {P : Program} {w : World} {K : PySem.W.Frag} {mg : Str → Option Value} {base : Heap}
theorem scWI : FnScope ["self", "code"] ["self", "code"] (defScope sWI) := ⟨rfl, rfl, rfl, by decide +kernel, rfl, by decide +kernel, by decide +kernel⟩
theorem ok_WI {f C : Addr} {fd : FuncData} (F : Fun K "__init__" "Walk.__init__" sWI f fd) (W : WC K C) : FnOk P w K mg base CX0 1 f fd ["self", "code"] (spWI K C) := by
  refine F.ok scWI (fun vs H Q E h => ?_) (fun cdv A outer s H vs Q E hr h => ?_)
  · obtain ⟨wk, dx, cd, rfl, _⟩ := h
    rfl
  obtain ⟨wk, dx, cd, rfl, hw, q⟩ := h
  refine ⟨_, pss_cons (ps_fld (pv 0) (pv 1) rfl) (pss_cons (ps_fld (pv 0) pe_int rfl) (pss_cons (ps_fld (pv 0) (pe_disp (pps_cons pe_str pe_int (pps_cons pe_str pe_int pps_nil)) rfl rfl (by simp) (by decide)) rfl)
    (pss_cons (ps_fld (pv 0) pe_int rfl) (pss_cons (ps_fld (pv 0) pe_int rfl) (pss_one (ps_fld (pv 0) pe_dnewT rfl)))))), ?_⟩
  refine ⟨_, rfl, _, rfl, wk, C, dx, _, rfl, hw, W.cl, W.nCode, (by show 0 < 1000; decide), ?_⟩
  refine ⟨_, rfl, wk, C, dx, _, rfl, upd_same, W.cl, W.nAt, (by show 1 < 1000; decide), ?_⟩
  intro hd nhd
  have fA : Fx [wk] H (upd (upd H wk (.ins C dx (putF "code" (.ref cd) []))) wk (.ins C dx (putF "at" (.int 0) (putF "code" (.ref cd) [])))) := (Fx.upd (by simp)).trans (Fx.upd (by simp))
  have eA : (upd (upd H wk (.ins C dx (putF "code" (.ref cd) []))) wk (.ins C dx (putF "at" (.int 0) (putF "code" (.ref cd) [])))) wk = some (.ins C dx [("code", .ref cd), ("at", .int 0)]) := upd_same
  have nA : ∀ p, p ≠ wk → (upd (upd H wk (.ins C dx (putF "code" (.ref cd) []))) wk (.ins C dx (putF "at" (.int 0) (putF "code" (.ref cd) [])))) p = none → H p = none := fun p n e => by rw [upd_ne n, upd_ne n] at e; exact e
  generalize upd (upd H wk (.ins C dx (putF "code" (.ref cd) []))) wk (.ins C dx (putF "at" (.int 0) (putF "code" (.ref cd) []))) = HA at fA eA nA nhd ⊢
  have nwh : wk ≠ hd := ne_of_none eA nhd
  refine ⟨upd_same, [(Sum.inr "a", .int 0), (Sum.inr "b", .int 0)], rfl, by decide, ?_⟩
  have fB : Fx [wk] HA (upd (upd HA hd (.dK [])) hd (.dK (mergeK [] [(Sum.inr "a", .int 0), (Sum.inr "b", .int 0)]))) := fun p o n e => by
    rw [upd_ne (ne_of_none e nhd), upd_ne (ne_of_none e nhd)]
    exact e
  have eB : (upd (upd HA hd (.dK [])) hd (.dK (mergeK [] [(Sum.inr "a", .int 0), (Sum.inr "b", .int 0)]))) wk = some (.ins C dx [("code", .ref cd), ("at", .int 0)]) := by rw [upd_ne nwh, upd_ne nwh]; exact eA
  have hB : (upd (upd HA hd (.dK [])) hd (.dK (mergeK [] [(Sum.inr "a", .int 0), (Sum.inr "b", .int 0)]))) hd = some (.dK (hv 0 0)) := upd_same
  generalize upd (upd HA hd (.dK [])) hd (.dK (mergeK [] [(Sum.inr "a", .int 0), (Sum.inr "b", .int 0)])) = HB at fB eB hB ⊢
  refine ⟨_, rfl, wk, C, dx, _, rfl, eB, W.cl, W.nHeld, (by show 2 < 1000; decide), ?_⟩
  refine ⟨_, rfl, wk, C, dx, _, rfl, upd_same, W.cl, W.nCnt, (by show 3 < 1000; decide), ?_⟩
  refine ⟨_, rfl, wk, C, dx, _, rfl, upd_same, W.cl, W.nTak, (by show 4 < 1000; decide), ?_⟩
  intro sn nsn
  rw [upd_ne] at nsn
  · rw [upd_ne, upd_ne] at nsn
    · have nws : wk ≠ sn := ne_of_none eB nsn
      have nhs : hd ≠ sn := ne_of_none hB nsn
      refine ⟨_, rfl, wk, C, dx, _, rfl, (by rw [upd_ne nws]; exact upd_same), W.cl, W.nSeen, (by show 5 < 1000; decide), ?_⟩
      have nsnA : HA sn = none := by
        cases z : HA sn with
        | none => rfl
        | some o =>
          have := fB sn o (by simp; exact fun e => nws e.symm) z
          rw [nsn] at this
          cases this
      refine q _ hd sn ?_ (nA hd (fun e => nwh e.symm) nhd) (nA sn (fun e => nws e.symm) nsnA) nhs ⟨upd_same, ?_⟩ ?_
      · intro p o n e
        have n' : p ≠ wk := fun z => n (by simp [z])
        have e1 := fB p o n (fA p o n e)
        rw [upd_ne n', upd_ne (ne_of_none e1 nsn), upd_ne n', upd_ne n', upd_ne n']
        exact e1
      · rw [upd_ne nwh.symm, upd_ne nhs, upd_ne nwh.symm, upd_ne nwh.symm, upd_ne nwh.symm]
        exact hB
      · rw [upd_ne (fun e => nws e.symm), upd_same]
    · intro z
      rw [z, upd_same] at nsn
      cases nsn
    · intro z
      rw [z, upd_same] at nsn
      cases nsn
  · intro z
    rw [z, upd_same] at nsn
    cases nsn
theorem scTI : FnScope ["self", "code", "position", "members", "member"] ["self", "code", "position", "members"] (defScope sTI) := ⟨rfl, rfl, rfl, by decide +kernel, rfl, by decide +kernel, by decide +kernel⟩
theorem ok_TI {f C cW fW : Addr} {fd dW : FuncData} {mc : Value} (F : Fun K "__init__" "TellerWalk.__init__" sTI f fd) (W : TC K C) (gW : mg "Walk" = some (.ref cW)) (r : ClX.CRead K cW mc) (c : PySem.W.findCls K (.ref cW) mc "__init__" = some (.val (.ref fW))) (kW : PySem.W.keepIn K (.ref fW) = true)
    (GW : FnOk P w K mg base CX0 1 fW dW ["self", "code"] (spWI K C)) (bW : Binds K dW ["self", "code"] []) : FnOk P w K mg base CX0 2 f fd ["self", "code", "position", "members"] (spTI K C) := by
  refine F.ok scTI (fun vs H Q E h => ?_) (fun cdv A outer s H vs Q E hr h => ?_)
  · obtain ⟨wk, dx, cd, m, x, ns, rfl, _⟩ := h
    rfl
  obtain ⟨wk, dx, cd, m, x, ns, rfl, hw, hm, hl, q⟩ := h
  have T := W.wc
  refine ⟨_, pss_cons (ps_expr (pe_cfun (pe_gref rfl gW) r c kW GW hr bW .nil pass0 (pa_cons (pv 0) (pa_cons (pv 1) pa_nil))))
    (pss_cons (ps_fld (pv 0) (pv 2) rfl)
    (pss_cons (ps_fld (pv 0) (pe_dc (own := [("member", 4)]) (g := gName 4) (tt := tYes) rfl scTI.nd (pi_list (pv 3)) (blkOk_by (N := ["self", "code", "position", "members", "member"]) (sc := defScope sTI) (by decide +kernel))
      (fun _ _ _ _ _ => pg_name (i := 4) scTI.nd rfl (.inl rfl)) (fun _ _ _ _ _ => pts_nil) (fun _ _ _ _ _ => pv 4) (fun _ _ _ _ _ => pe_bl)) rfl)
    (pss_one (ps_fld (pv 0) pe_dnewK rfl)))), ?_⟩
  refine ⟨rfl, _, rfl, _, rfl, wk, dx, cd, rfl, hw, fun H1 hd sn f1 nhd nsn nhs w1 e1 => ?_⟩
  have hm1 : SqL K H1 m (ns.map V.int) := KeepS.lst (fun a o ho e => f1 a o (by
    intro z
    rw [List.mem_singleton.mp z, hw] at e
    cases e
    exact ho) e) hm
  refine ⟨_, rfl, _, rfl, wk, C, dx, _, rfl, w1.ob, T.cl, W.nPos, (by show 6 < 1000; decide), ?_⟩
  have nwh : wk ≠ hd := fun z => by have := w1.hl; rw [← z, w1.ob] at this; cases this
  have nws : wk ≠ sn := fun z => by rw [← z, w1.ob] at e1; cases e1
  have e2 : (upd H1 wk (.ins C dx (putF "position" (.int x) (wf cd hd sn 0 0 0 [])))) wk = some (.ins C dx (wf cd hd sn 0 0 0 [("position", .int x)])) := upd_same
  have f2 : Fx [wk] H (upd H1 wk (.ins C dx (putF "position" (.int x) (wf cd hd sn 0 0 0 [])))) := f1.trans (Fx.upd (by simp))
  have k2 : KeepS H1 (upd H1 wk (.ins C dx (putF "position" (.int x) (wf cd hd sn 0 0 0 [])))) := KeepS.upd w1.ob (fun z => z)
  have h2 : (upd H1 wk (.ins C dx (putF "position" (.int x) (wf cd hd sn 0 0 0 [])))) hd = some (.dK (hv 0 0)) := by rw [upd_ne nwh.symm]; exact w1.hl
  have n2 : (upd H1 wk (.ins C dx (putF "position" (.int x) (wf cd hd sn 0 0 0 [])))) sn = some (.dT []) := by rw [upd_ne nws.symm]; exact e1
  generalize upd H1 wk (.ins C dx (putF "position" (.int x) (wf cd hd sn 0 0 0 []))) = H2 at e2 f2 k2 h2 n2 ⊢
  have hm2 := k2.lst hm1
  refine ⟨_, rfl, m, rfl, ⟨_, hm2⟩, fun D nD => dc_list (K := K) (a := m) (xs := ns.map V.int) (fun i H' => Same H2 H' ∧ ∃ kvs, H' D = some (.dK kvs) ∧ kvs.length ≤ i ∧ ∀ z : Int, (valV kvs (Sum.inl z : Key)).isSome = decide (z ∈ ns.take i)) ⟨same_new nD _, [], upd_same, by decide, fun z => by simp [valV]⟩ (fun i H' _ ⟨s1, _⟩ => s1.seq hm2) ?_ ?_⟩
  · rintro i y H3 hy ⟨s3, kvs, hk, hkl, hkv⟩
    have hi : i < ns.length := by
      have := (List.getElem?_eq_some_iff.mp hy).1
      rwa [List.length_map] at this
    obtain ⟨n, hn, rfl⟩ : ∃ n, ns[i]? = some n ∧ y = .int n := by
      rw [List.getElem?_map] at hy
      cases e : ns[i]? with
      | none => rw [e] at hy; cases hy
      | some n => rw [e] at hy; exact ⟨n, rfl, by injection hy with hy; exact hy.symm⟩
    refine ⟨rfl, ?_⟩
    dsimp only [tYes]
    rw [if_pos rfl]
    refine ⟨_, rfl, kvs, Sum.inl n, rfl, hk, Nat.lt_of_le_of_lt (Nat.le_trans hkl (Nat.le_trans (Nat.le_of_lt hi) hl)) (by decide), same_upd s3 nD _, _, upd_same, ?_, fun z => ?_⟩
    · unfold putK
      split
      · rw [List.length_map]; omega
      · rw [List.length_append]; show kvs.length + 1 ≤ i + 1; omega
    · rw [valV_put, take_snoc hn]
      by_cases e : z = n
      · subst e
        rw [if_pos rfl]
        simp
      · rw [if_neg (by intro c; injection c with c; exact e c), hkv z]
        simp [e]
  · rintro H3 ⟨s3, kvs, hk, hkl, hkv⟩
    rw [List.length_map, List.take_length] at hkv
    have nwD : wk ≠ D := ne_of_none e2 nD
    refine ⟨_, rfl, wk, C, dx, _, rfl, s3 _ _ e2, T.cl, W.nPre, (by show 7 < 1000; decide), ?_⟩
    have h3 := s3 _ _ h2
    have n3 := s3 _ _ n2
    have f4 : Fx [wk] H (upd H3 wk (.ins C dx (putF "present" (.ref D) (wf cd hd sn 0 0 0 [("position", .int x)])))) := (f2.trans (Fx.of s3)).trans (Fx.upd (by simp))
    have e4 : (upd H3 wk (.ins C dx (putF "present" (.ref D) (wf cd hd sn 0 0 0 [("position", .int x)])))) wk = some (.ins C dx (wf cd hd sn 0 0 0 [("position", .int x), ("present", .ref D)])) := upd_same
    have h4 : (upd H3 wk (.ins C dx (putF "present" (.ref D) (wf cd hd sn 0 0 0 [("position", .int x)])))) hd = some (.dK (hv 0 0)) := by rw [upd_ne nwh.symm]; exact h3
    have n4 : (upd H3 wk (.ins C dx (putF "present" (.ref D) (wf cd hd sn 0 0 0 [("position", .int x)])))) sn = some (.dT []) := by rw [upd_ne nws.symm]; exact n3
    have d4 : (upd H3 wk (.ins C dx (putF "present" (.ref D) (wf cd hd sn 0 0 0 [("position", .int x)])))) D = some (.dK kvs) := by rw [upd_ne nwD.symm]; exact hk
    generalize upd H3 wk (.ins C dx (putF "present" (.ref D) (wf cd hd sn 0 0 0 [("position", .int x)]))) = H4 at e4 f4 h4 n4 d4 ⊢
    intro qs nqs
    have nwq : wk ≠ qs := ne_of_none e4 nqs
    have s5 : Same H4 (upd H4 qs (.dK [])) := same_new nqs _
    have q5 : (upd H4 qs (.dK [])) qs = some (.dK []) := upd_same
    generalize upd H4 qs (.dK []) = H5 at s5 q5 ⊢
    refine ⟨_, rfl, wk, C, dx, _, rfl, s5 _ _ e4, T.cl, W.nQue, (by show 8 < 1000; decide), ?_⟩
    have free : ∀ p, p ≠ wk → H4 p = none → H p = none := fun p n e => by
      cases z : H p with
      | none => rfl
      | some o =>
        have := f4 p o (by simp; exact n) z
        rw [e] at this
        cases this
    have freeD : H D = none := by
      cases z : H D with
      | none => rfl
      | some o =>
        have := f2 D o (by simp; exact fun e => nwD e.symm) z
        rw [nD] at this
        cases this
    have nwh' : hd ≠ wk := nwh.symm
    refine q _ hd sn D qs ((f4.trans (Fx.of s5)).trans (Fx.upd (by simp))) nhd nsn freeD (free qs (fun e => nwq e.symm) nqs) ⟨⟨upd_same, ?_⟩, ⟨kvs, ?_, hkv⟩, ?_, fun e => ?_, fun e => ?_⟩ ?_
    · rw [upd_ne nwh']; exact s5 _ _ h4
    · rw [upd_ne nwD.symm]; exact s5 _ _ d4
    · rw [upd_ne nwq.symm]; exact q5
    · rw [e, nqs] at d4; cases d4
    · rw [e, nD] at h2; cases h2
    · rw [upd_ne nws.symm]; exact s5 _ _ n4
theorem scPl : FnScope ["self", "sign", "term"] ["self", "sign", "term"] (defScope sPl) := ⟨rfl, rfl, rfl, by decide +kernel, rfl, by decide +kernel, by decide +kernel⟩
theorem ok_Pl {f C : Addr} {fd : FuncData} (F : Fun K "place_of" "TellerWalk.place_of" sPl f fd) (W : TC K C) (MW : MCal P w K mg base 1 C "worth" ["self", "term"] (spWorth K C)) : FnOk P w K mg base CX0 2 f fd ["self", "sign", "term"] (spPl K C) := by
  refine F.ok scPl (fun vs H Q E h => ?_) (fun cdv A outer s H vs Q E hr h => ?_)
  · obtain ⟨wk, dx, cd, hd, sn, pr, qs, pc, a, b, t, x, g, v, d, rfl, _⟩ := h
    rfl
  obtain ⟨wk, dx, cd, hd, sn, pr, qs, pc, a, b, t, x, g, v, d, rfl, hw, hdv, ht, hg, q⟩ := h
  have T := W.wc
  have hn := noM_T x pr qs
  refine ⟨_, pss_cons (ps_if (pt_cmpR op_eq (pv 1) pe_str (nomark _)) (pss_one (ps_ret (pe_op op_add (pe_fld (pv 0) rfl) (pe_meth (pv 0) T.cl MW.m MW.G hr MW.b .nil pass0 (pa_cons (pv 2) pa_nil))))) pss_nil)
    (pss_cons (ps_if (pt_cmpR op_eq (pv 1) pe_str (nomark _)) (pss_one (ps_ret (pe_op op_sub (pe_fld (pv 0) rfl) (pe_meth (pv 0) T.cl MW.m MW.G hr MW.b .nil pass0 (pa_cons (pv 2) pa_nil))))) pss_nil)
    (pss_one (ps_ret (pe_meth (pv 0) T.cl MW.m MW.G hr MW.b .nil pass0 (pa_cons (pv 2) pa_nil))))), ?_⟩
  refine ⟨_, rfl, rfl, _, rfl, ?_⟩
  rcases hg with rfl | rfl | rfl
  · refine strT ⟨_, rfl, wk, C, dx, _, _, rfl, hw.ob, T.cl, W.nPos, rfl, _, rfl, wk, dx, _, rfl, hw.ob, hn.1, _, rfl, ?_⟩
    exact ⟨wk, dx, cd, hd, sn, pc, a, b, 0, t, _, v, d, rfl, hw, hdv, ht, _, _, rfl, rfl, q⟩
  · refine strF (by decide +kernel) ⟨_, rfl, rfl, _, rfl, strT ⟨_, rfl, wk, C, dx, _, _, rfl, hw.ob, T.cl, W.nPos, rfl, _, rfl, wk, dx, _, rfl, hw.ob, hn.1, _, rfl, ?_⟩⟩
    exact ⟨wk, dx, cd, hd, sn, pc, a, b, 0, t, _, v, d, rfl, hw, hdv, ht, _, _, rfl, rfl, q⟩
  · refine strF (by decide +kernel) ⟨_, rfl, rfl, _, rfl, strF (by decide +kernel) ⟨_, rfl, wk, dx, _, rfl, hw.ob, hn.1, _, rfl, ?_⟩⟩
    exact ⟨wk, dx, cd, hd, sn, pc, a, b, 0, t, _, v, d, rfl, hw, hdv, ht, q⟩
theorem scAsk : FnScope ["self", "instruction", "sign", "term", "variable", "place"] ["self", "instruction"] (defScope sAsk) := ⟨rfl, rfl, rfl, by decide +kernel, rfl, by decide +kernel, by decide +kernel⟩
theorem scAP : FnScope ["self"] ["self"] (defScope sAP) := ⟨rfl, rfl, rfl, by decide +kernel, rfl, by decide +kernel, by decide +kernel⟩
theorem ok_AP {f C : Addr} {fd : FuncData} (F : Fun K "asked_places" "TellerWalk.asked_places" sAP f fd) (W : TC K C) (ms : mg "sorted" = none) (ml : mg "list" = none) : FnOk P w K mg base CX0 1 f fd ["self"] (spAP K C) := by
  refine F.ok scAP (fun vs H Q E h => ?_) (fun cdv A outer s H vs Q E hr h => ?_)
  · obtain ⟨wk, dx, cd, hd, sn, pr, qs, pc, a, b, t, x, mem, ps, rfl, _⟩ := h
    rfl
  obtain ⟨wk, dx, cd, hd, sn, pr, qs, pc, a, b, t, x, mem, ps, rfl, hw, q⟩ := h
  have T := W.wc
  refine ⟨_, pss_one (ps_ret (pe_callB cr_sortedI (by rfl) ms (by decide +kernel) (pa_cons (pe_callTy (call_list_dK rfl) (by rfl) ml (by decide +kernel) (pa_cons (pe_fld (pv 0) rfl) pa_nil)) pa_nil))), ?_⟩
  refine ⟨_, rfl, wk, C, dx, _, _, rfl, hw.wa.ob, T.cl, W.nQue, rfl, qs, _, rfl, hw.que, fun l nl => ?_⟩
  have e : (qD ps).map (fun kv => kV kv.1) = ps.map V.int := by
    unfold qD
    rw [List.map_map]
    rfl
  rw [e]
  have s1 := same_new nl (.lst (ps.map V.int))
  refine ⟨l, ps, rfl, SqL.of upd_same, fun ns p hp hs np => ?_⟩
  rw [isort_unique hp hs]
  exact q _ p (s1.trans (same_new np _)) (s1.free np) upd_same
end
section
variable {P : Program} {w : World} {K : PySem.W.Frag} {mg : Str → Option Value} {base : Heap}
theorem ok_ask {f C : Addr} {fd : FuncData} (F : Fun K "ask" "TellerWalk.ask" sAsk f fd) (W : TC K C) (MP : MCal P w K mg base 2 C "place_of" ["self", "sign", "term"] (spPl K C)) : FnOk P w K mg base CX0 3 f fd ["self", "instruction"] (spAsk K C) := by
  refine F.ok scAsk (fun vs H Q E h => ?_) (fun cdv A outer s H vs Q E hr h => ?_)
  · obtain ⟨wk, dx, cd, hd, sn, pr, qs, pc, a, b, t, x, mem, ps, v, g, z, d, rfl, _⟩ := h
    rfl
  obtain ⟨wk, dx, cd, hd, sn, pr, qs, pc, a, b, t, x, mem, ps, v, g, z, d, rfl, hw, hdv, hi, hlp, q⟩ := h
  have T := W.wc
  have hu := hu_of hr
  refine ⟨_, pss_cons (ps_asg (pe_slice sl_tup (pv 1) (po_some pe_int) po_none) (pg_tup (by rfl) (pgs_cons (pg_name (i := 2) scAsk.nd rfl (.inl rfl)) (pgs_cons (pg_name (i := 3) scAsk.nd rfl (.inl rfl)) (pgs_cons (pg_name (i := 4) scAsk.nd rfl (.inl rfl)) pgs_nil)))))
    (pss_cons (ps_set (i := 5) scAsk.nd rfl (.inl rfl) (pe_meth (pv 0) T.cl MP.m MP.G hr MP.b .nil pass0 (pa_cons (pv 2) (pa_cons (pv 3) pa_nil))))
    (pss_cons (ps_if (pt_cmpR op_ge (pv 5) pe_int (nomark _)) (pss_one (ps_dput hu (pe_fld (pv 0) rfl) (pv 5) pe_bl rfl)) pss_nil)
    (pss_one (ps_dput hu (pe_fld (pv 0) rfl) (pv 4) (pe_ifExp (PW.pt (pw_and (pt_cmpR op_ge (pv 5) pe_int (nomark _)) (pw_and1 (pt_cmp (pc_din hu (pv 5) (pe_fld (pv 0) rfl)))))) pe_int pe_int) rfl)))), ?_⟩
  obtain ⟨p, xr, rfl, hs, ha⟩ := ins_inv hdv
  obtain ⟨x0, y, x2, rfl, hx0, hy, hx2⟩ := dp_trip ha
  cases hx0
  cases hx2
  obtain ⟨_, hg, ht, hz⟩ := hi
  refine ⟨_, rfl, _, rfl, p, _, rfl, hs, not_whole1 _ _, fun r nr => ?_⟩
  rw [cut1]
  have s3 : Same H (upd H r (.tup [.str g, y, .str z])) := same_new nr _
  have er : (upd H r (.tup [.str g, y, .str z])) r = some (.tup [.str g, y, .str z]) := upd_same
  generalize upd H r (.tup [.str g, y, .str z]) = H3 at s3 er ⊢
  have e3 := s3 _ _ hw.wa.ob
  have h3 := s3 _ _ hw.wa.hl
  obtain ⟨kvs, hpre, hmem⟩ := hw.pre
  have p3 := s3 _ _ hpre
  have q3 := s3 _ _ hw.que
  refine ⟨r, _, rfl, SqT.of er, rfl, _, _, rfl, _, _, rfl, _, _, rfl, rfl, ?_⟩
  refine ⟨_, rfl, wk, dx, _, rfl, e3, rfl, _, rfl, _, rfl, ?_⟩
  refine ⟨wk, dx, cd, hd, sn, pr, qs, pc, a, b, t, x, g, y, d, rfl, ⟨e3, h3⟩, dp_mono s3 _ _ hy, ht, hg, ?_⟩
  refine ⟨_, rfl, _, _, rfl, rfl, _, rfl, ?_⟩
  have nwh : hd ≠ wk := fun z => by rw [z, e3] at h3; cases h3
  have nwq : qs ≠ wk := fun z => by rw [z, e3] at q3; cases q3
  generalize place x a b g d = pl at q ⊢
  by_cases c0 : 0 ≤ pl
  · refine ite2 (fun _ => ?_) (fun c => absurd (decide_eq_true (by show (0 : Int) ≤ pl; exact c0)) c)
    refine ⟨_, rfl, wk, C, dx, _, _, rfl, e3, T.cl, W.nQue, rfl, _, rfl, qs, _, rfl, DPut.k (k := Sum.inl pl) q3 (by unfold qD; rw [List.length_map]; exact Nat.lt_of_le_of_lt hlp (by decide)), ?_⟩
    rw [qD_put]
    have e4 : (upd H3 qs (.dK (qD (putQ pl ps)))) wk = some (.ins C dx (wf cd hd sn pc 0 t (exT x pr qs))) := by rw [upd_ne nwq.symm]; exact e3
    have f4 : Fx [hd, qs] H (upd H3 qs (.dK (qD (putQ pl ps)))) := (Fx.of s3).trans (Fx.upd (by simp))
    -- the held dict and the questions are two dicts: told apart by their keys where they might be one
    by_cases nhq : hd = qs
    · exfalso
      rw [nhq, q3] at h3
      injection h3 with h3
      injection h3 with h3
      cases ps with
      | nil => cases h3
      | cons p0 r0 =>
        injection h3 with h3 _
        injection h3 with h3 _
        cases h3
    have h4 : (upd H3 qs (.dK (qD (putQ pl ps)))) hd = some (.dK (hv a b)) := by rw [upd_ne nhq]; exact h3
    have q4 : (upd H3 qs (.dK (qD (putQ pl ps)))) qs = some (.dK (qD (putQ pl ps))) := upd_same
    by_cases npq : pr = qs
    · -- never: the present members keep their own dict
      exact absurd npq (hw.apart).1
    have p4 : (upd H3 qs (.dK (qD (putQ pl ps)))) pr = some (.dK kvs) := by rw [upd_ne npq]; exact p3
    generalize upd H3 qs (.dK (qD (putQ pl ps))) = H4 at e4 f4 h4 q4 p4 ⊢
    rw [if_pos c0] at q
    refine ⟨_, rfl, _, _, rfl, rfl, _, rfl, ?_⟩
    refine ite2 (fun _ => ?_) (fun c => absurd (decide_eq_true (by show (0 : Int) ≤ pl; exact c0)) c)
    refine ⟨_, rfl, _, rfl, wk, C, dx, _, _, rfl, e4, T.cl, W.nPre, rfl, pr, _, rfl, DGet.k (k := Sum.inl pl) p4, _, rfl, ?_⟩
    rw [hmem pl]
    have fin : ∀ n : Int, n = (if 0 ≤ pl ∧ mem pl = true then 1 else 0) → Q .non (upd H4 hd (.dK (putK (hv a b) (Sum.inr z : Key) (.int n)))) := by
      intro n en
      subst en
      refine q _ (f4.trans (Fx.upd (by simp))) ⟨⟨?_, ?_⟩, ⟨kvs, ?_, hmem⟩, ?_, hw.apart⟩
      · rw [upd_ne nwh.symm]; exact e4
      · rw [upd_same, hv_put hz]
      · rw [upd_ne (hw.apart).2.symm]; exact p4
      · rw [upd_ne (fun e => nhq e.symm)]; exact q4
    cases hm : mem pl with
    | true => exact iteT ⟨_, rfl, wk, C, dx, _, _, rfl, e4, T.cl, T.nHeld, rfl, _, rfl, hd, _, rfl, DPut.k (k := Sum.inr z) h4 (by show 2 < sizeLine; decide), fin 1 (by rw [if_pos ⟨c0, hm⟩])⟩
    | false => exact iteF ⟨_, rfl, wk, C, dx, _, _, rfl, e4, T.cl, T.nHeld, rfl, _, rfl, hd, _, rfl, DPut.k (k := Sum.inr z) h4 (by show 2 < sizeLine; decide), fin 0 (by rw [if_neg (fun c => by rw [hm] at c; cases c.2)])⟩
  · refine ite2 (fun c => absurd (of_decide_eq_true c) (by show ¬ (0 : Int) ≤ pl; exact c0)) (fun _ => ?_)
    rw [if_neg c0] at q
    refine ⟨_, rfl, _, _, rfl, rfl, _, rfl, ?_⟩
    refine ite2 (fun c => absurd (of_decide_eq_true c) (by show ¬ (0 : Int) ≤ pl; exact c0)) (fun _ => iteF ?_)
    refine ⟨_, rfl, wk, C, dx, _, _, rfl, e3, T.cl, T.nHeld, rfl, _, rfl, hd, _, rfl, DPut.k (k := Sum.inr z) h3 (by show 2 < sizeLine; decide), ?_⟩
    have nhq : ¬ hd = qs := by
      intro nhq
      rw [nhq, q3] at h3
      injection h3 with h3
      injection h3 with h3
      cases ps with
      | nil => cases h3
      | cons p0 r0 =>
        injection h3 with h3 _
        injection h3 with h3 _
        cases h3
    refine q _ ((Fx.of s3).trans (Fx.upd (by simp))) ⟨⟨?_, ?_⟩, ⟨kvs, ?_, hmem⟩, ?_, hw.apart⟩
    · rw [upd_ne nwh.symm]; exact e3
    · rw [upd_same, hv_put hz, if_neg (fun c => c0 c.1)]
    · rw [upd_ne (hw.apart).2.symm]; exact p3
    · rw [upd_ne (fun e => nhq e.symm)]; exact q3
end
structure S3 where
  pc : Nat
  a : Int
  b : Int
deriving DecidableEq
/-- what comes of a run -/
inductive Res where
  | ans (v t : Int) (ps : List Int)
  | ended (t : Int) (ps : List Int)
  | silent (f s : Int) (ps : List Int)
  | run (ps : List Int)
def lookS (s : S3) (seen : List (S3 × Int)) : Option Int := (seen.find? fun e => decide (e.1 = s)).map (·.2)
def over (lim : Option Int) (t : Int) : Bool := match lim with
  | none => false
  | some L => decide (L < t)
def askQ (x : Int) (s : S3) (i : Ins) (ps : List Int) : List Int := match i with
  | .ask g d _ => if 0 ≤ place x s.a s.b g d then putQ (place x s.a s.b g d) ps else ps
  | _ => ps
def heldS (x : Int) (mem : Int → Bool) (s : S3) (i : Ins) : Int × Int := match i with
  | .ask g d z => vput z (if 0 ≤ place x s.a s.b g d ∧ mem (place x s.a s.b g d) = true then 1 else 0) (s.a, s.b)
  | i => i.held s.a s.b
def nextS (x : Int) (mem : Int → Bool) (s : S3) (i : Ins) : S3 := ⟨i.next s.pc s.a s.b, (heldS x mem s i).1, (heldS x mem s i).2⟩
def ansOf : Ins → Option Int
  | .ans v => some v
  | _ => none
def repS (lim : Option Int) (f t : Int) (ps : List Int) : Res := match lim with
  | none => .silent f t ps
  | some _ => .run ps
def loopF (code : List Ins) (x : Int) (mem : Int → Bool) (lim : Option Int) : Nat → S3 → Int → List (S3 × Int) → List Int → Res
  | 0, _, _, _, ps => .run ps
  | n + 1, s, t, seen, ps => match lookS s seen with
    | some f => repS lim f t ps
    | none => match code[s.pc]? with
      | none => .ended t ps
      | some i => if over lim (t + i.cost) = true then .run ps else match ansOf i with
        | some v => .ans v (t + i.cost) ps
        | none => loopF code x mem lim n (nextS x mem s i) (t + i.cost) (seen ++ [(s, t)]) (askQ x s i ps)
def fuel (code : List Ins) : Nat := code.length * 256 + 1
def runF (code : List Ins) (x : Int) (mem : Int → Bool) (lim : Option Int) : Res := loopF code x mem lim (fuel code) ⟨0, 0, 0⟩ 0 [] []
/-! ### at most so many states -/
def enc (s : S3) : Nat := (s.pc * 16 + s.a.toNat) * 16 + s.b.toNat
def okS3 (code : List Ins) (s : S3) : Prop := s.pc < code.length ∧ in16 s.a s.b
theorem enc_lt {code : List Ins} {s : S3} (h : okS3 code s) : enc s < code.length * 256 := by
  obtain ⟨h1, ⟨h2, h3⟩, h4, h5⟩ := h
  unfold enc
  omega
theorem enc_inj {code : List Ins} {s s' : S3} (h : okS3 code s) (h' : okS3 code s') (e : enc s = enc s') : s = s' := by
  obtain ⟨pc, a, b⟩ := s
  obtain ⟨pc', a', b'⟩ := s'
  obtain ⟨h1, ⟨h2, h3⟩, h4, h5⟩ := h
  obtain ⟨h1', ⟨h2', h3'⟩, h4', h5'⟩ := h'
  unfold enc at e
  simp only at h1 h2 h3 h4 h5 h1' h2' h3' h4' h5' e
  have e1 : pc = pc' := by omega
  have e2 : a = a' := by omega
  have e3 : b = b' := by omega
  rw [e1, e2, e3]
theorem few_states {code : List Ins} {ss : List S3} (hn : ss.Nodup) (h : ∀ s ∈ ss, okS3 code s) : ss.length ≤ code.length * 256 := by
  have h1 : (ss.map enc).Nodup := by
    induction ss with
    | nil => exact List.nodup_nil
    | cons s r ih =>
      rw [List.nodup_cons] at hn
      rw [List.map_cons, List.nodup_cons]
      refine ⟨fun m => ?_, ih hn.2 fun x m => h x (List.mem_cons_of_mem _ m)⟩
      obtain ⟨s', ms, e⟩ := List.mem_map.mp m
      have := enc_inj (h s' (List.mem_cons_of_mem _ ms)) (h s (by simp)) e
      exact hn.1 (this ▸ ms)
  have h2 : ss.map enc ⊆ List.range (code.length * 256) := by
    intro n m
    obtain ⟨s, ms, rfl⟩ := List.mem_map.mp m
    exact List.mem_range.mpr (enc_lt (h s ms))
  have := List.Nodup.length_le_of_subset h1 h2
  rwa [List.length_map, List.length_range] at this
theorem lookS_none {s : S3} {seen : List (S3 × Int)} (h : lookS s seen = none) : s ∉ seen.map (·.1) := by
  intro m
  obtain ⟨e, me, es⟩ := List.mem_map.mp m
  unfold lookS at h
  rw [Option.map_eq_none_iff, List.find?_eq_none] at h
  have := h e me
  simp [es] at this
/-! ### the dict of states -/
def keyOf (s : S3) : List Key := keyS s.pc s.a s.b
theorem keyOf_inj {s s' : S3} (h : keyOf s = keyOf s') : s = s' := by
  obtain ⟨pc, a, b⟩ := s
  obtain ⟨pc', a', b'⟩ := s'
  unfold keyOf keyS at h
  injection h with h1 h
  injection h with h2 h
  injection h with h3 h
  injection h1 with h1
  injection h2 with h2
  injection h3 with h3
  simp only at h1 h2 h3
  have e1 : pc = pc' := by omega
  rw [e1, h2, h3]
inductive SeenR (H : Hp) : List (List Key × V) → List (S3 × Int) → Prop
  | nil : SeenR H [] []
  | cons {s : S3} {t : Int} {r : Addr} {kvs : List (List Key × V)} {seen : List (S3 × Int)} : H r = some (.tup [.int t, .int 0]) → SeenR H kvs seen → SeenR H ((keyOf s, .ref r) :: kvs) ((s, t) :: seen)
theorem SeenR.len {H : Hp} : ∀ {kvs : List (List Key × V)} {seen : List (S3 × Int)}, SeenR H kvs seen → kvs.length = seen.length
  | _, _, .nil => rfl
  | _, _, .cons _ h => by rw [List.length_cons, List.length_cons, h.len]
theorem SeenR.refs {H : Hp} : ∀ {kvs : List (List Key × V)} {seen : List (S3 × Int)}, SeenR H kvs seen → ∀ p ∈ kvs, ∃ r, p.2 = .ref r
  | _, _, .nil => fun p m => nomatch m
  | _, _, .cons _ h => fun p m => by
    rcases List.mem_cons.mp m with rfl | m
    · exact ⟨_, rfl⟩
    · exact h.refs p m
theorem SeenR.keep {H H' : Hp} (k : KeepS H H') : ∀ {kvs : List (List Key × V)} {seen : List (S3 × Int)}, SeenR H kvs seen → SeenR H' kvs seen
  | _, _, .nil => .nil
  | _, _, .cons e h => .cons (k _ _ trivial e) (h.keep k)
theorem SeenR.snoc {H : Hp} {s : S3} {t : Int} {r : Addr} (e : H r = some (.tup [.int t, .int 0])) : ∀ {kvs : List (List Key × V)} {seen : List (S3 × Int)}, SeenR H kvs seen → SeenR H (kvs ++ [(keyOf s, .ref r)]) (seen ++ [(s, t)])
  | _, _, .nil => .cons e .nil
  | _, _, .cons e' h => .cons e' (h.snoc e)
theorem SeenR.look {H : Hp} (s : S3) : ∀ {kvs : List (List Key × V)} {seen : List (S3 × Int)}, SeenR H kvs seen →
    (valV kvs (keyOf s) = none ∧ lookS s seen = none) ∨ ∃ r t, valV kvs (keyOf s) = some (.ref r) ∧ lookS s seen = some t ∧ H r = some (.tup [.int t, .int 0])
  | _, _, .nil => .inl ⟨rfl, rfl⟩
  | _, _, .cons (s := s0) (t := t0) (r := r0) (kvs := kvs) (seen := seen) e h => by
    by_cases c : s0 = s
    · subst c
      refine .inr ⟨r0, t0, valV_pos rfl, ?_, e⟩
      simp [lookS]
    · have e1 : lookS s ((s0, t0) :: seen) = lookS s seen := by simp [lookS, List.find?_cons, c]
      have e2 : valV ((keyOf s0, V.ref r0) :: kvs) (keyOf s) = valV kvs (keyOf s) := valV_neg (fun z => c (keyOf_inj z))
      rw [e1, e2]
      exact h.look s
/-! ### the object that tells it -/
def resOut : Res → Str
  | .ans _ _ _ => "answered"
  | .ended _ _ => "ended"
  | .silent _ _ _ => "silent"
  | .run _ => "running"
def resAns : Res → V
  | .ans v _ _ => .int v
  | _ => .non
def resLen : Res → V
  | .ans _ t _ => .int t
  | .ended t _ => .int t
  | _ => .non
def resFst : Res → V
  | .silent f _ _ => .int f
  | _ => .non
def resSnd : Res → V
  | .silent _ s _ => .int s
  | _ => .non
def resPs : Res → List Int
  | .ans _ _ ps => isort ps
  | .ended _ ps => isort ps
  | .silent _ _ ps => isort ps
  | .run ps => isort ps
def rf (o : Str) (an l f s : V) (as : Addr) : List (Str × V) := [("outcome", .str o), ("answer", an), ("length", l), ("first", f), ("second", s), ("asked", .ref as)]
def RunV (H : Hp) (C r dx as : Addr) (o : Str) (an l f s : V) (ns : List Int) : Prop := H r = some (.ins C dx (rf o an l f s as)) ∧ H as = some (.lst (ns.map V.int))
def RunA (H : Hp) (C r : Addr) (R : Res) : Prop := ∃ dx as, RunV H C r dx as (resOut R) (resAns R) (resLen R) (resFst R) (resSnd R) (resPs R)
/-- the same, with a list of its own -/
def RunN (H H' : Hp) (C r : Addr) (R : Res) : Prop := ∃ dx as, H as = none ∧ RunV H' C r dx as (resOut R) (resAns R) (resLen R) (resFst R) (resSnd R) (resPs R)
theorem RunN.back {H0 H H' : Hp} {C r : Addr} {R : Res} (s : Same H0 H) (h : RunN H H' C r R) : RunN H0 H' C r R := by
  obtain ⟨dx, as, n, rv⟩ := h
  exact ⟨dx, as, s.free n, rv⟩
abbrev sRI : Stmt := inClass (top 55) 0
abbrev sRep : Stmt := top 57
abbrev sTR : Stmt := top 56
abbrev psR : List Str := ["self", "outcome", "asked", "answer", "length", "first", "second"]
def limV : Option Int → V
  | none => .non
  | some L => .int L
def spRI (K : PySem.W.Frag) (C : Addr) : Sp := fun vs H Q _ => ∃ (r dx q : Addr) (o : Str) (an l f s : V) (ns : List Int), vs = [.ref r, .str o, .ref q, an, l, f, s] ∧ H r = some (.ins C dx []) ∧ SqL K H q (ns.map V.int) ∧
  ∀ H' as, Fx [r] H H' → H as = none → RunV H' C r dx as o an l f s ns → Q .non H'
/-- the class Run, its names and its calls -/
structure RCl (P : Program) (w : World) (K : PySem.W.Frag) (mg : Str → Option Value) (base : Heap) where
  C : Addr
  fI : Addr
  dI : FuncData
  g : mg "Run" = some (.ref C)
  M : Mk K C fI
  G : FnOk P w K mg base CX0 1 fI dI psR (spRI K C)
  kE : ∃ g, KBn K dI psR 3 ["length"] g (fun vs zs => vs ++ ([V.non] ++ (zs ++ [V.non, V.non])))
  kA : ∃ g, KBn K dI psR 3 ["answer", "length"] g (fun vs zs => vs ++ (zs ++ [V.non, V.non]))
  kS : ∃ g, KBn K dI psR 3 ["first", "second"] g (fun vs zs => vs ++ ([V.non, V.non] ++ zs))
  kR : ∃ ds, Vals [V.non, V.non, V.non, V.non] ds ∧ Binds K dI psR ds
structure RNo (K : PySem.W.Frag) (C : Addr) : Prop where
  cl : Cls K C
  nO : NoAttr K C "outcome"
  nA : NoAttr K C "answer"
  nL : NoAttr K C "length"
  nF : NoAttr K C "first"
  nS : NoAttr K C "second"
  nQ : NoAttr K C "asked"
def spRep (K : PySem.W.Frag) (C CR : Addr) : Sp := fun vs H Q _ => ∃ (wk dx cd hd sn pr qs : Addr) (pc : Nat) (a b t x : Int) (mem : Int → Bool) (ps : List Int) (f : Int) (lim : Option Int), vs = [.ref wk, .int f, limV lim] ∧ TkA K H C wk dx cd hd sn pr qs pc a b t x mem ps ∧
  ∀ H' r, Same H H' → H r = none → RunN H H' CR r (repS lim f t ps) → Q (.ref r) H'
def spTR (K : PySem.W.Frag) (CR : Addr) : Sp := fun vs H Q _ => ∃ (cd m : Addr) (x : Int) (lim : Option Int) (xs : List V) (code : List Ins) (ns : List Int), vs = [.ref cd, .int x, .ref m, limV lim] ∧ SqL K H cd xs ∧ DpAll K H xs (code.map Ins.toD) ∧ (∀ i ∈ code, i.ok "teller") ∧ code.length ≤ 100 ∧ SqL K H m (ns.map V.int) ∧ ns.length ≤ 10000 ∧
  ∀ H' r, Same H H' → H r = none → RunN H H' CR r (runF code x (fun z => decide (z ∈ ns)) lim) → Q (.ref r) H'
/-- the new object's place is no place of before -/
theorem made_same {H H' : Hp} {x dx C : Addr} (nx : H x = none) (ndx : H dx = none) (f : Fx [x] (upd (upd H dx (.own x)) x (.ins C dx [])) H') : Same H H' := fun p o e => by
  have h1 : p ≠ x := ne_of_none e nx
  refine f p o (by simp; exact h1) ?_
  rw [upd_ne h1, upd_ne (ne_of_none e ndx)]
  exact e
theorem made_same0 {H : Hp} {x dx C : Addr} (nx : H x = none) (ndx : H dx = none) : Same H (upd (upd H dx (.own x)) x (.ins C dx [])) := made_same nx ndx fun p o _ e => e
section
variable {P : Program} {w : World} {K : PySem.W.Frag} {mg : Str → Option Value} {base : Heap}
theorem scRI : FnScope psR psR (defScope sRI) := ⟨rfl, rfl, rfl, by decide +kernel, rfl, by decide +kernel, by decide +kernel⟩
theorem ok_RI {f C : Addr} {fd : FuncData} {dvs : List V} {kws : List (Str × V)} (F : FunD K "__init__" "Run.__init__" (defArgs sRI) (defBody sRI) (defScope sRI) dvs kws f fd) (N : RNo K C) (ml : mg "list" = none) : FnOk P w K mg base CX0 1 f fd psR (spRI K C) := by
  refine F.ok scRI (fun vs H Q E h => ?_) (fun cdv A outer s H vs Q E hr h => ?_)
  · obtain ⟨r, dx, q, o, an, l, f, s, ns, rfl, _⟩ := h
    rfl
  obtain ⟨r, dx, q, o, an, l, f, s, ns, rfl, hr0, hq, k⟩ := h
  refine ⟨_, pss_cons (ps_fld (pv 0) (pv 1) rfl) (pss_cons (ps_fld (pv 0) (pv 3) rfl) (pss_cons (ps_fld (pv 0) (pv 4) rfl) (pss_cons (ps_fld (pv 0) (pv 5) rfl) (pss_cons (ps_fld (pv 0) (pv 6) rfl)
    (pss_one (ps_fld (pv 0) (pe_callTy call_list_of (by rfl) ml (by decide +kernel) (pa_cons (pv 2) pa_nil)) rfl)))))), ?_⟩
  refine ⟨_, rfl, _, rfl, r, C, dx, _, rfl, hr0, N.cl, N.nO, (by show 0 < 1000; decide), ?_⟩
  refine ⟨_, rfl, _, rfl, r, C, dx, _, rfl, upd_same, N.cl, N.nA, (by show 1 < 1000; decide), ?_⟩
  refine ⟨_, rfl, _, rfl, r, C, dx, _, rfl, upd_same, N.cl, N.nL, (by show 2 < 1000; decide), ?_⟩
  refine ⟨_, rfl, _, rfl, r, C, dx, _, rfl, upd_same, N.cl, N.nF, (by show 3 < 1000; decide), ?_⟩
  refine ⟨_, rfl, _, rfl, r, C, dx, _, rfl, upd_same, N.cl, N.nS, (by show 4 < 1000; decide), ?_⟩
  have f1 : Fx [r] H (upd (upd (upd (upd (upd H r (.ins C dx (putF "outcome" (.str o) []))) r (.ins C dx (putF "answer" an (putF "outcome" (.str o) [])))) r (.ins C dx (putF "length" l (putF "answer" an (putF "outcome" (.str o) []))))) r (.ins C dx (putF "first" f (putF "length" l (putF "answer" an (putF "outcome" (.str o) [])))))) r (.ins C dx (putF "second" s (putF "first" f (putF "length" l (putF "answer" an (putF "outcome" (.str o) []))))))) :=
    ((((Fx.upd (by simp)).trans (Fx.upd (by simp))).trans (Fx.upd (by simp))).trans (Fx.upd (by simp))).trans (Fx.upd (by simp))
  have e1 : (upd (upd (upd (upd (upd H r (.ins C dx (putF "outcome" (.str o) []))) r (.ins C dx (putF "answer" an (putF "outcome" (.str o) [])))) r (.ins C dx (putF "length" l (putF "answer" an (putF "outcome" (.str o) []))))) r (.ins C dx (putF "first" f (putF "length" l (putF "answer" an (putF "outcome" (.str o) [])))))) r (.ins C dx (putF "second" s (putF "first" f (putF "length" l (putF "answer" an (putF "outcome" (.str o) []))))))) r = some (.ins C dx [("outcome", .str o), ("answer", an), ("length", l), ("first", f), ("second", s)]) := upd_same
  have n1 : ∀ p, p ≠ r → (upd (upd (upd (upd (upd H r (.ins C dx (putF "outcome" (.str o) []))) r (.ins C dx (putF "answer" an (putF "outcome" (.str o) [])))) r (.ins C dx (putF "length" l (putF "answer" an (putF "outcome" (.str o) []))))) r (.ins C dx (putF "first" f (putF "length" l (putF "answer" an (putF "outcome" (.str o) [])))))) r (.ins C dx (putF "second" s (putF "first" f (putF "length" l (putF "answer" an (putF "outcome" (.str o) []))))))) p = none → H p = none := fun p n e => by
    rw [upd_ne n, upd_ne n, upd_ne n, upd_ne n, upd_ne n] at e
    exact e
  generalize upd (upd (upd (upd (upd H r (.ins C dx (putF "outcome" (.str o) []))) r (.ins C dx (putF "answer" an (putF "outcome" (.str o) [])))) r (.ins C dx (putF "length" l (putF "answer" an (putF "outcome" (.str o) []))))) r (.ins C dx (putF "first" f (putF "length" l (putF "answer" an (putF "outcome" (.str o) [])))))) r (.ins C dx (putF "second" s (putF "first" f (putF "length" l (putF "answer" an (putF "outcome" (.str o) [])))))) = H1 at f1 e1 n1 ⊢
  have hq1 : SqL K H1 q (ns.map V.int) := KeepS.lst (fun a u hu e => f1 a u (by
    intro z
    rw [List.mem_singleton.mp z, hr0] at e
    cases e
    exact hu) e) hq
  refine ⟨_, rfl, q, _, rfl, .inl hq1, fun as nas => ?_⟩
  have nra : r ≠ as := ne_of_none e1 nas
  refine ⟨_, rfl, r, C, dx, _, rfl, (by rw [upd_ne nra]; exact e1), N.cl, N.nQ, (by show 5 < 1000; decide), ?_⟩
  refine k _ as ((f1.trans (Fx.of (same_new nas _))).trans (Fx.upd (by simp))) (n1 as (fun z => nra z.symm) nas) ⟨upd_same, ?_⟩
  rw [upd_ne nra.symm, upd_same]
/-- a Run made of asked positions that stand in a list -/
theorem mk_run {CR : Addr} {H2 : Hp} {q : Addr} {ns : List Int} {o : Str} {an l f s : V} {Q : VK} {E : XK} (hq : H2 q = some (.lst (ns.map V.int))) (k : ∀ H' r, Same H2 H' → H2 r = none → (∃ dx as, H2 as = none ∧ RunV H' CR r dx as o an l f s ns) → Q (.ref r) H') :
    ∀ x dx, H2 x = none → H2 dx = none → dx ≠ x → spRI K CR [.ref x, .str o, .ref q, an, l, f, s] (upd (upd H2 dx (.own x)) x (.ins CR dx [])) (fun v H3 => v = .non ∧ Q (.ref x) H3) E := by
  intro x dx nx ndx _
  refine ⟨x, dx, q, o, an, l, f, s, ns, rfl, upd_same, SqL.of (made_same0 nx ndx _ _ hq), fun H' as fx nas rv => ⟨rfl, ?_⟩⟩
  exact k H' x (made_same nx ndx fx) nx ⟨dx, as, (made_same0 nx ndx).free nas, rv⟩
theorem scRep : FnScope ["walk", "first", "limit"] ["walk", "first", "limit"] (defScope sRep) := ⟨rfl, rfl, rfl, by decide +kernel, rfl, by decide +kernel, by decide +kernel⟩
theorem ok_Rep {f C : Addr} {fd : FuncData} (F : Fun K "repeated" "repeated" sRep f fd) (W : TC K C) (RC : RCl P w K mg base) (MA : MCal P w K mg base 1 C "asked_places" ["self"] (spAP K C)) : FnOk P w K mg base CX0 3 f fd ["walk", "first", "limit"] (spRep K C RC.C) := by
  refine F.ok scRep (fun vs H Q E h => ?_) (fun cdv A outer s H vs Q E hr h => ?_)
  · obtain ⟨wk, dx, cd, hd, sn, pr, qs, pc, a, b, t, x, mem, ps, f, lim, rfl, _⟩ := h
    rfl
  obtain ⟨wk, dx, cd, hd, sn, pr, qs, pc, a, b, t, x, mem, ps, f, lim, rfl, hw, q⟩ := h
  have T := W.wc
  have hr1 : Room 1 _ := hr.mono (by decide)
  obtain ⟨gS, kS⟩ := RC.kS
  obtain ⟨dsR, vR, bR⟩ := RC.kR
  refine ⟨_, pss_cons (ps_if (pt_cmpR op_notN (pv 2) pe_non (nomark _)) (pss_one (ps_ret (pe_make RC.M RC.G hr rfl RC.g bR vR pass0 (pa_cons pe_str (pa_cons (pe_meth0 (pv 0) T.cl MA.m MA.G hr1 MA.b .nil pass0) pa_nil))))) pss_nil)
    (pss_one (ps_ret (pe_makeN RC.M RC.G hr rfl RC.g kS pass0 (pa_cons pe_str (pa_cons (pe_meth0 (pv 0) T.cl MA.m MA.G hr1 MA.b .nil pass0) pa_nil)) (pk_cons (pv 1) (pk_cons (pe_fld (pv 0) rfl) pk_nil))))), ?_⟩
  refine ⟨_, rfl, rfl, _, rfl, ?_⟩
  cases lim with
  | some L =>
    refine ite2 (fun _ => ?_) (fun c => absurd (by rw [decide_eq_false (fun z => nomatch z)]; rfl) c)
    refine ⟨_, rfl, wk, dx, _, rfl, hw.wa.ob, rfl, wk, dx, cd, hd, sn, pr, qs, pc, a, b, t, x, mem, ps, rfl, hw, fun H1 p s1 np e1 => ?_⟩
    exact mk_run e1 fun H' r s2 nr rv => q H' r (s1.trans s2) (s1.free nr) (RunN.back s1 rv)
  | none =>
    refine ite2 (fun c => absurd c (by rw [show decide (limV none = V.non) = true from decide_eq_true rfl]; decide)) (fun _ => ?_)
    refine ⟨_, rfl, wk, dx, _, rfl, hw.wa.ob, rfl, wk, dx, cd, hd, sn, pr, qs, pc, a, b, t, x, mem, ps, rfl, hw, fun H1 p s1 np e1 => ?_⟩
    refine ⟨_, rfl, _, rfl, wk, C, dx, _, _, rfl, s1 _ _ hw.wa.ob, T.cl, T.nTak, rfl, rfl, rfl, ?_⟩
    exact mk_run e1 fun H' r s2 nr rv => q H' r (s1.trans s2) (s1.free nr) (RunN.back s1 rv)
end
theorem loopF_eq (code : List Ins) (x : Int) (mem : Int → Bool) (lim : Option Int) (n : Nat) (s : S3) (t : Int) (seen : List (S3 × Int)) (ps : List Int) : loopF code x mem lim (n + 1) s t seen ps = (match lookS s seen with
    | some f => repS lim f t ps
    | none => match code[s.pc]? with
      | none => .ended t ps
      | some i => if over lim (t + i.cost) = true then .run ps else match ansOf i with
        | some v => .ans v (t + i.cost) ps
        | none => loopF code x mem lim n (nextS x mem s i) (t + i.cost) (seen ++ [(s, t)]) (askQ x s i ps)) := rfl
theorem askQ_len (x : Int) (s : S3) (i : Ins) (ps : List Int) : (askQ x s i ps).length ≤ ps.length + 1 := by
  cases i with
  | ask g d z =>
    show (if 0 ≤ place x s.a s.b g d then putQ (place x s.a s.b g d) ps else ps).length ≤ _
    split
    · unfold putQ
      split
      · omega
      · rw [List.length_append]; exact Nat.le_refl _
    · omega
  | _ => exact Nat.le_succ _
theorem heldS16 {x : Int} {mem : Int → Bool} {s : S3} {i : Ins} (hi : i.ok "teller") (h : in16 s.a s.b) : in16 (heldS x mem s i).1 (heldS x mem s i).2 := by
  cases i with
  | ask g d z =>
    refine vput16 h ?_ ?_
    · split <;> omega
    · split <;> omega
  | set v n => exact held16 hi h
  | add v n => exact held16 hi h
  | _ => exact h
theorem grown0 {i : Ins} (hi : i.ok "teller") (a b : Int) : i.grown a b = 0 := by
  cases i with
  | grow t => exact absurd rfl hi.1
  | _ => rfl
theorem TkA.hq {K : PySem.W.Frag} {H : Hp} {C wk dx cd hd sn pr qs : Addr} {pc : Nat} {a b t x : Int} {mem : Int → Bool} {ps : List Int} (h : TkA K H C wk dx cd hd sn pr qs pc a b t x mem ps) : hd ≠ qs := by
  intro e
  have h1 := h.wa.hl
  rw [e, h.que] at h1
  injection h1 with h1
  injection h1 with h1
  cases ps with
  | nil => cases h1
  | cons p0 r0 =>
    injection h1 with h1 _
    injection h1 with h1 _
    cases h1
/-- the state of the loop -/
structure LoopI (K : PySem.W.Frag) (H0 H : Hp) (C wk dx cd hd sn pr qs : Addr) (code : List Ins) (x : Int) (mem : Int → Bool) (lim : Option Int) (R : Res) (m : Nat) (s : S3) (t : Int) (seen : List (S3 × Int)) (ps : List Int) : Prop where
  sm : Same H0 H
  nw : H0 wk = none
  nh : H0 hd = none
  ns : H0 sn = none
  nq : H0 qs = none
  tk : TkA K H C wk dx cd hd sn pr qs s.pc s.a s.b t x mem ps
  se : ∃ kvs, H sn = some (.dT kvs) ∧ SeenR H kvs seen
  nd : (seen.map (·.1)).Nodup
  ok : ∀ e ∈ seen, okS3 code e.1
  i16 : in16 s.a s.b
  pl : ps.length ≤ seen.length
  eq : loopF code x mem lim m s t seen ps = R
  fu : m + seen.length = fuel code
section
variable {P : Program} {w : World} {K : PySem.W.Frag} {mg : Str → Option Value} {base : Heap}
theorem dpAll_at {H : Hp} {xs : List V} {code : List Ins} (h : DpAll K H xs (code.map Ins.toD)) (pc : Nat) : (code[pc]? = none ∧ xs[pc]? = none) ∨ ∃ i v, code[pc]? = some i ∧ xs[pc]? = some v ∧ Dp K H v i.toD := by
  have hl := dpAll_len h
  rw [List.length_map] at hl
  by_cases c : pc < code.length
  · have e : xs[pc]? = some xs[pc] := List.getElem?_eq_getElem (by omega)
    obtain ⟨d, hd, hx⟩ := dpAll_get h e
    rw [List.getElem?_map] at hd
    have e2 : code[pc]? = some code[pc] := List.getElem?_eq_getElem c
    rw [e2] at hd
    have ed : code[pc].toD = d := by injection hd
    subst ed
    exact .inr ⟨code[pc], _, e2, e, hx⟩
  · exact .inl ⟨List.getElem?_eq_none (by omega), List.getElem?_eq_none (by omega)⟩
theorem scTR : FnScope ["code", "position", "members", "limit", "walk", "before", "instruction"] ["code", "position", "members", "limit"] (defScope sTR) := ⟨rfl, rfl, rfl, by decide +kernel, rfl, by decide +kernel, by decide +kernel⟩
theorem ok_TR {f C fI : Addr} {fd dI : FuncData} {dvs : List V} {kws : List (Str × V)} (F : FunD K "teller_run" "teller_run" (defArgs sTR) (defBody sTR) (defScope sTR) dvs kws f fd) (W : TC K C) (gC : mg "TellerWalk" = some (.ref C)) (M : Mk K C fI) (GI : FnOk P w K mg base CX0 2 fI dI ["self", "code", "position", "members"] (spTI K C)) (bI : Binds K dI ["self", "code", "position", "members"] [])
    (RC : RCl P w K mg base) (CC : Cal P w K mg base 1 "cost" ["instruction"] (spCost K)) (CR : Cal P w K mg base 3 "repeated" ["walk", "first", "limit"] (spRep K C RC.C))
    (ME : MCal P w K mg base 1 C "earlier" ["self"] (spEar K C)) (MU : MCal P w K mg base 1 C "upcoming" ["self"] (spUp K C)) (MT : MCal P w K mg base 4 C "take" ["self", "instruction"] (spTake K C)) (MK : MCal P w K mg base 3 C "ask" ["self", "instruction"] (spAsk K C)) (MA : MCal P w K mg base 1 C "asked_places" ["self"] (spAP K C)) :
    FnOk P w K mg base CX0 5 f fd ["code", "position", "members", "limit"] (spTR K RC.C) := by
  refine F.ok scTR (fun vs H Q E h => ?_) (fun cdv A outer s H vs Q E hr h => ?_)
  · obtain ⟨cd, m, x, lim, xs, code, ns, rfl, _⟩ := h
    rfl
  obtain ⟨cd, m, x, lim, xs, code, ns, rfl, hcd, hxs, hok, hcl, hm, hnl, q⟩ := h
  have T := W.wc
  have hr1 : Room 1 _ := hr.mono (by decide)
  have hr2 : Room 2 _ := hr.mono (by decide)
  have hr3 : Room 3 _ := hr.mono (by decide)
  obtain ⟨gE, kE⟩ := RC.kE
  obtain ⟨gA, kA⟩ := RC.kA
  obtain ⟨dsR, vR, bR⟩ := RC.kR
  refine ⟨_, PSs.nox (pss_cons (ps_set (i := 4) scTR.nd rfl (.inl rfl) (pe_make M GI hr3 rfl gC bI .nil pass0 (pa_cons (pv 0) (pa_cons (pv 1) (pa_cons (pv 2) pa_nil)))))
    (pss_one (ps_while PassesOwn.never (pt_val pe_bl)
      (pss_cons (ps_set (i := 5) scTR.nd rfl (.inl rfl) (pe_meth0 (pv 4) T.cl ME.m ME.G hr1 ME.b .nil pass0))
      (pss_cons (ps_if (pt_cmpR op_notN (pv 5) pe_non (nomark _)) (pss_one (ps_ret (pe_call CR.G hr3 rfl CR.m CR.kp CR.b .nil pass0 (pa_cons (pv 4) (pa_cons (pe_ix ix_tup (pv 5) pe_int (fun _ _ => rfl)) (pa_cons (pv 3) pa_nil)))))) pss_nil)
      (pss_cons (ps_set (i := 6) scTR.nd rfl (.inl rfl) (pe_meth0 (pv 4) T.cl MU.m MU.G hr1 MU.b .nil pass0))
      (pss_cons (ps_if (pt_cmpR op_isN (pv 6) pe_non (nomark _)) (pss_one (ps_ret (pe_makeN RC.M RC.G hr2 rfl RC.g kE pass0 (pa_cons pe_str (pa_cons (pe_meth0 (pv 4) T.cl MA.m MA.G hr1 MA.b .nil pass0) pa_nil)) (pk_cons (pe_fld (pv 4) rfl) pk_nil)))) pss_nil)
      (pss_cons (ps_if (PW.pt (pw_and (pt_cmpR op_notN (pv 3) pe_non (nomark _)) (pw_and1 (pt_cmpR op_gt (pe_op op_add (pe_fld (pv 4) rfl) (pe_call CC.G hr1 rfl CC.m CC.kp CC.b .nil pass0 (pa_cons (pv 6) pa_nil))) (pv 3) (nomark _))))) (pss_one (ps_ret (pe_make RC.M RC.G hr2 rfl RC.g bR vR pass0 (pa_cons pe_str (pa_cons (pe_meth0 (pv 4) T.cl MA.m MA.G hr1 MA.b .nil pass0) pa_nil))))) pss_nil)
      (pss_cons (ps_expr (pe_meth (pv 4) T.cl MT.m MT.G hr MT.b .nil pass0 (pa_cons (pv 6) pa_nil)))
      (pss_cons (ps_if (pt_cmpR op_eq (pe_ix ix_tup (pv 6) pe_int (fun _ _ => rfl)) pe_str (nomark _)) (pss_one (ps_ret (pe_makeN RC.M RC.G hr2 rfl RC.g kA pass0 (pa_cons pe_str (pa_cons (pe_meth0 (pv 4) T.cl MA.m MA.G hr1 MA.b .nil pass0) pa_nil)) (pk_cons (pe_ix ix_tup (pv 6) pe_int (fun _ _ => rfl)) (pk_cons (pe_fld (pv 4) rfl) pk_nil))))) pss_nil)
      (pss_one (ps_if (pt_cmpR op_eq (pe_ix ix_tup (pv 6) pe_int (fun _ _ => rfl)) pe_str (nomark _)) (pss_one (ps_expr (pe_meth (pv 4) T.cl MK.m MK.G hr3 MK.b .nil pass0 (pa_cons (pv 6) pa_nil)))) pss_nil)))))))))))), ?_⟩
  -- walk = TellerWalk(code, position, members)
  refine ⟨_, rfl, _, rfl, _, rfl, fun wk dx nw ndx nxd => ?_⟩
  have sm0 := made_same0 (C := C) nw ndx
  refine ⟨wk, dx, cd, m, x, ns, rfl, upd_same, sm0.seq hm, hnl, fun H1 hd sn pr qs f1 nhd nsn npr nqs tk1 e1 => ⟨rfl, ?_⟩⟩
  have s1 : Same H H1 := made_same nw ndx f1
  have fr : ∀ p, (upd (upd H dx (.own wk)) wk (.ins C dx [])) p = none → H p = none := fun p e => sm0.free e
  dsimp only [gName]
  refine while_m (fun k σ H' => ∃ (s : S3) (t : Int) (seen : List (S3 × Int)) (ps : List Int) (s5 s6 : Option V), σ = [some (.ref cd), some (.int x), some (.ref m), some (limV lim), some (.ref wk), s5, s6] ∧ LoopI K H H' C wk dx cd hd sn pr qs code x (fun z => decide (z ∈ ns)) lim (runF code x (fun z => decide (z ∈ ns)) lim) k s t seen ps) (m0 := fuel code)
    ⟨⟨0, 0, 0⟩, 0, [], [], none, none, rfl, ⟨s1, nw, fr hd nhd, fr sn nsn, fr qs nqs, tk1, ⟨[], e1, .nil⟩, List.nodup_nil, (fun e m => nomatch m), ⟨⟨by decide, by decide⟩, by decide, by decide⟩, Nat.le_refl _, rfl, rfl⟩⟩ ?_ (fun σ H Q Q' h ⟨b, e, z⟩ => ⟨b, e, h _ _ z⟩)
  rintro k σ H' ⟨s, t, seen, ps, s5, s6, rfl, L⟩
  refine ⟨_, rfl, iteT ?_⟩
  obtain ⟨kvs, hsn, hse⟩ := L.se
  have few := few_states L.nd (fun s0 m0 => by obtain ⟨e, me, rfl⟩ := List.mem_map.mp m0; exact L.ok e me)
  rw [List.length_map] at few
  obtain ⟨k', rfl⟩ : ∃ k', k = k' + 1 := ⟨k - 1, by have := L.fu; unfold fuel at this; omega⟩
  have hEq := L.eq
  rw [loopF_eq] at hEq
  have hlen := hse.len
  have bigN : code.length * 256 ≤ 25600 := by omega
  have obW := L.tk.wa.ob
  refine ⟨_, rfl, wk, dx, _, rfl, obW, rfl, wk, dx, cd, hd, sn, s.pc, s.a, s.b, 0, t, _, kvs, rfl, L.tk.wa, hsn, by omega, hse.refs, fun r hv H2 s2 => ?_, fun hv H2 r f2 e2 nr er => ?_⟩
  · -- the state was met before
    rcases hse.look s with ⟨hv', _⟩ | ⟨r', t0, hv', hl0, er'⟩
    · rw [show valV kvs (keyS s.pc s.a s.b) = none from hv'] at hv; cases hv
    · have er0 : r' = r := by
        rw [show valV kvs (keyS s.pc s.a s.b) = some (.ref r') from hv'] at hv
        injection hv with hv; injection hv
      subst er0
      rw [hl0] at hEq
      have tk2 : TkA K H2 C wk dx cd hd sn pr qs s.pc s.a s.b t x (fun z => decide (z ∈ ns)) ps := ⟨⟨s2 _ _ obW, s2 _ _ L.tk.wa.hl⟩, (by obtain ⟨kv, h1, h2⟩ := L.tk.pre; exact ⟨kv, s2 _ _ h1, h2⟩), s2 _ _ L.tk.que, L.tk.apart⟩
      refine ⟨_, rfl, rfl, _, rfl, ite2 (fun _ => ?_) (fun c => absurd (by rw [decide_eq_false (fun z => nomatch z)]; rfl) c)⟩
      refine ⟨_, rfl, _, rfl, r', _, _, _, rfl, rfl, SqT.of (s2 _ _ er'), atI_nat (j := 0) rfl, _, rfl, ?_⟩
      refine ⟨wk, dx, cd, hd, sn, pr, qs, s.pc, s.a, s.b, t, x, _, ps, t0, lim, rfl, tk2, fun H3 rr s3 nrr ra => ?_⟩
      have hEq' : repS lim t0 t ps = runF code x (fun z => decide (z ∈ ns)) lim := hEq
      rw [hEq'] at ra
      exact q _ rr ((L.sm.trans s2).trans s3) ((L.sm.trans s2).free nrr) (RunN.back (L.sm.trans s2) ra)
  · -- a new state
    have hv0 : valV kvs (keyOf s) = none := hv
    have hl0 : lookS s seen = none := by
      rcases hse.look s with ⟨_, h⟩ | ⟨r', t0, hv', _, _⟩
      · exact h
      · rw [hv0] at hv'; cases hv'
    rw [hl0] at hEq
    have sm2 : Same H H2 := f2.same L.sm (by intro p mp; rw [List.mem_singleton.mp mp]; exact L.ns)
    have nws : wk ≠ sn := fun z => by rw [z, hsn] at obW; cases obW
    have nhs : hd ≠ sn := fun z => by have := L.tk.wa.hl; rw [z, hsn] at this; cases this
    have nqs' : qs ≠ sn := fun z => by have := L.tk.que; rw [z, hsn] at this; cases this
    have k2 : KeepS H' H2 := fun p o hp e => f2 p o (by intro z; rw [List.mem_singleton.mp z, hsn] at e; cases e; exact hp) e
    obtain ⟨kvp, hp1, hp2⟩ := L.tk.pre
    have nps : pr ≠ sn := fun z => by rw [z, hsn] at hp1; cases hp1
    have get2 : ∀ p o, p ≠ sn → H' p = some o → H2 p = some o := fun p o n e => f2 p o (by simp; exact n) e
    have tk2 : TkA K H2 C wk dx cd hd sn pr qs s.pc s.a s.b t x (fun z => decide (z ∈ ns)) ps := ⟨⟨get2 _ _ nws obW, get2 _ _ nhs L.tk.wa.hl⟩, ⟨kvp, get2 _ _ nps hp1, hp2⟩, get2 _ _ nqs' L.tk.que, L.tk.apart⟩
    have se2 : SeenR H2 (kvs ++ [(keyOf s, .ref r)]) (seen ++ [(s, t)]) := (hse.keep k2).snoc er
    have ob2 := tk2.wa.ob
    refine ⟨_, rfl, rfl, _, rfl, ite2 (fun c => absurd c (by rw [decide_eq_true rfl]; decide)) (fun _ => ?_)⟩
    refine ⟨_, rfl, wk, dx, _, rfl, ob2, rfl, wk, dx, cd, hd, sn, s.pc, s.a, s.b, 0, t, _, xs, rfl, tk2.wa, sm2.seq hcd, ?_⟩
    rcases dpAll_at hxs s.pc with ⟨ec, ex⟩ | ⟨i, v, ec, ex, hdv⟩
    · -- ended
      rw [ec] at hEq
      rw [ex]
      refine ⟨_, rfl, rfl, _, rfl, ite2 (fun _ => ?_) (fun c => absurd (decide_eq_true rfl) c)⟩
      refine ⟨_, rfl, wk, dx, _, rfl, ob2, rfl, wk, dx, cd, hd, sn, pr, qs, s.pc, s.a, s.b, t, x, _, ps, rfl, tk2, fun H3 p s3 np e3 => ?_⟩
      refine ⟨_, rfl, wk, C, dx, _, _, rfl, s3 _ _ ob2, T.cl, T.nTak, rfl, rfl, rfl, ?_⟩
      refine mk_run e3 fun H4 rr s4 nrr rv => q _ rr (sm2.trans (s3.trans s4)) ((sm2.trans s3).free nrr) ?_
      rw [← hEq]
      exact RunN.back (sm2.trans s3) rv
    · rw [ec] at hEq
      dsimp only at hEq
      rw [ex]
      have hi : i.ok "teller" := hok i (List.mem_of_getElem? ec)
      have hpc : s.pc < code.length := (List.getElem?_eq_some_iff.mp ec).1
      obtain ⟨p, xr, rfl, hsp, hap⟩ := ins_inv hdv
      have hdv2 := dp_mono sm2 _ _ hdv
      refine ⟨_, rfl, rfl, _, rfl, ite2 (fun c => absurd (of_decide_eq_true c) (fun z => nomatch z)) (fun _ => ?_)⟩
      have nhq : hd ≠ qs := tk2.hq
      have nwh : wk ≠ hd := fun z => by have := tk2.wa.hl; rw [← z, ob2] at this; cases this
      have nwq : wk ≠ qs := fun z => by have := tk2.que; rw [← z, ob2] at this; cases this
      have nwp : wk ≠ pr := fun z => by obtain ⟨kv, h1, _⟩ := tk2.pre; rw [← z, ob2] at h1; cases h1
      cases hov : over lim (t + i.cost) with
      | true =>
        rw [hov, if_pos rfl] at hEq
        cases lim with
        | none => cases hov
        | some Lm =>
          have hlt : Lm < t + i.cost := of_decide_eq_true hov
          refine ⟨_, rfl, rfl, _, rfl, ite2 (fun _ => ?_) (fun c => absurd (by rw [show decide (limV (some Lm) = V.non) = false from decide_eq_false (fun z => nomatch z)]; rfl) c)⟩
          refine ⟨_, rfl, wk, C, dx, _, _, rfl, ob2, T.cl, T.nTak, rfl, _, rfl, .ref p, i, rfl, hdv2, _, _, rfl, rfl, _, rfl, _, _, rfl, rfl, _, rfl, ite2 (fun _ => ?_) (fun c => absurd (decide_eq_true hlt) c)⟩
          refine ⟨_, rfl, wk, dx, _, rfl, ob2, rfl, wk, dx, cd, hd, sn, pr, qs, s.pc, s.a, s.b, t, x, _, ps, rfl, tk2, fun H3 p3 s3 np e3 => ?_⟩
          refine mk_run e3 fun H4 rr s4 nrr rv => q _ rr (sm2.trans (s3.trans s4)) ((sm2.trans s3).free nrr) ?_
          rw [← hEq]
          exact RunN.back (sm2.trans s3) rv
      | false =>
        rw [hov, if_neg (by decide)] at hEq
        have nxt : ∀ (H4 : Hp) (s6' : V), Same H H4 → ansOf i = none → TkA K H4 C wk dx cd hd sn pr qs (nextS x (fun z => decide (z ∈ ns)) s i).pc (nextS x (fun z => decide (z ∈ ns)) s i).a (nextS x (fun z => decide (z ∈ ns)) s i).b (t + i.cost) x (fun z => decide (z ∈ ns)) (askQ x s i ps) → KeepS H2 H4 → H4 sn = some (.dT (kvs ++ [(keyOf s, .ref r)])) →
            ∃ m', m' < k' + 1 ∧ ∃ (s0 : S3) (t0 : Int) (seen0 : List (S3 × Int)) (ps0 : List Int) (s5 s6 : Option V), [some (V.ref cd), some (.int x), some (.ref m), some (limV lim), some (.ref wk), some .non, some s6'] = [some (V.ref cd), some (.int x), some (.ref m), some (limV lim), some (.ref wk), s5, s6] ∧ LoopI K H H4 C wk dx cd hd sn pr qs code x (fun z => decide (z ∈ ns)) lim (runF code x (fun z => decide (z ∈ ns)) lim) m' s0 t0 seen0 ps0 := by
          intro H4 s6' sm4 han tk4 k4 e4
          rw [han] at hEq
          refine ⟨k', Nat.lt_succ_self _, nextS x _ s i, t + i.cost, seen ++ [(s, t)], askQ x s i ps, _, _, rfl, ⟨sm4, L.nw, L.nh, L.ns, L.nq, tk4, ⟨_, e4, se2.keep k4⟩, ?_, ?_, heldS16 hi L.i16, ?_, hEq, ?_⟩⟩
          · rw [List.map_append, List.nodup_append]
            refine ⟨L.nd, List.nodup_cons.mpr ⟨(fun z => nomatch z), List.nodup_nil⟩, fun a1 h1 b1 h2 e => ?_⟩
            have e2 : b1 = s := by simpa using h2
            rw [e, e2] at h1
            exact lookS_none hl0 h1
          · intro e me
            rcases List.mem_append.mp me with me | me
            · exact L.ok e me
            · rw [List.mem_singleton.mp me]
              exact ⟨hpc, L.i16⟩
          · have := askQ_len x s i ps
            have := L.pl
            rw [List.length_append]
            show _ ≤ seen.length + 1
            omega
          · have := L.fu
            rw [List.length_append]
            show k' + (seen.length + 1) = _
            omega
        have rest : ∀ H3, Fx [wk, hd] H2 H3 → WkA K H3 C wk dx cd hd sn (i.next s.pc s.a s.b) (i.held s.a s.b).1 (i.held s.a s.b).2 (0 + i.grown s.a s.b) (t + i.cost) (exT x pr qs) → Same H H3 ∧ KeepS H2 H3 ∧ H3 sn = some (.dT (kvs ++ [(keyOf s, .ref r)])) ∧ TkA K H3 C wk dx cd hd sn pr qs (i.next s.pc s.a s.b) (i.held s.a s.b).1 (i.held s.a s.b).2 (t + i.cost) x (fun z => decide (z ∈ ns)) ps := by
          intro H3 f3 w3
          rw [grown0 hi, Int.add_zero] at w3
          have get3 : ∀ p o, p ≠ wk → p ≠ hd → H2 p = some o → H3 p = some o := fun p o n1 n2 e => f3 p o (by simp; exact ⟨n1, n2⟩) e
          obtain ⟨kv, h1, h2⟩ := tk2.pre
          refine ⟨f3.same sm2 (by intro p mp; simp at mp; rcases mp with rfl | rfl; exact L.nw; exact L.nh), ?_, get3 _ _ (fun z => nws z.symm) (fun z => nhs z.symm) e2, ⟨w3, ⟨kv, get3 _ _ (fun z => nwp z.symm) (fun z => tk2.apart.2 z.symm) h1, h2⟩, get3 _ _ (fun z => nwq z.symm) (fun z => nhq z.symm) tk2.que, tk2.apart⟩⟩
          intro p o ho e
          refine get3 p o (fun z => ?_) (fun z => ?_) e
          · rw [z, ob2] at e; cases e; exact ho
          · rw [z, tk2.wa.hl] at e; cases e; exact ho
        cases lim with
        | none =>
          refine ⟨_, rfl, rfl, _, rfl, ite2 (fun c => absurd c (by rw [show decide (limV none = V.non) = true from decide_eq_true rfl]; decide)) (fun _ => iteF ?_)⟩
          refine ⟨_, rfl, wk, dx, _, rfl, ob2, rfl, _, rfl, wk, dx, cd, hd, sn, s.pc, s.a, s.b, 0, t, _, .ref p, i, "teller", rfl, tk2.wa, noM_T _ _ _, hdv2, hi, fun H3 f3 w3 => ?_⟩
          obtain ⟨sm3, k3, e3, tk3⟩ := rest H3 f3 w3
          have ob3 := tk3.wa.ob
          refine ⟨_, rfl, p, _, _, _, rfl, rfl, Same.tup sm3 hsp, atI_nat (j := 0) rfl, rfl, _, rfl, ?_⟩
          cases i with
          | ans n =>
            obtain ⟨y, rfl, hy⟩ := dp_solo hap
            cases hy
            refine strT ⟨_, rfl, wk, dx, _, rfl, ob3, rfl, wk, dx, cd, hd, sn, pr, qs, _, _, _, _, x, _, ps, rfl, tk3, fun H4 p4 s4 np4 e4 => ?_⟩
            refine ⟨_, rfl, p, _, _, _, rfl, rfl, Same.tup (sm3.trans s4) hsp, atI_nat (j := 1) rfl, _, rfl, wk, C, dx, _, _, rfl, s4 _ _ ob3, T.cl, T.nTak, rfl, rfl, rfl, ?_⟩
            refine mk_run e4 fun H5 rr s5' nrr rv => q _ rr (sm3.trans (s4.trans s5')) ((sm3.trans s4).free nrr) ?_
            rw [← hEq]
            exact RunN.back (sm3.trans s4) rv
          | ask g d z =>
            refine strF (by simp only [Ins.word]; decide +kernel) ⟨_, rfl, p, _, _, _, rfl, rfl, Same.tup sm3 hsp, atI_nat (j := 0) rfl, rfl, _, rfl, strT ?_⟩
            refine ⟨_, rfl, wk, dx, _, rfl, ob3, rfl, _, rfl, wk, dx, cd, hd, sn, pr, qs, _, _, _, _, x, _, ps, .ref p, g, z, d, rfl, tk3, dp_mono sm3 _ _ hdv, hi, by have := L.pl; omega, fun H4 f4 tk4 => ?_⟩
            have get4 : ∀ p o, p ≠ hd → p ≠ qs → H3 p = some o → H4 p = some o := fun p o n1 n2 e => f4 p o (by simp; exact ⟨n1, n2⟩) e
            refine nxt H4 _ (f4.same sm3 (by intro p mp; simp at mp; rcases mp with rfl | rfl; exact L.nh; exact L.nq)) rfl tk4 (k3.trans fun p o ho e => get4 p o (fun z => by rw [z, tk3.wa.hl] at e; cases e; exact ho) (fun z => by rw [z, tk3.que] at e; cases e; exact ho) e) (get4 _ _ (fun z => nhs z.symm) (fun z => nqs' z.symm) e3)
          | set z n => exact strF (by simp only [Ins.word]; decide +kernel) ⟨_, rfl, p, _, _, _, rfl, rfl, Same.tup sm3 hsp, atI_nat (j := 0) rfl, rfl, _, rfl, strF (by simp only [Ins.word]; decide +kernel) (nxt H3 _ sm3 rfl tk3 k3 e3)⟩
          | add z n => exact strF (by simp only [Ins.word]; decide +kernel) ⟨_, rfl, p, _, _, _, rfl, rfl, Same.tup sm3 hsp, atI_nat (j := 0) rfl, rfl, _, rfl, strF (by simp only [Ins.word]; decide +kernel) (nxt H3 _ sm3 rfl tk3 k3 e3)⟩
          | wait n => exact strF (by simp only [Ins.word]; decide +kernel) ⟨_, rfl, p, _, _, _, rfl, rfl, Same.tup sm3 hsp, atI_nat (j := 0) rfl, rfl, _, rfl, strF (by simp only [Ins.word]; decide +kernel) (nxt H3 _ sm3 rfl tk3 k3 e3)⟩
          | grow n => exact absurd rfl hi.1
          | lst n => exact absurd rfl hi.1
          | test n u => exact strF (by simp only [Ins.word]; decide +kernel) ⟨_, rfl, p, _, _, _, rfl, rfl, Same.tup sm3 hsp, atI_nat (j := 0) rfl, rfl, _, rfl, strF (by simp only [Ins.word]; decide +kernel) (nxt H3 _ sm3 rfl tk3 k3 e3)⟩
          | jump n => exact strF (by simp only [Ins.word]; decide +kernel) ⟨_, rfl, p, _, _, _, rfl, rfl, Same.tup sm3 hsp, atI_nat (j := 0) rfl, rfl, _, rfl, strF (by simp only [Ins.word]; decide +kernel) (nxt H3 _ sm3 rfl tk3 k3 e3)⟩
        | some Lm =>
          have hge : ¬ Lm < t + i.cost := of_decide_eq_false hov
          refine ⟨_, rfl, rfl, _, rfl, ite2 (fun _ => ?_) (fun c => absurd (by rw [show decide (limV (some Lm) = V.non) = false from decide_eq_false (fun z => nomatch z)]; rfl) c)⟩
          refine ⟨_, rfl, wk, C, dx, _, _, rfl, ob2, T.cl, T.nTak, rfl, _, rfl, .ref p, i, rfl, hdv2, _, _, rfl, rfl, _, rfl, _, _, rfl, rfl, _, rfl, ite2 (fun c => absurd (of_decide_eq_true c) hge) (fun _ => ?_)⟩
          refine ⟨_, rfl, wk, dx, _, rfl, ob2, rfl, _, rfl, wk, dx, cd, hd, sn, s.pc, s.a, s.b, 0, t, _, .ref p, i, "teller", rfl, tk2.wa, noM_T _ _ _, hdv2, hi, fun H3 f3 w3 => ?_⟩
          obtain ⟨sm3, k3, e3, tk3⟩ := rest H3 f3 w3
          have ob3 := tk3.wa.ob
          refine ⟨_, rfl, p, _, _, _, rfl, rfl, Same.tup sm3 hsp, atI_nat (j := 0) rfl, rfl, _, rfl, ?_⟩
          cases i with
          | ans n =>
            obtain ⟨y, rfl, hy⟩ := dp_solo hap
            cases hy
            refine strT ⟨_, rfl, wk, dx, _, rfl, ob3, rfl, wk, dx, cd, hd, sn, pr, qs, _, _, _, _, x, _, ps, rfl, tk3, fun H4 p4 s4 np4 e4 => ?_⟩
            refine ⟨_, rfl, p, _, _, _, rfl, rfl, Same.tup (sm3.trans s4) hsp, atI_nat (j := 1) rfl, _, rfl, wk, C, dx, _, _, rfl, s4 _ _ ob3, T.cl, T.nTak, rfl, rfl, rfl, ?_⟩
            refine mk_run e4 fun H5 rr s5' nrr rv => q _ rr (sm3.trans (s4.trans s5')) ((sm3.trans s4).free nrr) ?_
            rw [← hEq]
            exact RunN.back (sm3.trans s4) rv
          | ask g d z =>
            refine strF (by simp only [Ins.word]; decide +kernel) ⟨_, rfl, p, _, _, _, rfl, rfl, Same.tup sm3 hsp, atI_nat (j := 0) rfl, rfl, _, rfl, strT ?_⟩
            refine ⟨_, rfl, wk, dx, _, rfl, ob3, rfl, _, rfl, wk, dx, cd, hd, sn, pr, qs, _, _, _, _, x, _, ps, .ref p, g, z, d, rfl, tk3, dp_mono sm3 _ _ hdv, hi, by have := L.pl; omega, fun H4 f4 tk4 => ?_⟩
            have get4 : ∀ p o, p ≠ hd → p ≠ qs → H3 p = some o → H4 p = some o := fun p o n1 n2 e => f4 p o (by simp; exact ⟨n1, n2⟩) e
            refine nxt H4 _ (f4.same sm3 (by intro p mp; simp at mp; rcases mp with rfl | rfl; exact L.nh; exact L.nq)) rfl tk4 (k3.trans fun p o ho e => get4 p o (fun z => by rw [z, tk3.wa.hl] at e; cases e; exact ho) (fun z => by rw [z, tk3.que] at e; cases e; exact ho) e) (get4 _ _ (fun z => nhs z.symm) (fun z => nqs' z.symm) e3)
          | set z n => exact strF (by simp only [Ins.word]; decide +kernel) ⟨_, rfl, p, _, _, _, rfl, rfl, Same.tup sm3 hsp, atI_nat (j := 0) rfl, rfl, _, rfl, strF (by simp only [Ins.word]; decide +kernel) (nxt H3 _ sm3 rfl tk3 k3 e3)⟩
          | add z n => exact strF (by simp only [Ins.word]; decide +kernel) ⟨_, rfl, p, _, _, _, rfl, rfl, Same.tup sm3 hsp, atI_nat (j := 0) rfl, rfl, _, rfl, strF (by simp only [Ins.word]; decide +kernel) (nxt H3 _ sm3 rfl tk3 k3 e3)⟩
          | wait n => exact strF (by simp only [Ins.word]; decide +kernel) ⟨_, rfl, p, _, _, _, rfl, rfl, Same.tup sm3 hsp, atI_nat (j := 0) rfl, rfl, _, rfl, strF (by simp only [Ins.word]; decide +kernel) (nxt H3 _ sm3 rfl tk3 k3 e3)⟩
          | grow n => exact absurd rfl hi.1
          | lst n => exact absurd rfl hi.1
          | test n u => exact strF (by simp only [Ins.word]; decide +kernel) ⟨_, rfl, p, _, _, _, rfl, rfl, Same.tup sm3 hsp, atI_nat (j := 0) rfl, rfl, _, rfl, strF (by simp only [Ins.word]; decide +kernel) (nxt H3 _ sm3 rfl tk3 k3 e3)⟩
          | jump n => exact strF (by simp only [Ins.word]; decide +kernel) ⟨_, rfl, p, _, _, _, rfl, rfl, Same.tup sm3 hsp, atI_nat (j := 0) rfl, rfl, _, rfl, strF (by simp only [Ins.word]; decide +kernel) (nxt H3 _ sm3 rfl tk3 k3 e3)⟩
end
abbrev psRun : List Str := ["program", "position", "members", "limit"]
def spRun (K : PySem.W.Frag) (CR : Addr) : Sp := fun vs H Q _ => ∃ (v : V) (m : Addr) (x : Int) (lim : Option Int) (d : PyData) (code : List Ins) (ns : List Int), vs = [v, .int x, .ref m, limV lim] ∧ Dp K H v (.tuple [.str "teller", d]) ∧ Lay (.tuple [.str "teller", d]) ∧ noL d = true ∧ isProg (.tuple [.str "teller", d]) = true ∧ bodyC 4 0 d = code.map Ins.toD ∧ (∀ i ∈ code, i.ok "teller") ∧ (∀ L, lim = some L → 0 ≤ L) ∧
  SqL K H m (ns.map V.int) ∧ ns.length ≤ 10000 ∧ ∀ H' r, Same H H' → H r = none → RunN H H' CR r (runF code x (fun z => decide (z ∈ ns)) lim) → Q (.ref r) H'
theorem prog_bodyT {k : Str} {d : PyData} (h : isProg (.tuple [.str k, d]) = true) : ∃ c, bodyN k 4 d = some c ∧ c ≤ 24 := by
  have h' : (inS (.str k) kinds && okN 0 (bodyN k 4 d)) = true := h
  rw [Bool.and_eq_true] at h'
  cases e : bodyN k 4 d with
  | none => rw [e] at h'; cases h'.2
  | some c =>
    rw [e] at h'
    have hc : 0 + c ≤ 24 := of_decide_eq_true h'.2
    exact ⟨c, rfl, by omega⟩
section
variable {P : Program} {w : World} {K : PySem.W.Frag} {mg : Str → Option Value} {base : Heap}
end
def resQs : Res → List Int
  | .ans _ _ ps => ps
  | .ended _ ps => ps
  | .silent _ _ ps => ps
  | .run ps => ps
theorem resPs_eq (R : Res) : resPs R = isort (resQs R) := by cases R <;> rfl
theorem askQ_pre (x : Int) (s : S3) (i : Ins) (ps : List Int) : ps <+: askQ x s i ps := by
  cases i with
  | ask g d z =>
    show ps <+: (if 0 ≤ place x s.a s.b g d then putQ (place x s.a s.b g d) ps else ps)
    split
    · unfold putQ
      split
      · exact List.prefix_refl _
      · exact List.prefix_append _ _
    · exact List.prefix_refl _
  | _ => exact List.prefix_refl _
section
variable {code : List Ins} {x : Int} {mem : Int → Bool}
theorem grows {lim : Option Int} : ∀ (n : Nat) (s : S3) (t : Int) (seen : List (S3 × Int)) (ps : List Int), ps <+: resQs (loopF code x mem lim n s t seen ps)
  | 0, s, t, seen, ps => List.prefix_refl _
  | n + 1, s, t, seen, ps => by
    rw [loopF_eq]
    cases lookS s seen with
    | some f => cases lim <;> exact List.prefix_refl _
    | none =>
      cases code[s.pc]? with
      | none => exact List.prefix_refl _
      | some i =>
        dsimp only
        split
        · exact List.prefix_refl _
        · cases ansOf i with
          | some v => exact List.prefix_refl _
          | none => exact (askQ_pre x s i ps).trans (grows n _ _ _ _)
/-- a run within a limit, beside the whole run -/
def Within (R RL : Res) (L : Int) : Prop := match R with
  | .ans v T qs => (T ≤ L → RL = .ans v T qs) ∧ (L < T → ∃ q', RL = .run q' ∧ q' <+: qs)
  | .ended T qs => (T ≤ L → RL = .ended T qs) ∧ (L < T → ∃ q', RL = .run q' ∧ q' <+: qs)
  | .silent _ S qs => ∃ q', RL = .run q' ∧ q' <+: qs ∧ (S ≤ L → q' = qs)
  | .run qs => ∃ q', RL = .run q' ∧ q' <+: qs
theorem loop_time (hc : ∀ i ∈ code, 1 ≤ i.cost) : ∀ (n : Nat) (s : S3) (t : Int) (seen : List (S3 × Int)) (ps : List Int), match loopF code x mem none n s t seen ps with
    | .ans _ T _ => t < T
    | .ended T _ => t ≤ T
    | .silent _ S _ => t ≤ S
    | .run _ => True
  | 0, s, t, seen, ps => trivial
  | n + 1, s, t, seen, ps => by
    rw [loopF_eq]
    cases lookS s seen with
    | some f => exact Int.le_refl _
    | none =>
      cases e : code[s.pc]? with
      | none => exact Int.le_refl _
      | some i =>
        have h1 := hc i (List.mem_of_getElem? e)
        dsimp only
        rw [if_neg (by intro z; cases z)]
        cases ansOf i with
        | some v => show t < t + i.cost; omega
        | none =>
          have ih := loop_time hc n (nextS x mem s i) (t + i.cost) (seen ++ [(s, t)]) (askQ x s i ps)
          dsimp only
          revert ih
          cases loopF code x mem none n (nextS x mem s i) (t + i.cost) (seen ++ [(s, t)]) (askQ x s i ps) with
          | ans v T qs => intro ih; show t < T; have ih' : t + i.cost < T := ih; omega
          | ended T qs => intro ih; show t ≤ T; have ih' : t + i.cost ≤ T := ih; omega
          | silent f S qs => intro ih; show t ≤ S; have ih' : t + i.cost ≤ S := ih; omega
          | run qs => intro ih; trivial
theorem run_within (hc : ∀ i ∈ code, 1 ≤ i.cost) {L : Int} : ∀ (n : Nat) (s : S3) (t : Int) (seen : List (S3 × Int)) (ps : List Int), t ≤ L → Within (loopF code x mem none n s t seen ps) (loopF code x mem (some L) n s t seen ps) L
  | 0, s, t, seen, ps, _ => ⟨ps, rfl, List.prefix_refl _⟩
  | n + 1, s, t, seen, ps, hL => by
    rw [loopF_eq, loopF_eq]
    cases hl : lookS s seen with
    | some f => exact ⟨ps, rfl, List.prefix_refl _, fun _ => rfl⟩
    | none =>
      cases e : code[s.pc]? with
      | none => exact ⟨fun _ => rfl, fun h => absurd h (by omega)⟩
      | some i =>
        have h1 := hc i (List.mem_of_getElem? e)
        dsimp only
        rw [if_neg (show ¬ over none (t + i.cost) = true from fun z => nomatch z)]
        by_cases ho : L < t + i.cost
        · rw [if_pos (show over (some L) (t + i.cost) = true from decide_eq_true ho)]
          cases ha : ansOf i with
          | some v => exact ⟨fun h => absurd h (by omega), fun _ => ⟨ps, rfl, List.prefix_refl _⟩⟩
          | none =>
            have tm := loop_time (x := x) (mem := mem) hc n (nextS x mem s i) (t + i.cost) (seen ++ [(s, t)]) (askQ x s i ps)
            have gr := (askQ_pre x s i ps).trans (grows (code := code) (x := x) (mem := mem) (lim := none) n (nextS x mem s i) (t + i.cost) (seen ++ [(s, t)]) (askQ x s i ps))
            dsimp only
            revert tm gr
            cases loopF code x mem none n (nextS x mem s i) (t + i.cost) (seen ++ [(s, t)]) (askQ x s i ps) with
            | ans v T qs => intro tm gr; have tm' : t + i.cost < T := tm; exact ⟨fun h => absurd h (by omega), fun _ => ⟨ps, rfl, gr⟩⟩
            | ended T qs => intro tm gr; have tm' : t + i.cost ≤ T := tm; exact ⟨fun h => absurd h (by omega), fun _ => ⟨ps, rfl, gr⟩⟩
            | silent f S qs => intro tm gr; have tm' : t + i.cost ≤ S := tm; exact ⟨ps, rfl, gr, fun h => absurd h (by omega)⟩
            | run qs => intro tm gr; exact ⟨ps, rfl, gr⟩
        · rw [if_neg (show ¬ over (some L) (t + i.cost) = true from fun z => ho (of_decide_eq_true z))]
          cases ha : ansOf i with
          | some v => exact ⟨fun _ => rfl, fun h => absurd h ho⟩
          | none => exact run_within hc n _ _ _ _ (by omega)
/-- a lesser limit asks no more -/
theorem lim_mono {L L' : Int} (h : L ≤ L') : ∀ (n : Nat) (s : S3) (t : Int) (seen : List (S3 × Int)) (ps : List Int), resQs (loopF code x mem (some L) n s t seen ps) <+: resQs (loopF code x mem (some L') n s t seen ps)
  | 0, s, t, seen, ps => List.prefix_refl _
  | n + 1, s, t, seen, ps => by
    rw [loopF_eq, loopF_eq]
    cases hl : lookS s seen with
    | some f => exact List.prefix_refl _
    | none =>
      cases e : code[s.pc]? with
      | none => exact List.prefix_refl _
      | some i =>
        dsimp only
        by_cases ho : L < t + i.cost
        · rw [if_pos (show over (some L) (t + i.cost) = true from decide_eq_true ho)]
          split
          · exact List.prefix_refl _
          · cases ansOf i with
            | some v => exact List.prefix_refl _
            | none => exact (askQ_pre x s i ps).trans (grows n _ _ _ _)
        · rw [if_neg (show ¬ over (some L) (t + i.cost) = true from fun z => ho (of_decide_eq_true z))]
          rw [if_neg (show ¬ over (some L') (t + i.cost) = true from fun z => ho (by have := of_decide_eq_true z; omega))]
          cases ansOf i with
          | some v => exact List.prefix_refl _
          | none => exact lim_mono h n _ _ _ _
end
abbrev nones4 : List V := [V.non, V.non, V.non, V.non]
section
variable {K : PySem.W.Frag} {f : Addr} {fd : FuncData}
theorem ri_kE (F : FunD K "__init__" "Run.__init__" (defArgs sRI) (defBody sRI) (defScope sRI) nones4 [] f fd) : ∃ g, KBn K fd psR 3 ["length"] g (fun vs zs => vs ++ ([V.non] ++ (zs ++ [V.non, V.non]))) := by
  obtain ⟨its, h⟩ := F.kbindsD (ps := psR) 3 ["length"] (fun us its ws => us ++ (its.take 1 ++ (ws ++ its.drop 2))) (by simp) (fun r1 r2 r3 => r1.append ((r2.take 1).append (r3.append (r2.drop 2))))
    (fun T kV doc pm an cdv ct us its ws h1 h2 h3 => match us, its, ws, h1, h2, h3 with | [_, _, _], [_, _, _, _], [_], _, _, _ => ⟨_, rfl, rfl⟩)
  exact ⟨_, h⟩
theorem ri_kA (F : FunD K "__init__" "Run.__init__" (defArgs sRI) (defBody sRI) (defScope sRI) nones4 [] f fd) : ∃ g, KBn K fd psR 3 ["answer", "length"] g (fun vs zs => vs ++ (zs ++ [V.non, V.non])) := by
  obtain ⟨its, h⟩ := F.kbindsD (ps := psR) 3 ["answer", "length"] (fun us its ws => us ++ (ws ++ its.drop 2)) (by simp) (fun r1 r2 r3 => r1.append (r3.append (r2.drop 2)))
    (fun T kV doc pm an cdv ct us its ws h1 h2 h3 => match us, its, ws, h1, h2, h3 with | [_, _, _], [_, _, _, _], [_, _], _, _, _ => ⟨_, rfl, rfl⟩)
  exact ⟨_, h⟩
theorem ri_kS (F : FunD K "__init__" "Run.__init__" (defArgs sRI) (defBody sRI) (defScope sRI) nones4 [] f fd) : ∃ g, KBn K fd psR 3 ["first", "second"] g (fun vs zs => vs ++ ([V.non, V.non] ++ zs)) := by
  obtain ⟨its, h⟩ := F.kbindsD (ps := psR) 3 ["first", "second"] (fun us its ws => us ++ (its.take 2 ++ ws)) (by simp) (fun r1 r2 r3 => r1.append ((r2.take 2).append r3))
    (fun T kV doc pm an cdv ct us its ws h1 h2 h3 => match us, its, ws, h1, h2, h3 with | [_, _, _], [_, _, _, _], [_, _], _, _, _ => ⟨_, rfl, rfl⟩)
  exact ⟨_, h⟩
theorem ri_kR (F : FunD K "__init__" "Run.__init__" (defArgs sRI) (defBody sRI) (defScope sRI) nones4 [] f fd) : ∃ ds, Vals [V.non, V.non, V.non, V.non] ds ∧ Binds K fd psR ds :=
  F.binds1 (ps := psR) 3 0 (by simp) rfl fun T kV doc pm an cdv ct us its h1 h2 => match us, its, h1, h2 with | [_, _, _], [_, _, _, _], _, _ => ⟨_, rfl, rfl⟩
theorem tr_b (F : FunD K "teller_run" "teller_run" (defArgs sTR) (defBody sTR) (defScope sTR) [V.non] [] f fd) : Binds K fd ["code", "position", "members", "limit"] [] := by
  obtain ⟨ds, h1, h2⟩ := F.binds1 (ps := ["code", "position", "members", "limit"]) 4 1 (by simp) rfl fun T kV doc pm an cdv ct us its h1 h2 => match us, its, h1, h2 with | [_, _, _, _], [_], _, _ => ⟨_, rfl, rfl⟩
  cases h1
  exact h2
theorem fund_d {x qual : Str} {st : Stmt} {dvs : List V} {oc : Value} {od an : Option Addr} {osl sl : Array (Option Value)} {T : Addr} {kV doc pm cdv ct tc : Value} {to : Option Addr} {its : List Value} {n : Nat}
    (l : K.lookup f = some ⟨oc, od, .func (PySem.W.fnOf x qual (defArgs st) (defBody st) (defScope st) (.ref T) kV doc pm an cdv ct), osl⟩) (c : PySem.W.codeIn K cdv qual = true) (k : PySem.W.keepIn K (.ref f) = true) (lT : K.lookup T = some ⟨tc, to, .seq its.toArray n, sl⟩) (hn : dvs ≠ []) (hv : Vals dvs its) :
    FunD K x qual (defArgs st) (defBody st) (defScope st) dvs [] f (PySem.W.fnOf x qual (defArgs st) (defBody st) (defScope st) (.ref T) kV doc pm an cdv ct) :=
  ⟨⟨oc, od, .ref T, kV, doc, pm, an, cdv, ct, osl, rfl, l, c, .inr ⟨hn, T, _, its, n, rfl, lT, rfl, hv⟩, .inl rfl⟩, k⟩
theorem fund_k {x qual : Str} {st : Stmt} {y : Str} {oc : Value} {od an : Option Addr} {osl : Array (Option Value)} {D : Addr} {doc pm cdv ct : Value}
    (l : K.lookup f = some ⟨oc, od, .func (PySem.W.fnOf x qual (defArgs st) (defBody st) (defScope st) .none (.ref D) doc pm an cdv ct), osl⟩) (c : PySem.W.codeIn K cdv qual = true) (k : PySem.W.keepIn K (.ref f) = true) (lD : PySem.W.nsIn K D y = some (some .none)) :
    FunD K x qual (defArgs st) (defBody st) (defScope st) [] [(y, V.non)] f (PySem.W.fnOf x qual (defArgs st) (defBody st) (defScope st) .none (.ref D) doc pm an cdv ct) :=
  ⟨⟨oc, od, .none, .ref D, doc, pm, an, cdv, ct, osl, rfl, l, c, .inl ⟨rfl, rfl⟩, .inr ⟨D, rfl, fun q m => by rw [List.mem_singleton.mp m]; exact ⟨_, lD, rfl⟩⟩⟩, k⟩
end
abbrev sEqR : Stmt := inClass (top 55) 1
def eqRes (R S : Res) : Bool := decide (resOut R = resOut S) && decide (resAns R = resAns S) && decide (resLen R = resLen S) && decide (resFst R = resFst S) && decide (resSnd R = resSnd S) && decide (resPs R = resPs S)
theorem eqRes_refl (R : Res) : eqRes R R = true := by simp [eqRes]
def spEqR (K : PySem.W.Frag) (C : Addr) : Sp := fun vs H Q _ => ∃ (a b : Addr) (R S : Res), vs = [.ref a, .ref b] ∧ RunA H C a R ∧ RunA H C b S ∧ Q (.bl (eqRes R S)) H
theorem eqv_ints : ∀ ns ms : List Int, PyData.eqvAll (ns.map PyData.int) (ms.map PyData.int) = decide (ns = ms)
  | [], [] => rfl
  | [], _ :: _ => by simp [PyData.eqvAll]
  | _ :: _, [] => by simp [PyData.eqvAll]
  | n :: r, m :: u => by
    have ih := eqv_ints r u
    simp only [List.map_cons, PyData.eqvAll, ih, PyData.eqv]
    by_cases e1 : n = m <;> by_cases e2 : r = u <;> simp [e1, e2]
theorem eqv_list (ns ms : List Int) : PyData.eqv (.list (ns.map PyData.int)) (.list (ms.map PyData.int)) = decide (ns = ms) := by
  rw [← eqv_ints]
  simp only [PyData.eqv]
theorem shaped_ints (ns : List Int) : SeqAt.shaped (.list (ns.map PyData.int)) = true := by
  show ((PyData.list (ns.map PyData.int)).canLay0 && decide (_ ≤ 64)) = true
  rw [Bool.and_eq_true]
  refine ⟨?_, decide_eq_true ?_⟩
  · simp only [PyData.canLay0]
    exact lay_all fun d m => by obtain ⟨n, _, rfl⟩ := List.mem_map.mp m; exact lay_int n
  · have hd : PyData.depthAll (ns.map PyData.int) ≤ 0 := depth_all fun d m => by obtain ⟨n, _, rfl⟩ := List.mem_map.mp m; simp only [PyData.depth]; exact Nat.le_refl _
    simp only [PyData.depth]
    omega
theorem dp_ints' {K : PySem.W.Frag} {H : Hp} : ∀ ns : List Int, DpAll K H (ns.map V.int) (ns.map PyData.int)
  | [] => .nil
  | n :: r => .cons (.int n) (dp_ints' r)
def isN : V → Prop
  | .non => True
  | .int _ => True
  | _ => False
theorem scal_num {v w : V} (h : isN v) (h' : isN w) : scal v w = true := by
  cases v <;> first | exact absurd h (fun z => z) | (cases w <;> first | exact absurd h' (fun z => z) | rfl)
theorem res_isN (R : Res) : isN (resAns R) ∧ isN (resLen R) ∧ isN (resFst R) ∧ isN (resSnd R) := by cases R <;> exact ⟨trivial, trivial, trivial, trivial⟩
/-- the class as isinstance sees it -/
structure RIs (K : PySem.W.Frag) (C : Addr) : Prop where
  ha : PySem.W.findIn K (.ref C) "__class__" = some (some (.builtin "object.__class__"))
  hn : PySem.W.specialIn K (.builtin "object.__class__") "__get__" = some (some (.builtin "getset_descriptor.__get__"))
  ht : PySem.W.takesIn K (.builtin "object.__class__") = some true
  hm : PySem.W.mroIn K C (.type "object") = some true
theorem kit_same {K : PySem.W.Frag} {D : Addr} : PySem.W.kitOne K (.ref D) (.ref D) = some true := by
  unfold PySem.W.kitOne
  rw [if_pos (beq_self_eq_true _)]
section
variable {P : Program} {w : World} {K : PySem.W.Frag} {mg : Str → Option Value} {base : Heap}
theorem scEqR : FnScope ["self", "other"] ["self", "other"] (defScope sEqR) := ⟨rfl, rfl, rfl, by decide +kernel, rfl, by decide +kernel, by decide +kernel⟩
theorem ok_EqR {f C : Addr} {fd : FuncData} (F : Fun K "__eq__" "Run.__eq__" sEqR f fd) (T : Gs K mg) (N : RNo K C) (I : RIs K C) (gC : mg "Run" = some (.ref C)) : FnOk P w K mg base CX0 1 f fd ["self", "other"] (spEqR K C) := by
  refine F.ok scEqR (fun vs H Q E h => ?_) (fun cdv A outer s H vs Q E hr h => ?_)
  · obtain ⟨a, b, R, S, rfl, _⟩ := h
    rfl
  obtain ⟨a, b, R, S, rfl, ⟨dx, as, h1, h2⟩, ⟨dy, bs, g1, g2⟩, q⟩ := h
  refine ⟨_, pss_one (ps_ret (pe_and (pe_callB call_isi (by rfl) T.isi (by decide +kernel) (pa_cons (pv 1) (pa_cons (pe_gref rfl gC) pa_nil))) (pe_and (pe_cmpR op_eq (pe_fld (pv 0) rfl) (pe_fld (pv 1) rfl) (nomark _)) (pe_and (pe_cmpR op_eq (pe_fld (pv 0) rfl) (pe_fld (pv 1) rfl) (nomark _)) (pe_and (pe_cmpR op_eq (pe_fld (pv 0) rfl) (pe_fld (pv 1) rfl) (nomark _)) (pe_and (pe_cmpR op_eq (pe_fld (pv 0) rfl) (pe_fld (pv 1) rfl) (nomark _)) (pe_and (pe_cmpR op_eq (pe_fld (pv 0) rfl) (pe_fld (pv 1) rfl) (nomark _)) (pe_one (pe_cmpR (op_eqD hr.units) (pe_fld (pv 0) rfl) (pe_fld (pv 1) rfl) (nomark _)))))))))), ?_⟩
  obtain ⟨n1, n2, n3, n4⟩ := res_isN R
  obtain ⟨m1, m2, m3, m4⟩ := res_isN S
  refine ⟨_, rfl, .ref b, .ref C, _, _, _, rfl, .own C, .base (.ins g1 N.cl I.ha I.hn I.ht I.hm), kit_same, _, rfl, iteT ?_⟩
  unfold eqRes at q
  refine ⟨_, rfl, a, C, dx, _, _, rfl, h1, N.cl, N.nO, rfl, _, rfl, b, C, dy, _, _, rfl, g1, N.cl, N.nO, rfl, rfl, _, rfl, ?_⟩
  by_cases c1 : resOut R = resOut S
  case neg =>
    rw [decide_eq_false c1] at q
    simp only [Bool.false_and] at q
    refine ite2 (fun c => absurd (of_decide_eq_true c) (fun z => c1 (by injection z))) (fun c => ?_)
    exact q
  rw [decide_eq_true c1, Bool.true_and] at q
  refine ite2 (fun _ => ?_) (fun c => absurd (decide_eq_true (by rw [c1])) c)
  refine ⟨_, rfl, a, C, dx, _, _, rfl, h1, N.cl, N.nA, rfl, _, rfl, b, C, dy, _, _, rfl, g1, N.cl, N.nA, rfl, scal_num n1 m1, _, rfl, ?_⟩
  cases c2 : decide (resAns R = resAns S) with
  | false => rw [c2] at q; simp only [Bool.false_and] at q; exact iteF q
  | true =>
  rw [c2, Bool.true_and] at q
  refine iteT ⟨_, rfl, a, C, dx, _, _, rfl, h1, N.cl, N.nL, rfl, _, rfl, b, C, dy, _, _, rfl, g1, N.cl, N.nL, rfl, scal_num n2 m2, _, rfl, ?_⟩
  cases c3 : decide (resLen R = resLen S) with
  | false => rw [c3] at q; simp only [Bool.false_and] at q; exact iteF q
  | true =>
  rw [c3, Bool.true_and] at q
  refine iteT ⟨_, rfl, a, C, dx, _, _, rfl, h1, N.cl, N.nF, rfl, _, rfl, b, C, dy, _, _, rfl, g1, N.cl, N.nF, rfl, scal_num n3 m3, _, rfl, ?_⟩
  cases c4 : decide (resFst R = resFst S) with
  | false => rw [c4] at q; simp only [Bool.false_and] at q; exact iteF q
  | true =>
  rw [c4, Bool.true_and] at q
  refine iteT ⟨_, rfl, a, C, dx, _, _, rfl, h1, N.cl, N.nS, rfl, _, rfl, b, C, dy, _, _, rfl, g1, N.cl, N.nS, rfl, scal_num n4 m4, _, rfl, ?_⟩
  cases c5 : decide (resSnd R = resSnd S) with
  | false => rw [c5] at q; simp only [Bool.false_and] at q; exact iteF q
  | true =>
  rw [c5, Bool.true_and] at q
  refine iteT ⟨_, rfl, a, C, dx, _, _, rfl, h1, N.cl, N.nQ, rfl, _, rfl, b, C, dy, _, _, rfl, g1, N.cl, N.nQ, rfl, .list ((resPs R).map PyData.int), .list ((resPs S).map PyData.int), .lst (SqL.of h2) (dp_ints' _), .lst (SqL.of g2) (dp_ints' _), shaped_ints _, shaped_ints _, ?_⟩
  rw [eqv_list]
  exact q
end
/-! ### a whole run ends -/
theorem not_run {code : List Ins} {x : Int} {mem : Int → Bool} (hok : ∀ i ∈ code, i.ok "teller") : ∀ (n : Nat) (s : S3) (t : Int) (seen : List (S3 × Int)) (ps : List Int), (seen.map (·.1)).Nodup → (∀ e ∈ seen, okS3 code e.1) → in16 s.a s.b → n + seen.length = fuel code →
    ∀ qs, loopF code x mem none n s t seen ps ≠ .run qs
  | 0, s, t, seen, ps, hn, ho, _, hf, qs => by
    have := few_states hn (fun s0 m0 => by obtain ⟨e, me, rfl⟩ := List.mem_map.mp m0; exact ho e me)
    rw [List.length_map] at this
    unfold fuel at hf
    omega
  | n + 1, s, t, seen, ps, hn, ho, h16, hf, qs => by
    rw [loopF_eq]
    cases hl : lookS s seen with
    | some f => intro z; cases z
    | none =>
      cases e : code[s.pc]? with
      | none => intro z; cases z
      | some i =>
        dsimp only
        rw [if_neg (show ¬ over none (t + i.cost) = true from fun z => nomatch z)]
        cases ha : ansOf i with
        | some v => intro z; cases z
        | none =>
          refine not_run hok n _ _ _ _ ?_ ?_ (heldS16 (hok i (List.mem_of_getElem? e)) h16) (by rw [List.length_append]; show n + (seen.length + 1) = _; omega) qs
          · rw [List.map_append, List.nodup_append]
            refine ⟨hn, List.nodup_cons.mpr ⟨(fun z => nomatch z), List.nodup_nil⟩, fun a1 h1 b1 h2 e => ?_⟩
            have e2 : b1 = s := by simpa using h2
            rw [e, e2] at h1
            exact lookS_none hl h1
          · intro e' me
            rcases List.mem_append.mp me with me | me
            · exact ho e' me
            · rw [List.mem_singleton.mp me]
              exact ⟨(List.getElem?_eq_some_iff.mp e).1, h16⟩
theorem whole_run {code : List Ins} {x : Int} {mem : Int → Bool} (hok : ∀ i ∈ code, i.ok "teller") (qs : List Int) : runF code x mem none ≠ .run qs :=
  not_run hok (fuel code) ⟨0, 0, 0⟩ 0 [] [] List.nodup_nil (fun e m => nomatch m) ⟨⟨by decide, by decide⟩, by decide, by decide⟩ rfl qs
/-- the number near which the limits are drawn -/
def nearOf : Res → Int
  | .ans _ T _ => T
  | .ended T _ => T
  | .silent _ S _ => S
  | .run _ => 0
/-- what the law asks of a run within a limit -/
theorem part_of {code : List Ins} {x : Int} {mem : Int → Bool} (hok : ∀ i ∈ code, i.ok "teller") {L : Int} (hL : 0 ≤ L) :
    (∀ T, resLen (runF code x mem none) = .int T → T ≤ L → runF code x mem (some L) = runF code x mem none) ∧
    (¬ (∃ T, resLen (runF code x mem none) = .int T ∧ T ≤ L) → ∃ q', runF code x mem (some L) = .run q') ∧
    (resQs (runF code x mem (some L)) <+: resQs (runF code x mem none)) ∧ (nearOf (runF code x mem none) ≤ L → resQs (runF code x mem (some L)) = resQs (runF code x mem none)) := by
  have hw := run_within (x := x) (mem := mem) (L := L) (code := code) (fun i m => (cost_pos (hok i m)).1) (fuel code) ⟨0, 0, 0⟩ 0 [] [] hL
  have hn := whole_run (x := x) (mem := mem) hok
  unfold runF at hn ⊢
  generalize loopF code x mem none (fuel code) ⟨0, 0, 0⟩ 0 [] [] = R at hw hn ⊢
  generalize loopF code x mem (some L) (fuel code) ⟨0, 0, 0⟩ 0 [] [] = RL at hw ⊢
  cases R with
  | ans v T qs =>
    obtain ⟨w1, w2⟩ := (show (T ≤ L → RL = .ans v T qs) ∧ (L < T → ∃ q', RL = .run q' ∧ q' <+: qs) from hw)
    refine ⟨fun T' e h => ?_, fun h => ?_, ?_, fun h => ?_⟩
    · have e' : T = T' := by have e2 : V.int T = V.int T' := e; injection e2
      exact w1 (by omega)
    · have : L < T := by
        by_cases c : T ≤ L
        · exact absurd ⟨T, rfl, c⟩ h
        · omega
      obtain ⟨q', e, _⟩ := w2 this
      exact ⟨q', e⟩
    · by_cases c : T ≤ L
      · rw [w1 c]; exact List.prefix_refl _
      · obtain ⟨q', e, p⟩ := w2 (by omega)
        rw [e]; exact p
    · rw [w1 h]
  | ended T qs =>
    obtain ⟨w1, w2⟩ := (show (T ≤ L → RL = .ended T qs) ∧ (L < T → ∃ q', RL = .run q' ∧ q' <+: qs) from hw)
    refine ⟨fun T' e h => ?_, fun h => ?_, ?_, fun h => ?_⟩
    · have e' : T = T' := by have e2 : V.int T = V.int T' := e; injection e2
      exact w1 (by omega)
    · have : L < T := by
        by_cases c : T ≤ L
        · exact absurd ⟨T, rfl, c⟩ h
        · omega
      obtain ⟨q', e, _⟩ := w2 this
      exact ⟨q', e⟩
    · by_cases c : T ≤ L
      · rw [w1 c]; exact List.prefix_refl _
      · obtain ⟨q', e, p⟩ := w2 (by omega)
        rw [e]; exact p
    · rw [w1 h]
  | silent f S qs =>
    obtain ⟨q', e, p, h⟩ := (show ∃ q', RL = .run q' ∧ q' <+: qs ∧ (S ≤ L → q' = qs) from hw)
    refine ⟨(fun T' e2 _ => nomatch (show V.non = V.int T' from e2)), fun _ => ⟨q', e⟩, by rw [e]; exact p, fun h2 => by rw [e]; exact h h2⟩
  | run qs => exact absurd rfl (hn qs)
theorem near_pos {code : List Ins} {x : Int} {mem : Int → Bool} (hok : ∀ i ∈ code, i.ok "teller") : 0 ≤ nearOf (runF code x mem none) ∧ (resLen (runF code x mem none) = .int (nearOf (runF code x mem none)) ∨ (resLen (runF code x mem none) = .non ∧ resSnd (runF code x mem none) = .int (nearOf (runF code x mem none)))) := by
  have hn := whole_run (x := x) (mem := mem) hok
  have tm := loop_time (x := x) (mem := mem) (code := code) (fun i m => (cost_pos (hok i m)).1) (fuel code) ⟨0, 0, 0⟩ 0 [] []
  unfold runF at hn ⊢
  revert tm hn
  cases loopF code x mem none (fuel code) ⟨0, 0, 0⟩ 0 [] [] with
  | ans v T qs => intro hn tm; have tm' : 0 < T := tm; exact ⟨by show 0 ≤ T; omega, .inl rfl⟩
  | ended T qs => intro hn tm; exact ⟨tm, .inl rfl⟩
  | silent f S qs => intro hn tm; exact ⟨tm, .inr ⟨rfl, rfl⟩⟩
  | run qs => intro hn tm; exact absurd rfl (hn qs)
theorem part_mono {code : List Ins} {x : Int} {mem : Int → Bool} {L L' : Int} (h : L ≤ L') : resQs (runF code x mem (some L)) <+: resQs (runF code x mem (some L')) := lim_mono h _ _ _ _ _
theorem mem_ps {R : Res} {z : Int} : z ∈ resPs R ↔ z ∈ resQs R := by
  rw [resPs_eq]
  exact (isort_perm _).mem_iff
/-! ### the law's own steps -/
def stV (s : S3) : List V := [.int (s.pc : Nat), .int s.a, .int s.b]
def spTO (K : PySem.W.Frag) : Sp := fun vs H Q _ => ∃ (v : V) (st : Addr) (d : PyData) (s : S3), vs = [v, .ref st] ∧ Dp K H v d ∧ isTerm d = true ∧ SqT K H st (stV s) ∧ Q (.int (tval s.a s.b d)) H
def spTr (K : PySem.W.Frag) : Sp := fun vs H Q _ => ∃ (v : V) (st : Addr) (d : PyData) (s : S3), vs = [v, .ref st] ∧ Dp K H v d ∧ isCond d = true ∧ SqT K H st (stV s) ∧ Q (.bl (cval s.a s.b d)) H
def heldN (an : Int) (s : S3) : Ins → Int × Int
  | .ask _ _ z => vput z an (s.a, s.b)
  | i => i.held s.a s.b
def spNx (K : PySem.W.Frag) : Sp := fun vs H Q _ => ∃ (v : V) (st : Addr) (an : Int) (i : Ins) (s : S3) (k : Str), vs = [v, .ref st, .int an] ∧ Dp K H v i.toD ∧ i.ok k ∧ SqT K H st (stV s) ∧
  ∀ H' r, Same H H' → H r = none → H' r = some (.tup [.int ((s.pc + 1 : Nat) : Int), .int (heldN an s i).1, .int (heldN an s i).2]) → Q (.ref r) H'
def spPlc (K : PySem.W.Frag) : Sp := fun vs H Q _ => ∃ (v : V) (st : Addr) (x : Int) (g : Str) (d : PyData) (z : Str) (k : Str) (s : S3), vs = [v, .ref st, .int x] ∧ Dp K H v (Ins.ask g d z).toD ∧ (Ins.ask g d z).ok k ∧ SqT K H st (stV s) ∧
  ∀ H', Same H H' → Q (.int (place x s.a s.b g d)) H'
section
variable {P : Program} {w : World} {K : PySem.W.Frag} {mg : Str → Option Value} {base : Heap}
theorem find_ab {z : Str} (h : okV z) : Txt.find ("ab" : Str) z = (if z = "a" then 0 else 1) := by
  rcases h with rfl | rfl <;> decide +kernel
end
/-! ### where instructions lead -/
def Ins.tgt : Ins → Nat
  | .test _ t => t
  | .jump t => t
  | _ => 0
theorem plain_tgt {k : Str} {s : PyData} {i : Ins} (h : isPlain s k = true) (e : s = i.toD) : i.tgt = 0 := by
  obtain ⟨j, ej, hj⟩ := plain_ins h
  cases i with
  | test c t =>
    exfalso
    obtain ⟨z, ps, rs, e2, hz, _, _⟩ := plain_inv h
    rw [e] at e2
    injection e2 with e2
    injection e2 with e2 _
    injection e2 with e2
    subst e2
    unfold rolesZ at hz
    revert hz
    simp (decide := true)
  | jump t =>
    exfalso
    obtain ⟨z, ps, rs, e2, hz, _, _⟩ := plain_inv h
    rw [e] at e2
    injection e2 with e2
    injection e2 with e2 _
    injection e2 with e2
    subst e2
    unfold rolesZ at hz
    revert hz
    simp (decide := true)
  | _ => rfl
/-- the instructions of a program, none of which leads past the end -/
theorem code_tgt {k : Str} : ∀ {n c : Nat} {d : PyData} (st0 : Nat), bodyN k n d = some c → ∃ is : List Ins, bodyC n st0 d = is.map Ins.toD ∧ (∀ i ∈ is, i.ok k) ∧ ∀ i ∈ is, i.tgt ≤ st0 + is.length
  | 0, c, d, st0, h => ⟨[], rfl, (fun i m => nomatch m), (fun i m => nomatch m)⟩
  | n + 1, c, d, st0, h => by
    obtain ⟨ss, rfl⟩ := body_tuple h
    rw [bodyN_tup] at h
    show ∃ is : List Ins, codeL (stC (bodyC n)) st0 ss = is.map Ins.toD ∧ (∀ i ∈ is, i.ok k) ∧ ∀ i ∈ is, i.tgt ≤ st0 + is.length
    induction ss generalizing st0 c with
    | nil => exact ⟨[], rfl, (fun i m => nomatch m), (fun i m => nomatch m)⟩
    | cons s r ih =>
      obtain ⟨a, b, e1, e2, _, _⟩ := addO_le (show addO (stN k n s) (sumO (r.map (stN k n))) = some c from h)
      have one : ∃ is : List Ins, stC (bodyC n) st0 s = is.map Ins.toD ∧ (∀ i ∈ is, i.ok k) ∧ ∀ i ∈ is, i.tgt ≤ st0 + is.length := by
        rcases st_shape e1 with ⟨z, ps, rfl, h1, h2, hp, rfl⟩ | ⟨co, bb, c', rfl, hco, hb, rfl⟩ | ⟨co, b1, b2, c1, c2, rfl, hco, hb1, hb2, rfl⟩
        · rw [stC_plain h1 h2]
          obtain ⟨i, e, hi⟩ := plain_ins hp
          refine ⟨[i], by rw [e]; rfl, fun j m => by rw [List.mem_singleton.mp m]; exact hi, fun j m => ?_⟩
          rw [List.mem_singleton.mp m, plain_tgt hp e]
          exact Nat.zero_le _
        · rw [stC_while]
          unfold whC
          obtain ⟨is, e, hi, ht⟩ := code_tgt (st0 + 1) hb
          have el : (bodyC n (st0 + 1) bb).length = is.length := by rw [e, List.length_map]
          refine ⟨.test co (st0 + 1 + (bodyC n (st0 + 1) bb).length + 1) :: (is ++ [.jump st0]), ?_, fun j m => ?_, fun j m => ?_⟩
          · rw [e]
            simp [Ins.toD]
          · simp only [List.mem_cons, List.mem_append, List.not_mem_nil, or_false] at m
            rcases m with rfl | m | rfl
            · exact hco
            · exact hi j m
            · trivial
          · simp only [List.length_cons, List.length_append, List.length_nil]
            simp only [List.mem_cons, List.mem_append, List.not_mem_nil, or_false] at m
            rcases m with rfl | m | rfl
            · show st0 + 1 + (bodyC n (st0 + 1) bb).length + 1 ≤ _
              omega
            · have := ht j m
              omega
            · show st0 ≤ _
              omega
        · rw [stC_if]
          unfold ifC
          obtain ⟨is, e, hi, ht⟩ := code_tgt (st0 + 1) hb1
          have el : (bodyC n (st0 + 1) b1).length = is.length := by rw [e, List.length_map]
          split
          · refine ⟨.test co (st0 + 1 + (bodyC n (st0 + 1) b1).length) :: is, ?_, fun j m => ?_, fun j m => ?_⟩
            · rw [e]
              simp [Ins.toD]
            · rcases List.mem_cons.mp m with rfl | m
              · exact hco
              · exact hi j m
            · simp only [List.length_cons]
              rcases List.mem_cons.mp m with rfl | m
              · show st0 + 1 + (bodyC n (st0 + 1) b1).length ≤ _
                omega
              · have := ht j m
                omega
          · obtain ⟨js, e', hj, ht'⟩ := code_tgt (st0 + 1 + (bodyC n (st0 + 1) b1).length + 1) hb2
            have el' : (bodyC n (st0 + 1 + (bodyC n (st0 + 1) b1).length + 1) b2).length = js.length := by rw [e', List.length_map]
            refine ⟨.test co (st0 + 1 + (bodyC n (st0 + 1) b1).length + 1) :: (is ++ .jump (st0 + 1 + (bodyC n (st0 + 1) b1).length + 1 + (bodyC n (st0 + 1 + (bodyC n (st0 + 1) b1).length + 1) b2).length) :: js), ?_, fun j m => ?_, fun j m => ?_⟩
            · rw [e', e]
              simp [Ins.toD]
            · simp only [List.mem_cons, List.mem_append] at m
              rcases m with rfl | m | rfl | m
              · exact hco
              · exact hi j m
              · trivial
              · exact hj j m
            · simp only [List.length_cons, List.length_append]
              simp only [List.mem_cons, List.mem_append] at m
              rcases m with rfl | m | rfl | m
              · show st0 + 1 + (bodyC n (st0 + 1) b1).length + 1 ≤ _
                omega
              · have := ht j m
                omega
              · show st0 + 1 + (bodyC n (st0 + 1) b1).length + 1 + (bodyC n (st0 + 1 + (bodyC n (st0 + 1) b1).length + 1) b2).length ≤ _
                omega
              · have := ht' j m
                omega
      obtain ⟨is, e, hi, ht⟩ := one
      obtain ⟨js, e', hj, ht'⟩ := ih (st0 := st0 + (stC (bodyC n) st0 s).length) (c := b) e2
      have el : (stC (bodyC n) st0 s).length = is.length := by rw [e, List.length_map]
      refine ⟨is ++ js, ?_, fun j m => ?_, fun j m => ?_⟩
      · simp only [codeL]
        rw [e', e, List.map_append]
      · rcases List.mem_append.mp m with m | m
        · exact hi j m
        · exact hj j m
      · rw [List.length_append]
        rcases List.mem_append.mp m with m | m
        · have := ht j m
          omega
        · have := ht' j m
          omega
theorem next_le {code : List Ins} {x : Int} {mem : Int → Bool} {s : S3} {i : Ins} (h : s.pc < code.length) (ht : i.tgt ≤ code.length) : (nextS x mem s i).pc ≤ code.length := by
  show i.next s.pc s.a s.b ≤ _
  cases i with
  | jump t => exact ht
  | test c t =>
    show (if cval s.a s.b c = true then s.pc + 1 else t) ≤ _
    split
    · omega
    · exact ht
  | _ => exact h
/-! ### the law's dict of states -/
def seenK (seen : List (S3 × Int)) : List (List Key × V) := seen.map fun e => (keyOf e.1, V.int e.2)
theorem seenK_look (s : S3) : ∀ seen : List (S3 × Int), valV (seenK seen) (keyOf s) = (lookS s seen).map V.int
  | [] => rfl
  | (s0, t0) :: r => by
    show valV ((keyOf s0, V.int t0) :: seenK r) (keyOf s) = _
    by_cases c : s0 = s
    · subst c
      rw [valV_pos rfl]
      simp [lookS]
    · rw [valV_neg (fun z => c (keyOf_inj z)), seenK_look s r]
      simp [lookS, List.find?_cons, c]
theorem seenK_put {s : S3} {t : Int} {seen : List (S3 × Int)} (h : lookS s seen = none) : putK (seenK seen) (keyOf s) (V.int t) = seenK (seen ++ [(s, t)]) := by
  rw [putK_new _ (by rw [seenK_look, h]; rfl)]
  simp [seenK]
theorem inV_dec {z : Int} {ns : List Int} : inV (.int z) (ns.map V.int) = decide (z ∈ ns) := by
  unfold inV
  induction ns with
  | nil => rfl
  | cons n r ih =>
    rw [List.map_cons, List.any_cons, ih]
    by_cases c : z = n
    · subst c
      simp [eqV]
    · have c' : ¬ n = z := fun e => c e.symm
      simp [eqV, c, c']
theorem held_eq (x : Int) (mem : Int → Bool) (s : S3) (i : Ins) (an : Int) (h : ∀ g d z, i = .ask g d z → an = (if 0 ≤ place x s.a s.b g d ∧ mem (place x s.a s.b g d) = true then 1 else 0)) : heldN an s i = heldS x mem s i := by
  cases i with
  | ask g d z =>
    show vput z an (s.a, s.b) = _
    rw [h g d z rfl]
    rfl
  | _ => rfl
/-! ### data without lists, over a heap whose lists change -/
def tupH (H : Hp) : Hp := fun a => match H a with
  | some (.tup xs) => some (.tup xs)
  | some (.frz o u) => some (.frz o u)
  | _ => none
theorem tupH_same (H : Hp) : Same (tupH H) H := fun a o h => by
  unfold tupH at h
  split at h
  · rename_i e; rw [e]; exact h
  · rename_i e; rw [e]; exact h
  · cases h
def KeepT (H H' : Hp) : Prop := (∀ a xs, H a = some (.tup xs) → H' a = some (.tup xs)) ∧ ∀ a o u, H a = some (.frz o u) → H' a = some (.frz o u)
theorem KeepT.same {H H' : Hp} (k : KeepT H H') : Same (tupH H) (tupH H') := fun a o h => by
  unfold tupH at h
  split at h
  · rename_i e
    unfold tupH
    rw [k.1 _ _ e]
    exact h
  · rename_i e
    unfold tupH
    rw [k.2 _ _ _ e]
    exact h
  · cases h
theorem KeepT.trans {H H' H'' : Hp} (a : KeepT H H') (b : KeepT H' H'') : KeepT H H'' := ⟨fun x xs e => b.1 _ _ (a.1 _ _ e), fun x o u e => b.2 _ _ _ (a.2 _ _ _ e)⟩
theorem KeepT.of {H H' : Hp} (s : Same H H') : KeepT H H' := ⟨fun x xs e => s _ _ e, fun x o u e => s _ _ e⟩
theorem KeepT.fr {b : Addr} {H H' : Hp} (hb : ∃ xs, H b = some (.lst xs)) (f : Fr b H H') : KeepT H H' := by
  obtain ⟨xs, hb⟩ := hb
  exact ⟨fun x ys e => f _ _ (fun z => by rw [z, hb] at e; cases e) e, fun x o u e => f _ _ (fun z => by rw [z, hb] at e; cases e) e⟩
theorem KeepT.upd {b : Addr} {H : Hp} {o : HO} (hb : ∃ xs, H b = some (.lst xs)) : KeepT H (upd H b o) := KeepT.fr hb (Fr.upd o)
abbrev Dt (K : PySem.W.Frag) (H : Hp) (v : V) (d : PyData) : Prop := Dp K (tupH H) v d
theorem new_tup {K : PySem.W.Frag} {H : Hp} {p : Addr} {xs : List V} {ds : List PyData} (np : H p = none) (h : DpAll K (tupH H) xs ds) : Dt K (upd H p (.tup xs)) (.ref p) (.tuple ds) := by
  have e : tupH (upd H p (.tup xs)) p = some (.tup xs) := by unfold tupH; rw [upd_same]
  exact .tup (SqT.of e) (dpAll_mono (KeepT.of (same_new np _)).same _ _ h)
theorem Bag.lst {H : Hp} {b : Addr} (h : Bag H b) : ∃ xs, H b = some (.lst xs) := by
  obtain ⟨c, s, e, _⟩ := h
  exact ⟨_, e⟩
/-! ### the walk of a collector -/
inductive LP where
  | fin (rows : List (Int × Int))
  | cyc (f c t ct : Int) (rows : List (Int × Int))
def lookL (s : S3) (seen : List (S3 × (Int × Int))) : Option (Int × Int) := (seen.find? fun e => decide (e.1 = s)).map (·.2)
def rowsOf (t ct : Int) (s : S3) : Ins → List (Int × Int)
  | .lst d => [(t + 1, ct + tval s.a s.b d)]
  | _ => []
def nextL (s : S3) (i : Ins) : S3 := ⟨i.next s.pc s.a s.b, (i.held s.a s.b).1, (i.held s.a s.b).2⟩
def loopL (code : List Ins) : Nat → S3 → Int → Int → List (S3 × (Int × Int)) → List (Int × Int) → LP
  | 0, _, _, _, _, rows => .fin rows
  | n + 1, s, t, ct, seen, rows => match lookL s seen with
    | some fc => .cyc fc.1 fc.2 t ct rows
    | none => match code[s.pc]? with
      | none => .fin rows
      | some i => loopL code n (nextL s i) (t + i.cost) (ct + i.grown s.a s.b) (seen ++ [(s, (t, ct))]) (rows ++ rowsOf t ct s i)
def runL (code : List Ins) : LP := loopL code (fuel code) ⟨0, 0, 0⟩ 0 0 [] []
theorem loopL_eq (code : List Ins) (n : Nat) (s : S3) (t ct : Int) (seen : List (S3 × (Int × Int))) (rows : List (Int × Int)) : loopL code (n + 1) s t ct seen rows = (match lookL s seen with
    | some fc => .cyc fc.1 fc.2 t ct rows
    | none => match code[s.pc]? with
      | none => .fin rows
      | some i => loopL code n (nextL s i) (t + i.cost) (ct + i.grown s.a s.b) (seen ++ [(s, (t, ct))]) (rows ++ rowsOf t ct s i)) := rfl
/-- head, cycle, period, shift -/
def lpHead : LP → List (Int × Int)
  | .fin rows => rows
  | .cyc f _ _ _ rows => rows.filter fun r => decide (r.1 ≤ f)
def lpCycle : LP → List (Int × Int)
  | .fin _ => []
  | .cyc f _ _ _ rows => rows.filter fun r => decide (f < r.1)
def lpPer : LP → Int
  | .fin _ => 0
  | .cyc f _ t _ _ => t - f
def lpShift : LP → Int
  | .fin _ => 0
  | .cyc _ c _ ct _ => ct - c
theorem lookL_none {s : S3} {seen : List (S3 × (Int × Int))} (h : lookL s seen = none) : s ∉ seen.map (·.1) := by
  intro m
  obtain ⟨e, me, es⟩ := List.mem_map.mp m
  unfold lookL at h
  rw [Option.map_eq_none_iff, List.find?_eq_none] at h
  have := h e me
  simp [es] at this
/-- rows as data -/
def rowD (r : Int × Int) : PyData := .tuple [.int r.1, .int r.2]
theorem row_inv {K : PySem.W.Frag} {H : Hp} {v : V} {r : Int × Int} (h : Dp K H v (rowD r)) : ∃ p, v = .ref p ∧ SqT K H p [.int r.1, .int r.2] := by
  obtain ⟨p, xs, rfl, hs, ha⟩ := dp_tup_inv h
  obtain ⟨x, y, rfl, hx, hy⟩ := dp_pair ha
  cases hx
  cases hy
  exact ⟨p, rfl, hs⟩
/-! ### the dict of states -/
inductive SeenL (H : Hp) : List (List Key × V) → List (S3 × (Int × Int)) → Prop
  | nil : SeenL H [] []
  | cons {s : S3} {t ct : Int} {r : Addr} {kvs : List (List Key × V)} {seen : List (S3 × (Int × Int))} : H r = some (.tup [.int t, .int ct]) → SeenL H kvs seen → SeenL H ((keyOf s, .ref r) :: kvs) ((s, (t, ct)) :: seen)
theorem SeenL.len {H : Hp} : ∀ {kvs : List (List Key × V)} {seen : List (S3 × (Int × Int))}, SeenL H kvs seen → kvs.length = seen.length
  | _, _, .nil => rfl
  | _, _, .cons _ h => by rw [List.length_cons, List.length_cons, h.len]
theorem SeenL.refs {H : Hp} : ∀ {kvs : List (List Key × V)} {seen : List (S3 × (Int × Int))}, SeenL H kvs seen → ∀ p ∈ kvs, ∃ r, p.2 = .ref r
  | _, _, .nil => fun p m => nomatch m
  | _, _, .cons _ h => fun p m => by
    rcases List.mem_cons.mp m with rfl | m
    · exact ⟨_, rfl⟩
    · exact h.refs p m
theorem SeenL.keep {H H' : Hp} (k : KeepT H H') : ∀ {kvs : List (List Key × V)} {seen : List (S3 × (Int × Int))}, SeenL H kvs seen → SeenL H' kvs seen
  | _, _, .nil => .nil
  | _, _, .cons e h => .cons (k.1 _ _ e) (h.keep k)
theorem SeenL.snoc {H : Hp} {s : S3} {t ct : Int} {r : Addr} (e : H r = some (.tup [.int t, .int ct])) : ∀ {kvs : List (List Key × V)} {seen : List (S3 × (Int × Int))}, SeenL H kvs seen → SeenL H (kvs ++ [(keyOf s, .ref r)]) (seen ++ [(s, (t, ct))])
  | _, _, .nil => .cons e .nil
  | _, _, .cons e' h => .cons e' (h.snoc e)
theorem SeenL.look {H : Hp} (s : S3) : ∀ {kvs : List (List Key × V)} {seen : List (S3 × (Int × Int))}, SeenL H kvs seen →
    (valV kvs (keyOf s) = none ∧ lookL s seen = none) ∨ ∃ r t ct, valV kvs (keyOf s) = some (.ref r) ∧ lookL s seen = some (t, ct) ∧ H r = some (.tup [.int t, .int ct])
  | _, _, .nil => .inl ⟨rfl, rfl⟩
  | _, _, .cons (s := s0) (t := t0) (ct := c0) (r := r0) (kvs := kvs) (seen := seen) e h => by
    by_cases c : s0 = s
    · subst c
      refine .inr ⟨r0, t0, c0, valV_pos rfl, ?_, e⟩
      simp [lookL]
    · have e1 : lookL s ((s0, (t0, c0)) :: seen) = lookL s seen := by simp [lookL, List.find?_cons, c]
      have e2 : valV ((keyOf s0, V.ref r0) :: kvs) (keyOf s) = valV kvs (keyOf s) := valV_neg (fun z => c (keyOf_inj z))
      rw [e1, e2]
      exact h.look s
theorem filt_snocR {φ : Int × Int → Bool} {xs : List (Int × Int)} {i : Nat} {n : Int × Int} (h : xs[i]? = some n) : (xs.take (i + 1)).filter φ = (xs.take i).filter φ ++ (if φ n = true then [n] else []) := by
  rw [take_snoc h, List.filter_append]
  congr 1
  cases e : φ n <;> simp [e]
/-- [row for row in A if ..], A a list of rows, the test one that makes nothing -/
theorem lc_rows {K : PySem.W.Frag} {a : Addr} {xs : List V} {rows : List (Int × Int)} {j : Nat} {σ : L2.St} {H : Hp} {D : Addr} {tt : TT} {φ : Int × Int → Bool} {Qd : Hp → Prop} (hw : ∀ x : V, wipe ((wipe σ [j]).set j (some x)) [j] = wipe σ [j] ∧ ((wipe σ [j]).set j (some x))[j]? = some (some x))
    (htt : ∀ (p : Addr) (r : Int × Int) (H' : Hp) (Q : Bool → Hp → Prop), Same H H' → SqT K H' p [.int r.1, .int r.2] → Q (φ r) H' → tt ((wipe σ [j]).set j (some (.ref p))) H' Q) (ha : H a = some (.lst xs)) (hr : DpAll K (tupH H) xs (rows.map rowD)) (hl : rows.length ≤ 100000) (nD : H D = none)
    (hd : ∀ H' ys, Same H H' → H' D = some (.lst ys) → DpAll K (tupH H') ys ((rows.filter φ).map rowD) → Qd H') :
    ∃ W : Nat → Nat → Hp → Prop, (∃ m, W 0 m (upd H D (.lst []))) ∧ ∀ i m H, W i m H →
      ((Itl K a).stop i H ∧ Qd H) ∨ ((Itl K a).go i H ∧ ∃ Nx : Hp → Prop, (∀ H', Nx H' → ∃ m', m' < m ∧ W (i + 1) m' H') ∧ ∀ x H', (Itl K a).yld i H x H' → (gName j) x (wipe σ [j]) H' fun σ2 H2 => wipe σ2 [j] = wipe σ [j] ∧ tt σ2 H2 fun b H3 =>
        if b = true then (tVar j) σ2 H3 fun y H4 => ∃ acc, H4 D = some (.lst acc) ∧ acc.length < sizeLine ∧ Nx (upd H4 D (.lst (acc ++ [y]))) else Nx H3) := by
  have hxl : xs.length = rows.length := by have := dpAll_len hr; rwa [List.length_map] at this
  refine lc_list (K := K) (a := a) (xs := xs) (fun i H' => Same H H' ∧ ∃ ys, H' D = some (.lst ys) ∧ DpAll K (tupH H') ys (((rows.take i).filter φ).map rowD)) ⟨same_new nD _, [], upd_same, .nil⟩ (fun i H' _ ⟨s1, _⟩ => SqL.of (s1 _ _ ha)) ?_ ?_
  · rintro i v H1 hv ⟨s1, ys, e1, hys⟩
    obtain ⟨d, hdn, hdp⟩ := dpAll_get hr hv
    rw [List.getElem?_map] at hdn
    cases er : rows[i]? with
    | none => rw [er] at hdn; cases hdn
    | some r =>
      rw [er] at hdn
      have ed : rowD r = d := by injection hdn
      subst ed
      have hdp1 := dp_mono (KeepT.of s1).same _ _ hdp
      obtain ⟨p, rfl, hp⟩ := row_inv (dp_mono (tupH_same H1) _ _ hdp1)
      have hi : i < rows.length := (List.getElem?_eq_some_iff.mp er).1
      refine ⟨(hw _).1, htt p r H1 _ s1 hp ?_⟩
      cases e : φ r with
      | true =>
        rw [if_pos rfl]
        have k1 : KeepT H1 (upd H1 D (.lst (ys ++ [.ref p]))) := KeepT.upd ⟨_, e1⟩
        refine ⟨_, (hw _).2, _, e1, ?_, same_upd s1 nD _, ys ++ [.ref p], upd_same, ?_⟩
        · have h1 := dpAll_len hys
          have h2 := List.length_filter_le φ (rows.take i)
          rw [List.length_take] at h2
          rw [h1, List.length_map]
          exact Nat.lt_of_le_of_lt (by omega : _ ≤ 100000) (by decide)
        · rw [filt_snocR er, e, if_pos rfl, List.map_append]
          exact dpAll_append (dpAll_mono k1.same _ _ hys) (.cons (dp_mono k1.same _ _ hdp1) .nil)
      | false =>
        rw [if_neg (by decide)]
        refine ⟨s1, ys, e1, ?_⟩
        rw [filt_snocR er, e, if_neg (by decide), List.append_nil]
        exact hys
  · rintro H1 ⟨s1, ys, e1, hys⟩
    rw [hxl, List.take_length] at hys
    exact hd _ ys s1 e1 hys
/-! ### rows, each a tuple of its own -/
inductive RowsAt (H : Hp) : List V → List (Int × Int) → Prop
  | nil : RowsAt H [] []
  | cons {p : Addr} {r : Int × Int} {xs : List V} {rows : List (Int × Int)} : H p = some (.tup [.int r.1, .int r.2]) → RowsAt H xs rows → RowsAt H (.ref p :: xs) (r :: rows)
theorem RowsAt.len {H : Hp} : ∀ {xs : List V} {rows : List (Int × Int)}, RowsAt H xs rows → xs.length = rows.length
  | _, _, .nil => rfl
  | _, _, .cons _ h => by rw [List.length_cons, List.length_cons, h.len]
theorem RowsAt.keepA {H H' : Hp} (k : ∀ a ys, H a = some (.tup ys) → H' a = some (.tup ys)) : ∀ {xs : List V} {rows : List (Int × Int)}, RowsAt H xs rows → RowsAt H' xs rows
  | _, _, .nil => .nil
  | _, _, .cons e h => .cons (k _ _ e) (h.keepA k)
theorem RowsAt.keep {H H' : Hp} (k : KeepT H H') {xs : List V} {rows : List (Int × Int)} (h : RowsAt H xs rows) : RowsAt H' xs rows := h.keepA k.1
theorem RowsAt.app {H : Hp} : ∀ {xs ys : List V} {rows ros : List (Int × Int)}, RowsAt H xs rows → RowsAt H ys ros → RowsAt H (xs ++ ys) (rows ++ ros)
  | _, _, _, _, .nil, h => h
  | _, _, _, _, .cons e h, g => .cons e (h.app g)
theorem RowsAt.one {H : Hp} {p : Addr} {r : Int × Int} (e : H p = some (.tup [.int r.1, .int r.2])) : RowsAt H [.ref p] [r] := .cons e .nil
theorem RowsAt.get {H : Hp} : ∀ {xs : List V} {rows : List (Int × Int)} {i : Nat} {v : V}, RowsAt H xs rows → xs[i]? = some v → ∃ p r, v = .ref p ∧ rows[i]? = some r ∧ H p = some (.tup [.int r.1, .int r.2])
  | _, _, _, _, .nil, h => nomatch h
  | _, _, 0, _, .cons e _, h => by
    have ev := Option.some.inj h
    subst ev
    exact ⟨_, _, rfl, rfl, e⟩
  | _, _, i + 1, _, .cons _ g, h => g.get (i := i) h
theorem RowsAt.mem {H : Hp} {xs : List V} {rows : List (Int × Int)} (h : RowsAt H xs rows) {v : V} (m : v ∈ xs) : ∃ p r, v = .ref p ∧ r ∈ rows ∧ H p = some (.tup [.int r.1, .int r.2]) := by
  obtain ⟨i, hi⟩ := List.getElem?_of_mem m
  obtain ⟨p, r, rfl, hr, e⟩ := h.get hi
  exact ⟨p, r, rfl, List.mem_of_getElem? hr, e⟩
theorem RowsAt.dp {K : PySem.W.Frag} {H : Hp} : ∀ {xs : List V} {rows : List (Int × Int)}, RowsAt H xs rows → DpAll K (tupH H) xs (rows.map rowD)
  | _, _, .nil => .nil
  | _, _, .cons (p := p) (r := r) e h => .cons (.tup (SqT.of (show tupH H p = some (.tup [.int r.1, .int r.2]) by unfold tupH; rw [e])) (.cons (.int r.1) (.cons (.int r.2) .nil))) h.dp
/-- [row for row in A if ..], A a list or a tuple of rows, the test one that makes nothing -/
theorem lc_rowsW {J : It} {G : Hp → Prop} {xs : List V} {rows : List (Int × Int)} {j : Nat} {σ : L2.St} {H : Hp} {D : Addr} {tt : TT} {φ : Int × Int → Bool} {Qd : Hp → Prop} (wk : L2.Walk J xs.length G (YAt xs)) (hG : ∀ H', Same H H' → G H') (hw : ∀ x : V, wipe ((wipe σ [j]).set j (some x)) [j] = wipe σ [j] ∧ ((wipe σ [j]).set j (some x))[j]? = some (some x))
    (htt : ∀ (p : Addr) (r : Int × Int) (H' : Hp) (Q : Bool → Hp → Prop), Same H H' → H' p = some (.tup [.int r.1, .int r.2]) → Q (φ r) H' → tt ((wipe σ [j]).set j (some (.ref p))) H' Q) (hr : RowsAt H xs rows) (hl : rows.length ≤ 100000) (nD : H D = none)
    (hd : ∀ H' ys, Same H H' → H' D = some (.lst ys) → RowsAt H' ys (rows.filter φ) → Qd H') :
    ∃ W : Nat → Nat → Hp → Prop, (∃ m, W 0 m (upd H D (.lst []))) ∧ ∀ i m H, W i m H →
      (J.stop i H ∧ Qd H) ∨ (J.go i H ∧ ∃ Nx : Hp → Prop, (∀ H', Nx H' → ∃ m', m' < m ∧ W (i + 1) m' H') ∧ ∀ x H', J.yld i H x H' → (gName j) x (wipe σ [j]) H' fun σ2 H2 => wipe σ2 [j] = wipe σ [j] ∧ tt σ2 H2 fun b H3 =>
        if b = true then (tVar j) σ2 H3 fun y H4 => ∃ acc, H4 D = some (.lst acc) ∧ acc.length < sizeLine ∧ Nx (upd H4 D (.lst (acc ++ [y]))) else Nx H3) := by
  have hxl := hr.len
  refine lc_it wk (fun i H' => Same H H' ∧ ∃ ys, H' D = some (.lst ys) ∧ RowsAt H' ys ((rows.take i).filter φ)) ⟨same_new nD _, [], upd_same, .nil⟩ (fun i H' _ ⟨s1, _⟩ => hG _ s1) ?_ ?_
  · rintro i v H1 H1' hi ⟨s1, ys, e1, hys⟩ ⟨rfl, hv⟩
    obtain ⟨p, r, rfl, er, ep⟩ := hr.get hv
    have hi : i < rows.length := (List.getElem?_eq_some_iff.mp er).1
    refine ⟨(hw _).1, htt p r H1' _ s1 (s1 _ _ ep) ?_⟩
    cases e : φ r with
    | true =>
      rw [if_pos rfl]
      have k1 : KeepT H1' (upd H1' D (.lst (ys ++ [.ref p]))) := KeepT.upd ⟨_, e1⟩
      refine ⟨_, (hw _).2, _, e1, ?_, same_upd s1 nD _, ys ++ [.ref p], upd_same, ?_⟩
      · have h1 := hys.len
        have h2 := List.length_filter_le φ (rows.take i)
        rw [List.length_take] at h2
        rw [h1]
        exact Nat.lt_of_le_of_lt (by omega : _ ≤ 100000) (by decide)
      · rw [filt_snocR er, e, if_pos rfl]
        exact (hys.keep k1).app (.one (k1.1 _ _ (s1 _ _ ep)))
    | false =>
      rw [if_neg (by decide)]
      refine ⟨s1, ys, e1, ?_⟩
      rw [filt_snocR er, e, if_neg (by decide), List.append_nil]
      exact hys
  · rintro H1 ⟨s1, ys, e1, hys⟩
    rw [hxl, List.take_length] at hys
    exact hd _ ys s1 e1 hys
theorem prog_bodyC {k : Str} {d : PyData} (h : isProg (.tuple [.str k, d]) = true) : ∃ c, bodyN k 4 d = some c ∧ c ≤ 24 := by
  have h' : (inS (.str k) kinds && okN 0 (bodyN k 4 d)) = true := h
  rw [Bool.and_eq_true] at h'
  cases e : bodyN k 4 d with
  | none => rw [e] at h'; cases h'.2
  | some c =>
    rw [e] at h'
    have hc : 0 + c ≤ 24 := of_decide_eq_true h'.2
    exact ⟨c, rfl, by omega⟩
theorem dpAll_atC {K : PySem.W.Frag} {H : Hp} {xs : List V} {code : List Ins} (h : DpAll K H xs (code.map Ins.toD)) (pc : Nat) : (code[pc]? = none ∧ xs[pc]? = none) ∨ ∃ i v, code[pc]? = some i ∧ xs[pc]? = some v ∧ Dp K H v i.toD := by
  have hl := dpAll_len h
  rw [List.length_map] at hl
  by_cases c : pc < code.length
  · have e : xs[pc]? = some xs[pc] := List.getElem?_eq_getElem (by omega)
    obtain ⟨d, hd, hx⟩ := dpAll_get h e
    rw [List.getElem?_map] at hd
    have e2 : code[pc]? = some code[pc] := List.getElem?_eq_getElem c
    rw [e2] at hd
    have ed : code[pc].toD = d := by injection hd
    subst ed
    exact .inr ⟨code[pc], _, e2, e, hx⟩
  · exact .inl ⟨List.getElem?_eq_none (by omega), List.getElem?_eq_none (by omega)⟩
theorem imp_of {P Q : Prop} (f : P → Q) (p : P) : Q := f p
/-! ### the law's own listing -/
abbrev nsLL : List Str := ["_law_program_here", "_law_code_here", "_law_state", "_law_steps_here", "_law_counter", "_law_seen", "_law_listed", "_law_step", "_law_old", "_law_head", "_law_pair"]
/-- the four parts of a list as a tuple -/
def TupL (K : PySem.W.Frag) (H : Hp) (t : Addr) (L : LP) : Prop := ∃ (h c : Addr) (xs ys : List V), H t = some (.tup [.ref h, .ref c, .int (lpPer L), .int (lpShift L)]) ∧ H h = some (.lst xs) ∧ H c = some (.lst ys) ∧ DpAll K (tupH H) xs ((lpHead L).map rowD) ∧ DpAll K (tupH H) ys ((lpCycle L).map rowD)
def TupLR (K : PySem.W.Frag) (H : Hp) (t : Addr) (L : LP) : Prop := ∃ (h c : Addr) (xs ys : List V), H t = some (.tup [.ref h, .ref c, .int (lpPer L), .int (lpShift L)]) ∧ H h = some (.lst xs) ∧ H c = some (.lst ys) ∧ RowsAt H xs (lpHead L) ∧ RowsAt H ys (lpCycle L)
theorem TupLR.a {K : PySem.W.Frag} {H : Hp} {t : Addr} {L : LP} (h : TupLR K H t L) : TupL K H t L := by
  obtain ⟨hd, cy, xs, ys, h1, h2, h3, h4, h5⟩ := h
  exact ⟨hd, cy, xs, ys, h1, h2, h3, h4.dp, h5.dp⟩
def spLL (K : PySem.W.Frag) : Sp := fun vs H Q _ => ∃ (v : V) (d : PyData) (code : List Ins), vs = [v] ∧ Dp K H v (.tuple [.str "collector", d]) ∧ Lay (.tuple [.str "collector", d]) ∧ noL d = true ∧ isProg (.tuple [.str "collector", d]) = true ∧ bodyC 4 0 d = code.map Ins.toD ∧ (∀ i ∈ code, i.ok "collector") ∧ (∀ i ∈ code, i.tgt ≤ code.length) ∧
  ∀ H' t, Same H H' → H t = none → TupLR K H' t (runL code) → Q (.ref t) H'
structure LawL (K : PySem.W.Frag) (H0 H : Hp) (st sn li : Addr) (code : List Ins) (R : LP) (m : Nat) (s : S3) (t ct : Int) (seen : List (S3 × (Int × Int))) (rows : List (Int × Int)) : Prop where
  sm : Same H0 H
  ns : H0 sn = none
  nl : H0 li = none
  st : H st = some (.tup ((keyOf s).map kV))
  se : ∃ kvs, H sn = some (.dT kvs) ∧ SeenL H kvs seen
  ro : ∃ xs, H li = some (.lst xs) ∧ RowsAt H xs rows
  nd : (seen.map (·.1)).Nodup
  ok : ∀ e ∈ seen, okS3 code e.1
  i16 : in16 s.a s.b
  rl : rows.length ≤ seen.length
  eq : loopL code m s t ct seen rows = R
  fu : m + seen.length = fuel code
  le : s.pc ≤ code.length
def tupLst : HO → Prop
  | .tup _ => True
  | .lst _ => True
  | .frz _ _ => True
  | _ => False
theorem imp_ofI {P G : Int → Prop} {Q : Prop} (f : (∀ z, G z → P z) → Q) (p : ∀ z, G z → P z) : Q := f p
theorem imp_ofH {P G : Hp → Prop} {Q : Prop} (f : (∀ H, G H → P H) → Q) (p : ∀ H, G H → P H) : Q := f p
section
variable {P : Program} {w : World} {K : PySem.W.Frag} {mg : Str → Option Value} {base : Heap}
end
/-! ### the program's list_parts -/
abbrev sLPt : Stmt := top 51
abbrev nsLPt : List Str := ["code", "walk", "rows", "before", "instruction", "first", "counter", "head", "cycle", "row"]
theorem madeC_same {H H' : Hp} {x dx C : Addr} (nx : H x = none) (ndx : H dx = none) (f : Fx [x] (upd (upd H dx (.own x)) x (.ins C dx [])) H') : Same H H' := fun p o e => by
  have h1 : p ≠ x := ne_of_none e nx
  refine f p o (by simp; exact h1) ?_
  rw [upd_ne h1, upd_ne (ne_of_none e ndx)]
  exact e
/-- .. whose lists are new, and two -/
def TupLN (K : PySem.W.Frag) (H0 H : Hp) (t : Addr) (L : LP) : Prop := ∃ (h c : Addr) (xs ys : List V), H t = some (.tup [.ref h, .ref c, .int (lpPer L), .int (lpShift L)]) ∧ H h = some (.lst xs) ∧ H c = some (.lst ys) ∧ RowsAt H xs (lpHead L) ∧ RowsAt H ys (lpCycle L) ∧ H0 h = none ∧ H0 c = none ∧ h ≠ c
def spLPt (K : PySem.W.Frag) : Sp := fun vs H Q _ => ∃ (cd : Addr) (xs : List V) (code : List Ins), vs = [.ref cd] ∧ SqL K H cd xs ∧ DpAll K H xs (code.map Ins.toD) ∧ (∀ i ∈ code, i.ok "collector") ∧ code.length ≤ 100 ∧
  ∀ H' t, Same H H' → H t = none → TupLN K H H' t (runL code) → Q (.ref t) H'
/-- the state of the loop: the state stands noted, or was met before -/
structure PrtI (K : PySem.W.Frag) (H0 H : Hp) (C wk dx cd hd sn li : Addr) (code : List Ins) (R : LP) (m : Nat) (s : S3) (t ct : Int) (seen : List (S3 × (Int × Int))) (rows : List (Int × Int)) (bf : V) : Prop where
  sm : Same H0 H
  nw : H0 wk = none
  nh : H0 hd = none
  ns : H0 sn = none
  nl : H0 li = none
  wa : WkA K H C wk dx cd hd sn s.pc s.a s.b ct t []
  ro : ∃ xs, H li = some (.lst xs) ∧ RowsAt H xs rows
  nd : (seen.map (·.1)).Nodup
  ok : ∀ e ∈ seen, okS3 code e.1
  i16 : in16 s.a s.b
  rl : rows.length ≤ seen.length
  eq : loopL code (m + 1) s t ct seen rows = R
  fu : m + 1 + seen.length = fuel code
  bf : (bf = .non ∧ lookL s seen = none ∧ ∃ kvs, H sn = some (.dT kvs) ∧ SeenL H kvs (seen ++ [(s, (t, ct))])) ∨ ∃ r f c, bf = .ref r ∧ lookL s seen = some (f, c) ∧ H r = some (.tup [.int f, .int c])
/-- ahead of a look at the state -/
structure PreI (K : PySem.W.Frag) (H0 H : Hp) (C wk dx cd hd sn li : Addr) (code : List Ins) (R : LP) (m : Nat) (s : S3) (t ct : Int) (seen : List (S3 × (Int × Int))) (rows : List (Int × Int)) (kvs : List (List Key × V)) : Prop where
  sm : Same H0 H
  nw : H0 wk = none
  nh : H0 hd = none
  ns : H0 sn = none
  nl : H0 li = none
  wa : WkA K H C wk dx cd hd sn s.pc s.a s.b ct t []
  ro : ∃ xs, H li = some (.lst xs) ∧ RowsAt H xs rows
  nd : (seen.map (·.1)).Nodup
  ok : ∀ e ∈ seen, okS3 code e.1
  i16 : in16 s.a s.b
  rl : rows.length ≤ seen.length
  eq : loopL code (m + 1) s t ct seen rows = R
  fu : m + 1 + seen.length = fuel code
  sn0 : H sn = some (.dT kvs)
  se : SeenL H kvs seen
section
variable {K : PySem.W.Frag} {H0 H H' : Hp} {C wk dx cd hd sn li : Addr} {code : List Ins} {R : LP} {m : Nat} {s : S3} {t ct : Int} {seen : List (S3 × (Int × Int))} {rows : List (Int × Int)} {kvs : List (List Key × V)} {r : Addr}
theorem PreI.met (L : PreI K H0 H C wk dx cd hd sn li code R m s t ct seen rows kvs) (hv : valV kvs (keyOf s) = some (.ref r)) (u : Same H H') : PrtI K H0 H' C wk dx cd hd sn li code R m s t ct seen rows (.ref r) := by
  obtain ⟨xs, e, d⟩ := L.ro
  refine ⟨L.sm.trans u, L.nw, L.nh, L.ns, L.nl, ⟨u _ _ L.wa.ob, u _ _ L.wa.hl⟩, ⟨xs, u _ _ e, d.keep (KeepT.of u)⟩, L.nd, L.ok, L.i16, L.rl, L.eq, L.fu, .inr ?_⟩
  rcases L.se.look s with ⟨h1, _⟩ | ⟨r', f, c, h1, h2, h3⟩
  · rw [h1] at hv; cases hv
  · rw [h1] at hv
    have e : r' = r := by injection hv with hv; injection hv
    subst e
    exact ⟨r', f, c, rfl, h2, u _ _ h3⟩
theorem PreI.new (L : PreI K H0 H C wk dx cd hd sn li code R m s t ct seen rows kvs) (hv : valV kvs (keyOf s) = none) (f : Fx [sn] H H') (e : H' sn = some (.dT (kvs ++ [(keyOf s, .ref r)]))) (er : H' r = some (.tup [.int t, .int ct])) : PrtI K H0 H' C wk dx cd hd sn li code R m s t ct seen rows .non := by
  obtain ⟨xs, el, d⟩ := L.ro
  have no : ∀ {q : Addr} {o : HO}, H q = some o → (∀ kv, o ≠ .dT kv) → H' q = some o := fun {q o} h n => f q o (fun mq => by
    rw [List.mem_singleton.mp mq, L.sn0] at h
    injection h with h
    exact n _ h.symm) h
  have k : KeepT H H' := ⟨fun x ys h => no h (fun _ z => nomatch z), fun x o u h => no h (fun _ z => nomatch z)⟩
  have hl0 : lookL s seen = none := by
    rcases L.se.look s with ⟨_, h2⟩ | ⟨r', f', c, h1, _, _⟩
    · exact h2
    · rw [h1] at hv; cases hv
  exact ⟨f.same L.sm (fun q mq => by rw [List.mem_singleton.mp mq]; exact L.ns), L.nw, L.nh, L.ns, L.nl, ⟨no L.wa.ob (fun _ z => nomatch z), no L.wa.hl (fun _ z => nomatch z)⟩, ⟨xs, no el (fun _ z => nomatch z), d.keep k⟩, L.nd, L.ok, L.i16, L.rl, L.eq, L.fu, .inl ⟨rfl, hl0, _, e, (L.se.keep k).snoc er⟩⟩
end
section
variable {P : Program} {w : World} {K : PySem.W.Frag} {mg : Str → Option Value} {base : Heap}
theorem scLPt : FnScope nsLPt ["code"] (defScope sLPt) := ⟨rfl, rfl, rfl, by decide +kernel, rfl, by decide +kernel, by decide +kernel⟩
theorem ok_LPt {f C fI : Addr} {fd dI : FuncData} (F : Fun K "list_parts" "list_parts" sLPt f fd) (T : WC K C) (gC : mg "Walk" = some (.ref C)) (M : Mk K C fI) (GI : FnOk P w K mg base CX0 1 fI dI ["self", "code"] (spWI K C)) (bI : Binds K dI ["self", "code"] [])
    (ME : MCal P w K mg base 1 C "earlier" ["self"] (spEar K C)) (MU : MCal P w K mg base 1 C "upcoming" ["self"] (spUp K C)) (MT : MCal P w K mg base 4 C "take" ["self", "instruction"] (spTake K C)) (MW : MCal P w K mg base 1 C "worth" ["self", "term"] (spWorth K C)) :
    FnOk P w K mg base CX0 5 f fd ["code"] (spLPt K) := by
  refine F.ok scLPt (fun vs H Q E h => ?_) (fun cdv A outer s H vs Q E hr h => ?_)
  · obtain ⟨cd, xs, code, rfl, _⟩ := h
    rfl
  obtain ⟨cd, xs, code, rfl, hcd, hxs, hok, hcl, q⟩ := h
  have hr1 : Room 1 _ := hr.mono (by decide)
  have hr2 : Room 2 _ := hr.mono (by decide)
  refine ⟨_, pss_cons (ps_set (i := 1) scLPt.nd rfl (.inl rfl) (pe_make M GI hr2 rfl gC bI .nil pass0 (pa_cons (pv 0) pa_nil)))
    (pss_cons (ps_set (i := 2) scLPt.nd rfl (.inl rfl) (pe_lst pa_nil))
    (pss_cons (ps_set (i := 3) scLPt.nd rfl (.inl rfl) (pe_meth0 (pv 1) T.cl ME.m ME.G hr1 ME.b .nil pass0))
    (pss_cons (ps_set (i := 4) scLPt.nd rfl (.inl rfl) (pe_meth0 (pv 1) T.cl MU.m MU.G hr1 MU.b .nil pass0))
    (pss_cons (ps_while PassesOwn.never (PW.pt (pw_and (pt_cmpR op_isN (pv 3) pe_non (nomark _)) (pw_and1 (pt_cmpR op_notN (pv 4) pe_non (nomark _)))))
      (pss_cons (ps_expr (pe_meth (pv 1) T.cl MT.m MT.G hr MT.b .nil pass0 (pa_cons (pv 4) pa_nil)))
      (pss_cons (ps_if (pt_cmpR op_eq (pe_ix ix_tup (pv 4) pe_int (fun _ _ => rfl)) pe_str (nomark _)) (pss_one (ps_expr (pe_bm PySem.F.plainAttrs_list PySem.F.slot_list_append PySem.F.type_list_append mt_append (pv 2) (pa_cons (pe_tup (pa_cons (pe_fld (pv 1) rfl) (pa_cons (pe_op op_add (pe_fld (pv 1) rfl) (pe_meth (pv 1) T.cl MW.m MW.G hr1 MW.b .nil pass0 (pa_cons (pe_ix ix_tup (pv 4) pe_int (fun _ _ => rfl)) pa_nil))) pa_nil))) pa_nil)))) pss_nil)
      (pss_cons (ps_set (i := 3) scLPt.nd rfl (.inl rfl) (pe_meth0 (pv 1) T.cl ME.m ME.G hr1 ME.b .nil pass0))
      (pss_one (ps_set (i := 4) scLPt.nd rfl (.inl rfl) (pe_meth0 (pv 1) T.cl MU.m MU.G hr1 MU.b .nil pass0)))))))
    (pss_cons (ps_if (pt_cmpR op_isN (pv 3) pe_non (nomark _)) (pss_one (ps_ret (pe_tup (pa_cons (pv 2) (pa_cons (pe_lst pa_nil) (pa_cons pe_int (pa_cons pe_int pa_nil))))))) pss_nil)
    (pss_cons (ps_asg (pv 3) (pg_tup (by rfl) (pgs_cons (pg_name (i := 5) scLPt.nd rfl (.inr rfl)) (pgs_cons (pg_name (i := 6) scLPt.nd rfl (.inl rfl)) pgs_nil))))
    (pss_cons (ps_setLc (i := 7) (own := [("row", 9)]) (g := gName 9) rfl scLPt.nd rfl rfl (sw_true rfl rfl rfl (by decide +kernel)) (pi_list (pv 2)) (blkOk_by (N := nsLPt) (sc := defScope sLPt) (by decide +kernel))
        (fun _ _ _ _ _ => pg_name (i := 9) scLPt.nd rfl (.inl rfl)) (fun _ _ _ _ _ => (pts_one (pt_cmpR op_le (pe_ix (r := rIxT K) ix_tup (pv 9) pe_int (fun _ _ => rfl)) (pv 5) (nomark _)))) (fun _ _ _ _ _ => pv 9))
    (pss_cons (ps_setLc (i := 8) (own := [("row", 9)]) (g := gName 9) rfl scLPt.nd rfl rfl (sw_true rfl rfl rfl (by decide +kernel)) (pi_list (pv 2)) (blkOk_by (N := nsLPt) (sc := defScope sLPt) (by decide +kernel))
        (fun _ _ _ _ _ => pg_name (i := 9) scLPt.nd rfl (.inl rfl)) (fun _ _ _ _ _ => (pts_one (pt_cmpR op_gt (pe_ix (r := rIxT K) ix_tup (pv 9) pe_int (fun _ _ => rfl)) (pv 5) (nomark _)))) (fun _ _ _ _ _ => pv 9))
    (pss_one (ps_ret (pe_tup (pa_cons (pv 7) (pa_cons (pv 8) (pa_cons (pe_op op_sub (pe_fld (pv 1) rfl) (pv 5)) (pa_cons (pe_op op_sub (pe_fld (pv 1) rfl) (pv 6)) pa_nil))))))))))))))), ?_⟩
  have noM0 : noM [] := ⟨rfl, rfl, rfl, rfl, rfl, rfl, by decide⟩
  refine ⟨_, rfl, fun wk dx nw ndx nxd => ?_⟩
  refine ⟨wk, dx, cd, rfl, upd_same, fun H1 hd sn f1 nhd nsn nhs wa1 e1 => ⟨rfl, ?_⟩⟩
  have s1 : Same H H1 := madeC_same nw ndx f1
  have fr : ∀ p, (upd (upd H dx (.own wk)) wk (.ins C dx [])) p = none → H p = none := fun p e => by
    cases z : H p with
    | none => rfl
    | some o =>
      have h1 : p ≠ wk := ne_of_none z nw
      rw [upd_ne h1, upd_ne (ne_of_none z ndx)] at e
      rw [z] at e
      cases e
  refine ⟨(by show 0 ≤ sizeLine; decide), fun li nli => ?_⟩
  have u2 := same_new nli (.lst [])
  have eli2 : (upd H1 li (.lst [])) li = some (.lst []) := upd_same
  generalize upd H1 li (.lst []) = H2 at u2 eli2 ⊢
  have wa2 : WkA K H2 C wk dx cd hd sn 0 0 0 0 0 [] := ⟨u2 _ _ wa1.ob, u2 _ _ wa1.hl⟩
  have nHli : H li = none := s1.free nli
  have xl : xs.length = code.length := by
    have := dpAll_len hxs
    rwa [List.length_map] at this
  have P0 : PreI K H H2 C wk dx cd hd sn li code (runL code) (code.length * 256) ⟨0, 0, 0⟩ 0 0 [] [] [] := ⟨s1.trans u2, nw, fr hd nhd, fr sn nsn, nHli, wa2, ⟨[], eli2, .nil⟩, List.nodup_nil, (fun e m => nomatch m), ⟨⟨by decide, by decide⟩, by decide, by decide⟩, Nat.le_refl _, rfl, rfl, u2 _ _ e1, .nil⟩
  -- what follows a look at the state
  have Inv0 : ∀ (H3 : Hp) (bf : V) (s' : S3) (m : Nat) (t ct : Int) (seen : List (S3 × (Int × Int))) (rows : List (Int × Int)), PrtI K H H3 C wk dx cd hd sn li code (runL code) m s' t ct seen rows bf → SqL K H3 cd xs := fun H3 bf s' m t ct seen rows L => L.sm.seq hcd
  refine ⟨_, rfl, wk, dx, _, rfl, wa2.ob, rfl, wk, dx, cd, hd, sn, 0, 0, 0, 0, 0, [], [], rfl, wa2, u2 _ _ e1, by decide, (fun p m => nomatch m), fun r hv H3 s3 => ?_, fun hv H3 r f3 e3 nr er => ?_⟩
  · cases hv
  have L3 := P0.new hv f3 e3 er
  refine ⟨_, rfl, wk, dx, _, rfl, L3.wa.ob, rfl, wk, dx, cd, hd, sn, 0, 0, 0, 0, 0, [], xs, rfl, L3.wa, Inv0 _ _ _ _ _ _ _ _ L3, ?_⟩
  refine seq_while ?_
  refine while_m (fun k σ H' => ∃ (s' : S3) (t ct : Int) (seen : List (S3 × (Int × Int))) (rows : List (Int × Int)) (bf : V), σ = [some (.ref cd), some (.ref wk), some (.ref li), some bf, some (itemV xs[s'.pc]?), none, none, none, none, none] ∧ PrtI K H H' C wk dx cd hd sn li code (runL code) k s' t ct seen rows bf) (m0 := code.length * 256)
    ⟨⟨0, 0, 0⟩, 0, 0, [], [], .non, rfl, L3⟩ ?step ?mono
  case mono =>
    rintro σ H' Q1 Q2 h ⟨v1, e1, e2, b1, e3, r⟩
    refine ⟨v1, e1, e2, b1, e3, ?_⟩
    by_cases c : b1 = true
    · dsimp only at r ⊢
      rw [if_pos c] at r ⊢
      obtain ⟨v2, e4, e5, b2, e6, r⟩ := r
      exact ⟨v2, e4, e5, b2, e6, h _ _ r⟩
    · dsimp only at r ⊢
      rw [if_neg c] at r ⊢
      exact h _ _ r
  case step =>
    rintro k σ H' ⟨s', t, ct, seen, rows, bf, rfl, L⟩
    have hEq := L.eq
    rw [loopL_eq] at hEq
    have few := few_states L.nd (fun s0 m0 => by obtain ⟨e, me, rfl⟩ := List.mem_map.mp m0; exact L.ok e me)
    rw [List.length_map] at few
    obtain ⟨rs, eli, hrs⟩ := L.ro
    have hrl : rows.length ≤ 100000 := by have := L.rl; omega
    refine ⟨_, rfl, rfl, _, rfl, ?_⟩
    rcases L.bf with ⟨rfl, hl0, kvs, hsn, hse⟩ | ⟨r0, f0, c0, rfl, hl0, er0⟩
    · rw [hl0] at hEq
      refine ite2 (fun _ => ?_) (fun c => absurd (decide_eq_true rfl) c)
      refine ⟨_, rfl, rfl, _, rfl, ?_⟩
      rcases dpAll_atC hxs s'.pc with ⟨ec, ex⟩ | ⟨i, v, ec, ex, hdv⟩
      · rw [ec] at hEq
        rw [ex]
        refine ite2 (fun c => absurd c (by rw [show itemV none = V.non from rfl, decide_eq_true rfl]; decide)) (fun _ => ?_)
        refine ⟨_, rfl, rfl, _, rfl, ite2 (fun _ => ?_) (fun c => absurd (decide_eq_true rfl) c)⟩
        refine ⟨_, rfl, (by show 0 ≤ sizeLine; decide), fun lc nlc => ⟨(by show 4 ≤ sizeLine; decide), fun tt ntt => ?_⟩⟩
        have u5 := same_new nlc (.lst [])
        have e5 : (upd H' lc (.lst [])) lc = some (.lst []) := upd_same
        generalize upd H' lc (.lst []) = H5 at u5 e5 ntt ⊢
        have u6 := same_new ntt (.tup [.ref li, .ref lc, .int 0, .int 0])
        refine q _ tt (L.sm.trans (u5.trans u6)) ((L.sm.trans u5).free ntt) ?_
        rw [← hEq]
        exact ⟨li, lc, rs, [], upd_same, u6 _ _ (u5 _ _ eli), u6 _ _ e5, hrs.keep (KeepT.of (u5.trans u6)), .nil, L.nl, L.sm.free nlc, ne_of_none eli nlc⟩
      · rw [ec] at hEq
        dsimp only at hEq
        rw [ex]
        have hi := hok i (List.mem_of_getElem? ec)
        have hlt : s'.pc < code.length := (List.getElem?_eq_some_iff.mp ec).1
        obtain ⟨p, xr, rfl, hsp, hap⟩ := ins_inv hdv
        refine ite2 (fun _ => ?_) (fun c => absurd (by rw [show itemV (some (V.ref p)) = V.ref p from rfl, decide_eq_false (fun z => nomatch z)]; rfl) c)
        -- the step is taken
        refine ⟨_, rfl, wk, dx, _, rfl, L.wa.ob, rfl, _, rfl, wk, dx, cd, hd, sn, s'.pc, s'.a, s'.b, ct, t, [], .ref p, i, "collector", rfl, L.wa, noM0, dp_mono L.sm _ _ hdv, hi, fun H4 f4 w4 => ?_⟩
        have no4 : ∀ {q : Addr} {o : HO}, H' q = some o → (∀ c d f, o ≠ .ins c d f) → (∀ kv, o ≠ .dK kv) → H4 q = some o := fun {q o} h n1 n2 => f4 q o (fun mq => by
          simp only [List.mem_cons, List.not_mem_nil, or_false] at mq
          rcases mq with e | e
          · rw [e, L.wa.ob] at h
            injection h with h
            exact n1 _ _ _ h.symm
          · rw [e, L.wa.hl] at h
            injection h with h
            exact n2 _ h.symm) h
        have sm4 : Same H H4 := f4.same L.sm (fun q mq => by
          simp only [List.mem_cons, List.not_mem_nil, or_false] at mq
          rcases mq with rfl | rfl
          · exact L.nw
          · exact L.nh)
        have k4 : KeepT H' H4 := ⟨fun x ys h => no4 h (fun _ _ _ z => nomatch z) (fun _ z => nomatch z), fun x o u h => no4 h (fun _ _ _ z => nomatch z) (fun _ z => nomatch z)⟩
        have eli4 := no4 eli (fun _ _ _ z => nomatch z) (fun _ z => nomatch z)
        have esn4 := no4 hsn (fun _ _ _ z => nomatch z) (fun _ z => nomatch z)
        have hrs4 := hrs.keep k4
        have hse4 := hse.keep k4
        have hsp4 := Same.tup sm4 hsp
        refine ⟨_, rfl, p, _, _, _, rfl, rfl, hsp4, atI_nat (j := 0) rfl, rfl, _, rfl, ?_⟩
        have hcase3 : (i.word = "list" ∧ ∃ x d, xr = [x] ∧ Dp K H x d ∧ isTerm d = true ∧ rowsOf t ct s' i = [(t + i.cost, ct + i.grown s'.a s'.b + tval (i.held s'.a s'.b).1 (i.held s'.a s'.b).2 d)]) ∨ (¬ i.word = "list" ∧ rowsOf t ct s' i = []) := by
          cases i with
          | lst d =>
            obtain ⟨y, rfl, hy⟩ := dp_solo hap
            refine .inl ⟨rfl, y, d, rfl, hy, hi.2, ?_⟩
            show [(t + 1, ct + tval s'.a s'.b d)] = [(t + 1, ct + 0 + tval s'.a s'.b d)]
            rw [Int.add_zero]
          | _ => exact .inr ⟨by simp only [Ins.word]; decide +kernel, rfl⟩
        refine imp_ofH (P := ?P3) (G := fun Hx => Fx [li] H4 Hx ∧ ∃ rs', Hx li = some (.lst rs') ∧ RowsAt Hx rs' (rows ++ rowsOf t ct s' i)) ?f3 ?r3
        case f3 =>
          intro rr
          rcases hcase3 with ⟨hw, x, dd, hx, hdx, htx, hn⟩ | ⟨hw, hn⟩
          · refine ite2 (fun _ => ?_) (fun c => absurd (decide_eq_true (by rw [hw])) c)
            refine ⟨_, rfl, .inl ⟨rfl, _, SqL.of eli4⟩, _, rfl, wk, C, dx, _, _, rfl, w4.ob, T.cl, T.nTak, rfl, _, rfl, wk, C, dx, _, _, rfl, w4.ob, T.cl, T.nCnt, rfl, _, rfl, wk, dx, _, rfl, w4.ob, rfl, _, rfl, p, _, _, x, rfl, rfl, hsp4, atI_nat (j := 1) (by rw [hx]; rfl), wk, dx, cd, hd, sn, _, _, _, _, _, [], x, dd, rfl, w4, dp_mono sm4 _ _ hdx, htx, _, _, rfl, rfl, (by show 2 ≤ sizeLine; decide), fun rp nrp => ?_⟩
            have er7 : (upd H4 rp (.tup [.int (t + i.cost), .int (ct + i.grown s'.a s'.b + tval (i.held s'.a s'.b).1 (i.held s'.a s'.b).2 dd)])) rp = some (.tup [.int (t + i.cost), .int (ct + i.grown s'.a s'.b + tval (i.held s'.a s'.b).1 (i.held s'.a s'.b).2 dd)]) := upd_same
            have u7 := same_new nrp (.tup [.int (t + i.cost), .int (ct + i.grown s'.a s'.b + tval (i.held s'.a s'.b).1 (i.held s'.a s'.b).2 dd)])
            generalize upd H4 rp (.tup [.int (t + i.cost), .int (ct + i.grown s'.a s'.b + tval (i.held s'.a s'.b).1 (i.held s'.a s'.b).2 dd)]) = H7 at er7 u7 ⊢
            have eli7 := u7 _ _ eli4
            have hrl' := hrs.len
            refine ⟨li, _, _, rfl, rfl, eli7, ?_, ?_⟩
            · rw [hrl']; exact Nat.lt_of_le_of_lt hrl (by decide)
            have k8 : KeepT H7 (upd H7 li (.lst (rs ++ [.ref rp]))) := KeepT.upd ⟨_, eli7⟩
            have hG : Fx [li] H4 (upd H7 li (.lst (rs ++ [.ref rp]))) ∧ ∃ rs', (upd H7 li (.lst (rs ++ [.ref rp]))) li = some (.lst rs') ∧ RowsAt (upd H7 li (.lst (rs ++ [.ref rp]))) rs' (rows ++ rowsOf t ct s' i) := by
              refine ⟨(Fx.of u7).trans (Fx.upd (by simp)), rs ++ [.ref rp], upd_same, ?_⟩
              rw [hn]
              exact (hrs4.keep ((KeepT.of u7).trans k8)).app (.one (k8.1 _ _ er7))
            generalize upd H7 li (.lst (rs ++ [.ref rp])) = H8 at hG ⊢
            exact rr H8 hG
          · refine strF hw ?_
            exact rr H4 ⟨fun q o _ e => e, rs, eli4, by rw [hn, List.append_nil]; exact hrs4⟩
        case r3 =>
        rintro H8 ⟨fx8, rs8, eli8, dp8⟩
        have no8 : ∀ {q : Addr} {o : HO}, H4 q = some o → (∀ l, o ≠ .lst l) → H8 q = some o := fun {q o} h n => fx8 q o (fun mq => by
          rw [List.mem_singleton.mp mq, eli4] at h
          injection h with h
          exact n _ h.symm) h
        have k8 : KeepT H4 H8 := ⟨fun x ys h => no8 h (fun _ z => nomatch z), fun x o u h => no8 h (fun _ z => nomatch z)⟩
        have nd2 : ((seen ++ [(s', (t, ct))]).map (·.1)).Nodup := by
          rw [List.map_append, List.nodup_append]
          refine ⟨L.nd, List.nodup_cons.mpr ⟨(fun z => nomatch z), List.nodup_nil⟩, fun a1 h1 b1 h2 e => ?_⟩
          have e2 : b1 = s' := by simpa using h2
          rw [e, e2] at h1
          exact lookL_none hl0 h1
        have ok2' : ∀ e ∈ seen ++ [(s', (t, ct))], okS3 code e.1 := by
          intro e me
          rcases List.mem_append.mp me with me | me
          · exact L.ok e me
          · rw [List.mem_singleton.mp me]
            exact ⟨hlt, L.i16⟩
        have few2 := few_states nd2 (fun s0 m0 => by obtain ⟨e, me, rfl⟩ := List.mem_map.mp m0; exact ok2' e me)
        rw [List.length_map, List.length_append, List.length_singleton] at few2
        obtain ⟨k', rfl⟩ : ∃ k', k = k' + 1 := ⟨k - 1, by have := L.fu; unfold fuel at this; omega⟩
        have L8 : PreI K H H8 C wk dx cd hd sn li code (runL code) k' (nextL s' i) (t + i.cost) (ct + i.grown s'.a s'.b) (seen ++ [(s', (t, ct))]) (rows ++ rowsOf t ct s' i) kvs := by
          refine ⟨fx8.same sm4 (fun q m => by rw [List.mem_singleton.mp m]; exact L.nl), L.nw, L.nh, L.ns, L.nl, ⟨no8 w4.ob (fun _ z => nomatch z), no8 w4.hl (fun _ z => nomatch z)⟩, ⟨rs8, eli8, dp8⟩, nd2, ok2', held16 hi L.i16, ?_, hEq, ?_, no8 esn4 (fun _ z => nomatch z), hse4.keep k8⟩
          · have h1 : (rowsOf t ct s' i).length ≤ 1 := by cases i <;> first | exact Nat.le_refl 1 | exact Nat.zero_le 1
            have := L.rl
            rw [List.length_append, List.length_append]
            show _ ≤ seen.length + 1
            omega
          · have := L.fu
            rw [List.length_append]
            show k' + 1 + (seen.length + 1) = _
            omega
        have hlen8 := L8.se.len
        rw [List.length_append, List.length_singleton] at hlen8
        refine ⟨_, rfl, wk, dx, _, rfl, L8.wa.ob, rfl, wk, dx, cd, hd, sn, _, _, _, _, _, [], kvs, rfl, L8.wa, L8.sn0, by omega, L8.se.refs, fun r hv H9 u9 => ?_, fun hv H9 r f9 e9 nr er => ?_⟩
        · have L9 := L8.met hv u9
          exact ⟨_, rfl, wk, dx, _, rfl, L9.wa.ob, rfl, wk, dx, cd, hd, sn, _, _, _, _, _, [], xs, rfl, L9.wa, Inv0 _ _ _ _ _ _ _ _ L9, k', Nat.lt_succ_self _, nextL s' i, _, _, _, _, _, rfl, L9⟩
        · have L9 := L8.new hv f9 e9 er
          exact ⟨_, rfl, wk, dx, _, rfl, L9.wa.ob, rfl, wk, dx, cd, hd, sn, _, _, _, _, _, [], xs, rfl, L9.wa, Inv0 _ _ _ _ _ _ _ _ L9, k', Nat.lt_succ_self _, nextL s' i, _, _, _, _, _, rfl, L9⟩
    · rw [hl0] at hEq
      refine ite2 (fun c => absurd (of_decide_eq_true c) (fun z => nomatch z)) (fun _ => ?_)
      refine ⟨_, rfl, rfl, _, rfl, ite2 (fun c => absurd (of_decide_eq_true c) (fun z => nomatch z)) (fun _ => ?_)⟩
      refine ⟨_, rfl, r0, _, rfl, SqT.of er0, rfl, _, _, rfl, _, _, rfl, rfl, ?_⟩
      refine ⟨_, rfl, li, rfl, ⟨_, SqL.of eli⟩, fun D1 nD1 => lc_rowsW (walk_list (K := K) (a := li) (xs := rs)) (rows := rows) (φ := fun r => decide (r.1 ≤ f0)) (fun Hx sx => SqL.of (sx _ _ eli)) (fun _ => ⟨rfl, rfl⟩) (fun p r Hx Qx sx hp qx => ⟨_, rfl, p, _, _, _, rfl, rfl, SqT.of hp, atI_nat (j := 0) rfl, _, rfl, _, _, rfl, rfl, _, rfl, qx⟩) hrs hrl nD1 (fun H5 hs5 u5 e5 dp5 => ?_)⟩
      refine ⟨_, rfl, li, rfl, ⟨_, SqL.of (u5 _ _ eli)⟩, fun D2 nD2 => lc_rowsW (walk_list (K := K) (a := li) (xs := rs)) (rows := rows) (φ := fun r => decide (f0 < r.1)) (fun Hx sx => SqL.of (sx _ _ (u5 _ _ eli))) (fun _ => ⟨rfl, rfl⟩) (fun p r Hx Qx sx hp qx => ⟨_, rfl, p, _, _, _, rfl, rfl, SqT.of hp, atI_nat (j := 0) rfl, _, rfl, _, _, rfl, rfl, _, rfl, qx⟩) (hrs.keep (KeepT.of u5)) hrl nD2 (fun H6 ys6 u6 e6 dp6 => ?_)⟩
      have ob6 := u6 _ _ (u5 _ _ L.wa.ob)
      refine ⟨_, rfl, _, rfl, _, rfl, wk, C, dx, _, _, rfl, ob6, T.cl, T.nTak, rfl, _, rfl, _, _, rfl, rfl, _, rfl, wk, C, dx, _, _, rfl, ob6, T.cl, T.nCnt, rfl, _, rfl, _, _, rfl, rfl, (by show 4 ≤ sizeLine; decide), fun tt ntt => ?_⟩
      have u7 := same_new ntt (.tup [.ref D1, .ref D2, .int (t - f0), .int (ct - c0)])
      have u67 := u6.trans u7
      refine q _ tt (L.sm.trans (u5.trans u67)) ((L.sm.trans (u5.trans u6)).free ntt) ?_
      rw [← hEq]
      exact ⟨D1, D2, hs5, ys6, upd_same, u67 _ _ e5, u7 _ _ e6, dp5.keep (KeepT.of u67), dp6.keep (KeepT.of u7), L.sm.free nD1, (L.sm.trans u5).free nD2, ne_of_none e5 nD2⟩
end
/-! ### the first step of each integer -/
abbrev sFS : Stmt := top 52
def putF1 (acc : List (Int × Int)) (r : Int × Int) : List (Int × Int) := if acc.any (fun e => decide (e.1 = r.2)) = true then acc else acc ++ [(r.2, r.1)]
def firstS (rows : List (Int × Int)) : List (Int × Int) := rows.foldl putF1 []
theorem firstS_snoc (rows : List (Int × Int)) (r : Int × Int) : firstS (rows ++ [r]) = putF1 (firstS rows) r := by
  unfold firstS
  rw [List.foldl_append]
  rfl
def fsD (acc : List (Int × Int)) : List (Key × V) := acc.map fun e => (Sum.inl e.1, .int e.2)
theorem fsD_some (z : Int) : ∀ acc : List (Int × Int), (valV (fsD acc) (Sum.inl z : Key)).isSome = acc.any fun e => decide (e.1 = z)
  | [] => rfl
  | e :: r => by
    show (valV ((Sum.inl e.1, V.int e.2) :: fsD r) (Sum.inl z : Key)).isSome = _
    rw [List.any_cons]
    by_cases c : e.1 = z
    · rw [c, valV_pos rfl, decide_eq_true rfl]
      rfl
    · rw [valV_neg (fun h => c (by injection h)), fsD_some z r, decide_eq_false c, Bool.false_or]
theorem fsD_put {acc : List (Int × Int)} {z n : Int} (h : acc.any (fun e => decide (e.1 = z)) = false) : putK (fsD acc) (Sum.inl z : Key) (V.int n) = fsD (acc ++ [(z, n)]) := by
  have hn : valV (fsD acc) (Sum.inl z : Key) = none := by
    have := fsD_some z acc
    rw [h] at this
    cases e : valV (fsD acc) (Sum.inl z : Key) with
    | none => rfl
    | some v => rw [e] at this; cases this
  rw [putK_new _ hn]
  simp [fsD]
theorem firstS_len : ∀ rows : List (Int × Int), (firstS rows).length ≤ rows.length := by
  intro rows
  have h : ∀ (rs acc : List (Int × Int)), (rs.foldl putF1 acc).length ≤ acc.length + rs.length := by
    intro rs
    induction rs with
    | nil => intro acc; simp
    | cons r t ih =>
      intro acc
      have h1 := ih (putF1 acc r)
      have h2 : (putF1 acc r).length ≤ acc.length + 1 := by
        unfold putF1
        split
        · omega
        · rw [List.length_append]; exact Nat.le_refl _
      rw [List.foldl_cons, List.length_cons]
      omega
  have := h rows []
  simpa [firstS] using this
def spFS (K : PySem.W.Frag) : Sp := fun vs H Q _ => ∃ (l : Addr) (xs : List V) (rows : List (Int × Int)), vs = [.ref l] ∧ H l = some (.lst xs) ∧ DpAll K (tupH H) xs (rows.map rowD) ∧ rows.length ≤ 100000 ∧
  ∀ H' D, Same H H' → H D = none → H' D = some (.dK (fsD (firstS rows))) → Q (.ref D) H'
section
variable {P : Program} {w : World} {K : PySem.W.Frag} {mg : Str → Option Value} {base : Heap}
theorem scFS : FnScope ["rows", "steps", "step", "integer"] ["rows"] (defScope sFS) := ⟨rfl, rfl, rfl, by decide +kernel, rfl, by decide +kernel, by decide +kernel⟩
theorem ok_FS {f : Addr} {fd : FuncData} (F : Fun K "first_steps" "first_steps" sFS f fd) : FnOk P w K mg base CX0 1 f fd ["rows"] (spFS K) := by
  refine F.ok scFS (fun vs H Q E h => ?_) (fun cdv A outer s H vs Q E hr h => ?_)
  · obtain ⟨l, xs, rows, rfl, _⟩ := h
    rfl
  obtain ⟨l, xs, rows, rfl, hl, hxs, hlen, q⟩ := h
  have hu := hu_of hr
  refine ⟨_, pss_cons (ps_set (i := 1) scFS.nd rfl (.inl rfl) pe_dnewK)
    (pss_cons (ps_for PassesOwn.never rfl (pi_list (pv 0)) (pg_tup (by rfl) (pgs_cons (pg_name (i := 2) scFS.nd rfl (.inl rfl)) (pgs_cons (pg_name (i := 3) scFS.nd rfl (.inl rfl)) pgs_nil)))
      (pss_one (ps_if (pt_cmp (pc_dnotin hu (pv 3) (pv 1))) (pss_one (ps_dput hu (pv 1) (pv 3) (pv 2) rfl)) pss_nil)))
    (pss_one (ps_ret (pv 1)))), ?_⟩
  refine fun D nD => ?_
  have u1 := same_new nD (.dK [])
  have e1 : (upd H D (.dK [])) D = some (.dK (fsD (firstS (rows.take 0)))) := upd_same
  generalize upd H D (.dK []) = H1 at u1 e1 ⊢
  have hxl : xs.length = rows.length := by have := dpAll_len hxs; rwa [List.length_map] at this
  refine ⟨_, rfl, l, rfl, ⟨_, SqL.of (u1 _ _ hl)⟩, for_list (K := K) (a := l) (xs := xs) (fun i σ H' => ∃ (s2 s3 : Option V), σ = [some (.ref l), some (.ref D), s2, s3] ∧ Same H H' ∧ H' D = some (.dK (fsD (firstS (rows.take i))))) ⟨none, none, rfl, u1, e1⟩ (fun i σ H' _ ⟨_, _, _, sx, _⟩ => SqL.of (sx _ _ hl)) ?_ ?_⟩
  · rintro i v σ H2 hv ⟨s2, s3, rfl, u2, e2⟩
    obtain ⟨d, hdn, hdp⟩ := dpAll_get hxs hv
    rw [List.getElem?_map] at hdn
    cases er : rows[i]? with
    | none => rw [er] at hdn; cases hdn
    | some r =>
      rw [er] at hdn
      have ed : rowD r = d := by injection hdn
      subst ed
      obtain ⟨p, rfl, hp⟩ := row_inv (dp_mono (tupH_same H) _ _ hdp)
      have hi : i < rows.length := (List.getElem?_eq_some_iff.mp er).1
      refine ⟨p, _, rfl, Same.tup u2 hp, rfl, _, _, rfl, _, _, rfl, rfl, ?_⟩
      refine ⟨_, rfl, _, rfl, D, _, rfl, DGet.k (k := Sum.inl r.2) e2, _, rfl, ?_⟩
      rw [fsD_some]
      cases c : (firstS (rows.take i)).any (fun e => decide (e.1 = r.2)) with
      | true =>
        refine ite2 (fun c' => absurd c' (by decide)) (fun _ => ⟨_, _, rfl, u2, ?_⟩)
        rw [take_snoc er, firstS_snoc]
        unfold putF1
        rw [c, if_pos rfl]
        exact e2
      | false =>
        refine ite2 (fun _ => ?_) (fun c' => absurd rfl c')
        refine ⟨_, rfl, _, rfl, _, rfl, D, _, rfl, DPut.k (k := Sum.inl r.2) e2 ?_, _, _, rfl, same_upd u2 nD _, ?_⟩
        · have h1 := firstS_len (rows.take i)
          rw [List.length_take] at h1
          unfold fsD
          rw [List.length_map]
          exact Nat.lt_of_le_of_lt (by omega : _ ≤ 100000) (by decide)
        · rw [upd_same, take_snoc er, firstS_snoc, fsD_put c]
          unfold putF1
          rw [c, if_neg (by decide)]
  · rintro σ H2 ⟨s2, s3, rfl, u2, e2⟩
    rw [hxl, List.take_length] at e2
    exact ⟨_, rfl, q _ D u2 nD e2⟩
end
/-! ### the object of a listing -/
abbrev sLEq : Stmt := inClass (top 53) 1
abbrev sEnd : Stmt := inClass (top 53) 2
abbrev sFam : Stmt := inClass (top 53) 9
def lsF (hd cy : Addr) (per sh : Int) (kh kc hs cs fm : Addr) : List (Str × V) := [("head", .ref hd), ("cycle", .ref cy), ("period", .int per), ("shift", .int sh), ("kept_head", .ref kh), ("kept_cycle", .ref kc), ("head_steps", .ref hs), ("cycle_steps", .ref cs), ("families", .ref fm)]
/-- no attribute of the class hides a field -/
structure LNo (K : PySem.W.Frag) (C : Addr) : Prop where
  cl : Cls K C
  nHd : NoAttr K C "head"
  nCy : NoAttr K C "cycle"
  nPe : NoAttr K C "period"
  nSh : NoAttr K C "shift"
  nKh : NoAttr K C "kept_head"
  nKc : NoAttr K C "kept_cycle"
  nHs : NoAttr K C "head_steps"
  nCs : NoAttr K C "cycle_steps"
  nFm : NoAttr K C "families"
/-- what tells two listings apart, and what is_endless reads -/
structure LsA (K : PySem.W.Frag) (H : Hp) (C ls : Addr) (L : LP) : Prop where
  ex : ∃ (dx hd cy kh kc hs cs fm : Addr) (xs ys : List V), H ls = some (.ins C dx (lsF hd cy (lpPer L) (lpShift L) kh kc hs cs fm)) ∧ H hd = some (.lst xs) ∧ H cy = some (.lst ys) ∧ DpAll K (tupH H) xs ((lpHead L).map rowD) ∧ DpAll K (tupH H) ys ((lpCycle L).map rowD) ∧
    ∃ zs, SqT K H kc zs ∧ zs.length = (lpCycle L).length
def endL (L : LP) : Bool := decide (0 < (lpCycle L).length) && decide (0 < lpShift L)
def eqLP (L M : LP) : Bool := decide (lpHead L = lpHead M) && decide (lpCycle L = lpCycle M) && decide (lpPer L = lpPer M) && decide (lpShift L = lpShift M)
def famZ (sh n : Int) : Int := if 0 < sh then n % sh else n
def spFam (K : PySem.W.Frag) (C : Addr) : Sp := fun vs H Q _ => ∃ (ls dx : Addr) (fs : List (Str × V)) (sh n : Int), vs = [.ref ls, .int n] ∧ H ls = some (.ins C dx fs) ∧ fs.lookup ("shift" : Str) = some (.int sh) ∧ Q (.int (famZ sh n)) H
def spEnd (K : PySem.W.Frag) (C : Addr) : Sp := fun vs H Q _ => ∃ (ls : Addr) (L : LP), vs = [.ref ls] ∧ LsA K H C ls L ∧ Q (.bl (endL L)) H
def spLEq (K : PySem.W.Frag) (C : Addr) : Sp := fun vs H Q _ => ∃ (a b : Addr) (L M : LP), vs = [.ref a, .ref b] ∧ LsA K H C a L ∧ LsA K H C b M ∧ Q (.bl (eqLP L M)) H
theorem eqv_rows : ∀ ns ms : List (Int × Int), PyData.eqvAll (ns.map rowD) (ms.map rowD) = decide (ns = ms)
  | [], [] => rfl
  | [], _ :: _ => by simp [PyData.eqvAll]
  | _ :: _, [] => by simp [PyData.eqvAll]
  | n :: r, m :: u => by
    obtain ⟨n1, n2⟩ := n
    obtain ⟨m1, m2⟩ := m
    rw [List.map_cons, List.map_cons]
    simp only [PyData.eqvAll, eqv_rows r u, rowD, PyData.eqv, Bool.and_true]
    by_cases c1 : n1 = m1
    · by_cases c2 : n2 = m2
      · simp [c1, c2]
      · simp [c1, c2]
    · simp [c1]
theorem eqv_rlist (ns ms : List (Int × Int)) : PyData.eqv (.list (ns.map rowD)) (.list (ms.map rowD)) = decide (ns = ms) := by
  simp only [PyData.eqv]
  exact eqv_rows ns ms
theorem row_lay (r : Int × Int) : Lay (rowD r) := lay2 (lay_int _) (lay_int _)
theorem shaped_rows (ns : List (Int × Int)) : SeqAt.shaped (.list (ns.map rowD)) = true := by
  show ((PyData.list (ns.map rowD)).canLay0 && decide ((PyData.list (ns.map rowD)).depth ≤ 64)) = true
  rw [Bool.and_eq_true]
  constructor
  · simp only [PyData.canLay0]
    exact lay_all fun d m => by obtain ⟨n, _, rfl⟩ := List.mem_map.mp m; exact row_lay n
  · have hd : PyData.depthAll (ns.map rowD) ≤ 1 := depth_all fun d m => by obtain ⟨n, _, rfl⟩ := List.mem_map.mp m; simp only [rowD, PyData.depth, PyData.depthAll]; decide
    simp only [PyData.depth]
    exact decide_eq_true (by omega)
section
variable {P : Program} {w : World} {K : PySem.W.Frag} {mg : Str → Option Value} {base : Heap}
theorem scFam : FnScope ["self", "integer"] ["self", "integer"] (defScope sFam) := ⟨rfl, rfl, rfl, by decide +kernel, rfl, by decide +kernel, by decide +kernel⟩
theorem ok_Fam {f C : Addr} {fd : FuncData} (F : Fun K "family" "Listing.family" sFam f fd) (N : LNo K C) : FnOk P w K mg base CX0 1 f fd ["self", "integer"] (spFam K C) := by
  refine F.ok scFam (fun vs H Q E h => ?_) (fun cdv A outer s H vs Q E hr h => ?_)
  · obtain ⟨ls, dx, fs, sh, n, rfl, _⟩ := h
    rfl
  obtain ⟨ls, dx, fs, sh, n, rfl, ho, hl, q⟩ := h
  refine ⟨_, pss_one (ps_ret (pe_ifExp (pt_cmpR op_gt (pe_fld (pv 0) rfl) pe_int (nomark _)) (pe_op op_mod (pv 1) (pe_fld (pv 0) rfl)) (pv 1))), ?_⟩
  refine ⟨_, rfl, ls, C, dx, fs, _, rfl, ho, N.cl, N.nSh, hl, _, _, rfl, rfl, _, rfl, ?_⟩
  unfold famZ at q
  by_cases c : 0 < sh
  · rw [if_pos c] at q
    refine ite2 (fun _ => ?_) (fun c' => absurd (decide_eq_true (show (0 : Int) < sh from c)) c')
    exact ⟨_, rfl, _, rfl, ls, C, dx, fs, _, rfl, ho, N.cl, N.nSh, hl, _, _, rfl, rfl, c, q⟩
  · rw [if_neg c] at q
    refine ite2 (fun c' => absurd (of_decide_eq_true c') c) (fun _ => ?_)
    exact ⟨_, rfl, q⟩
theorem scEnd : FnScope ["self"] ["self"] (defScope sEnd) := ⟨rfl, rfl, rfl, by decide +kernel, rfl, by decide +kernel, by decide +kernel⟩
theorem ok_End {f C : Addr} {fd : FuncData} (F : Fun K "is_endless" "Listing.is_endless" sEnd f fd) (T : Gs K mg) (N : LNo K C) : FnOk P w K mg base CX0 1 f fd ["self"] (spEnd K C) := by
  refine F.ok scEnd (fun vs H Q E h => ?_) (fun cdv A outer s H vs Q E hr h => ?_)
  · obtain ⟨ls, L, rfl, _⟩ := h
    rfl
  obtain ⟨ls, L, rfl, ⟨dx, hd, cy, kh, kc, hs, cs, fm, xs, ys, ho, _, _, _, _, zs, hk, hz⟩, q⟩ := h
  refine ⟨_, pss_one (ps_ret (pe_and (pe_cmpR op_gt (pe_callB call_len_seq (by rfl) T.len PySem.boot_len (pa_cons (pe_fld (pv 0) rfl) pa_nil)) pe_int (nomark _)) (pe_one (pe_cmpR op_gt (pe_fld (pv 0) rfl) pe_int (nomark _))))), ?_⟩
  refine ⟨_, rfl, ls, C, dx, _, _, rfl, ho, N.cl, N.nKc, rfl, kc, zs, rfl, .inr hk, _, _, rfl, rfl, _, rfl, ?_⟩
  unfold endL at q
  rw [hz]
  by_cases c : 0 < (lpCycle L).length
  · rw [decide_eq_true c, Bool.true_and] at q
    refine ite2 (fun _ => ?_) (fun c' => absurd (decide_eq_true (show (0 : Int) < ((lpCycle L).length : Nat) by omega)) c')
    exact ⟨_, rfl, ls, C, dx, _, _, rfl, ho, N.cl, N.nSh, rfl, _, _, rfl, rfl, q⟩
  · rw [decide_eq_false c, Bool.false_and] at q
    refine ite2 (fun c' => absurd (of_decide_eq_true c') (by show ¬ (0 : Int) < ((lpCycle L).length : Nat); omega)) (fun _ => ?_)
    exact q
theorem scLEq : FnScope ["self", "other"] ["self", "other"] (defScope sLEq) := ⟨rfl, rfl, rfl, by decide +kernel, rfl, by decide +kernel, by decide +kernel⟩
/-- what isinstance asks of the class -/
structure LIs (K : PySem.W.Frag) (C : Addr) : Prop where
  ha : PySem.W.findIn K (.ref C) "__class__" = some (some (.builtin "object.__class__"))
  hn : PySem.W.specialIn K (.builtin "object.__class__") "__get__" = some (some (.builtin "getset_descriptor.__get__"))
  ht : PySem.W.takesIn K (.builtin "object.__class__") = some true
  hm : PySem.W.mroIn K C (.type "object") = some true
theorem kit_own {K : PySem.W.Frag} {D : Addr} : PySem.W.kitOne K (.ref D) (.ref D) = some true := by
  unfold PySem.W.kitOne
  rw [if_pos (beq_self_eq_true _)]
theorem ok_LEq {f C : Addr} {fd : FuncData} (F : Fun K "__eq__" "Listing.__eq__" sLEq f fd) (T : Gs K mg) (N : LNo K C) (I : LIs K C) (gC : mg "Listing" = some (.ref C)) : FnOk P w K mg base CX0 1 f fd ["self", "other"] (spLEq K C) := by
  refine F.ok scLEq (fun vs H Q E h => ?_) (fun cdv A outer s H vs Q E hr h => ?_)
  · obtain ⟨a, b, L, M, rfl, _⟩ := h
    rfl
  obtain ⟨a, b, L, M, rfl, ⟨dx, hd, cy, kh, kc, hs, cs, fm, xs, ys, ho, h1, h2, h3, h4, _⟩, ⟨dy, hd', cy', kh', kc', hs', cs', fm', xs', ys', ho', g1, g2, g3, g4, _⟩, q⟩ := h
  refine ⟨_, pss_one (ps_ret (pe_and (pe_callB call_isi (by rfl) T.isi (by decide +kernel) (pa_cons (pv 1) (pa_cons (pe_gref rfl gC) pa_nil))) (pe_and (pe_cmpR (op_eqD hr.units) (pe_fld (pv 0) rfl) (pe_fld (pv 1) rfl) (nomark _)) (pe_and (pe_cmpR (op_eqD hr.units) (pe_fld (pv 0) rfl) (pe_fld (pv 1) rfl) (nomark _)) (pe_and (pe_cmpR op_eq (pe_fld (pv 0) rfl) (pe_fld (pv 1) rfl) (nomark _)) (pe_one (pe_cmpR op_eq (pe_fld (pv 0) rfl) (pe_fld (pv 1) rfl) (nomark _)))))))), ?_⟩
  have d3 := dpAll_mono (tupH_same H) _ _ h3
  have d4 := dpAll_mono (tupH_same H) _ _ h4
  have e3 := dpAll_mono (tupH_same H) _ _ g3
  have e4 := dpAll_mono (tupH_same H) _ _ g4
  have eqi : ∀ x y : Int, decide (V.int x = V.int y) = decide (x = y) := fun x y => by
    by_cases c : x = y
    · rw [c, decide_eq_true rfl, decide_eq_true rfl]
    · rw [decide_eq_false c, decide_eq_false (fun z => c (by injection z))]
  refine ⟨_, rfl, .ref b, .ref C, _, _, _, rfl, .own C, .base (.ins ho' N.cl I.ha I.hn I.ht I.hm), kit_own, _, rfl, iteT ?_⟩
  unfold eqLP at q
  refine ⟨_, rfl, a, C, dx, _, _, rfl, ho, N.cl, N.nHd, rfl, _, rfl, b, C, dy, _, _, rfl, ho', N.cl, N.nHd, rfl, .list ((lpHead L).map rowD), .list ((lpHead M).map rowD), .lst (SqL.of h1) d3, .lst (SqL.of g1) e3, shaped_rows _, shaped_rows _, _, rfl, ?_⟩
  rw [eqv_rlist]
  cases c1 : decide (lpHead L = lpHead M) with
  | false => rw [c1] at q; simp only [Bool.false_and] at q; exact iteF q
  | true =>
  rw [c1, Bool.true_and] at q
  refine iteT ⟨_, rfl, a, C, dx, _, _, rfl, ho, N.cl, N.nCy, rfl, _, rfl, b, C, dy, _, _, rfl, ho', N.cl, N.nCy, rfl, .list ((lpCycle L).map rowD), .list ((lpCycle M).map rowD), .lst (SqL.of h2) d4, .lst (SqL.of g2) e4, shaped_rows _, shaped_rows _, _, rfl, ?_⟩
  rw [eqv_rlist]
  cases c2 : decide (lpCycle L = lpCycle M) with
  | false => rw [c2] at q; simp only [Bool.false_and] at q; exact iteF q
  | true =>
  rw [c2, Bool.true_and] at q
  refine iteT ⟨_, rfl, a, C, dx, _, _, rfl, ho, N.cl, N.nPe, rfl, _, rfl, b, C, dy, _, _, rfl, ho', N.cl, N.nPe, rfl, rfl, _, rfl, ?_⟩
  rw [eqi]
  cases c3 : decide (lpPer L = lpPer M) with
  | false => rw [c3] at q; simp only [Bool.false_and] at q; exact iteF q
  | true =>
  rw [c3, Bool.true_and] at q
  refine iteT ⟨_, rfl, a, C, dx, _, _, rfl, ho, N.cl, N.nSh, rfl, _, rfl, b, C, dy, _, _, rfl, ho', N.cl, N.nSh, rfl, rfl, ?_⟩
  rw [eqi]
  exact q
end
/-! ### a listing made -/
abbrev sLI : Stmt := inClass (top 53) 0
abbrev nsLI : List Str := ["self", "program", "head", "cycle", "period", "shift", "integer", "step"]
def lpRows : LP → List (Int × Int)
  | .fin rows => rows
  | .cyc _ _ _ _ rows => rows
theorem lpHead_len (L : LP) : (lpHead L).length ≤ (lpRows L).length := by
  cases L with
  | fin r => exact Nat.le_refl _
  | cyc f c t ct r => exact List.length_filter_le _ _
theorem lpCycle_len (L : LP) : (lpCycle L).length ≤ (lpRows L).length := by
  cases L with
  | fin r => exact Nat.zero_le _
  | cyc f c t ct r => exact List.length_filter_le _ _
theorem rowsOf_len (t ct : Int) (s : S3) (i : Ins) : (rowsOf t ct s i).length ≤ 1 := by cases i <;> first | exact Nat.le_refl 1 | exact Nat.zero_le 1
theorem loopL_len (code : List Ins) : ∀ (n : Nat) (s : S3) (t ct : Int) (seen : List (S3 × (Int × Int))) (rows : List (Int × Int)), (lpRows (loopL code n s t ct seen rows)).length ≤ rows.length + n
  | 0, _, _, _, _, rows => Nat.le_refl _
  | n + 1, s, t, ct, seen, rows => by
    rw [loopL_eq]
    cases lookL s seen with
    | some fc => exact Nat.le_add_right _ _
    | none =>
      dsimp only
      cases code[s.pc]? with
      | none => exact Nat.le_add_right _ _
      | some i =>
        dsimp only
        have h := loopL_len code n (nextL s i) (t + i.cost) (ct + i.grown s.a s.b) (seen ++ [(s, (t, ct))]) (rows ++ rowsOf t ct s i)
        have h1 := rowsOf_len t ct s i
        rw [List.length_append] at h
        omega
theorem runL_len {code : List Ins} (h : code.length ≤ 100) : (lpRows (runL code)).length ≤ 100000 := by
  have h1 := loopL_len code (fuel code) ⟨0, 0, 0⟩ 0 0 [] []
  unfold runL
  unfold fuel at h1 ⊢
  rw [List.length_nil] at h1
  omega
/-! ### rows over a heap in which a dict is locked -/
def KeepR (H H' : Hp) : Prop := ∀ a ys, Rd H a (.tup ys) → Rd H' a (.tup ys)
theorem KeepR.of {H H' : Hp} (s : Same H H') : KeepR H H' := fun a ys h => by
  rcases h with h | ⟨o, h⟩
  · exact .inl (s _ _ h)
  · exact .inr ⟨o, s _ _ h⟩
theorem KeepR.t {H H' : Hp} (k : KeepT H H') : KeepR H H' := fun a ys h => by
  rcases h with h | ⟨o, h⟩
  · exact .inl (k.1 _ _ h)
  · exact .inr ⟨o, k.2 _ _ _ h⟩
theorem KeepR.trans {H H' H'' : Hp} (a : KeepR H H') (b : KeepR H' H'') : KeepR H H'' := fun x ys h => b _ _ (a _ _ h)
/-- a place that holds no tuple is written -/
theorem KeepR.upd {H : Hp} {d : Addr} {o u : HO} (h : H d = some u) (n1 : ∀ ys, u ≠ .tup ys) (n2 : ∀ q ys, u ≠ .frz q (.tup ys)) : KeepR H (L2.upd H d o) := fun a ys r => by
  have e : a ≠ d := fun z => by
    subst z
    rcases r with r | ⟨q, r⟩
    · rw [h] at r; injection r with r; exact n1 _ r
    · rw [h] at r; injection r with r; exact n2 _ _ r
  rcases r with r | ⟨q, r⟩
  · exact .inl (by rw [upd_ne e]; exact r)
  · exact .inr ⟨q, by rw [upd_ne e]; exact r⟩
theorem rd_tupH {H : Hp} {a : Addr} {ys : List V} (h : Rd H a (.tup ys)) : Rd (tupH H) a (.tup ys) := by
  rcases h with h | ⟨o, h⟩
  · exact .inl (by unfold tupH; rw [h])
  · exact .inr ⟨o, by unfold tupH; rw [h]⟩
theorem row_move {K : PySem.W.Frag} {H H' : Hp} (k : KeepR H H') {v : V} {r : Int × Int} (h : Dp K (tupH H) v (rowD r)) : Dp K (tupH H') v (rowD r) := by
  obtain ⟨p, rfl, hp⟩ := row_inv (dp_mono (tupH_same H) _ _ h)
  have hp' : SqT K (tupH H') p [.int r.1, .int r.2] := by
    rcases hp with hp | hp
    · exact .inl (rd_tupH (k _ _ hp))
    · exact .inr hp
  exact .tup hp' (.cons (.int _) (.cons (.int _) .nil))
theorem rows_move {K : PySem.W.Frag} {H H' : Hp} (k : KeepR H H') : ∀ {xs : List V} {rows : List (Int × Int)}, DpAll K (tupH H) xs (rows.map rowD) → DpAll K (tupH H') xs (rows.map rowD)
  | _, [], h => by cases h; exact .nil
  | _, r :: t, h => by
    rw [List.map_cons] at h
    cases h with
    | cons h1 h2 => exact .cons (row_move k h1) (rows_move k h2)
/-! ### the families -/
def addFam (z : Int) (r : Int × Int) : List (Int × List (Int × Int)) → List (Int × List (Int × Int))
  | [] => [(z, [r])]
  | e :: t => if e.1 = z then (e.1, e.2 ++ [r]) :: t else e :: addFam z r t
def famS (sh : Int) (cs : List (Int × Int)) : List (Int × List (Int × Int)) := cs.foldl (fun f e => addFam (famZ sh e.1) (e.2, e.1) f) []
theorem famS_snoc (sh : Int) (cs : List (Int × Int)) (e : Int × Int) : famS sh (cs ++ [e]) = addFam (famZ sh e.1) (e.2, e.1) (famS sh cs) := by
  unfold famS
  rw [List.foldl_append]
  rfl
theorem addFam_len (z : Int) (r : Int × Int) : ∀ f : List (Int × List (Int × Int)), (addFam z r f).length ≤ f.length + 1
  | [] => Nat.le_refl _
  | e :: t => by
    unfold addFam
    split
    · exact Nat.le_succ _
    · rw [List.length_cons, List.length_cons]
      have := addFam_len z r t
      omega
theorem famS_len (sh : Int) (cs : List (Int × Int)) : (famS sh cs).length ≤ cs.length := by
  have h : ∀ (rs : List (Int × Int)) (acc : List (Int × List (Int × Int))), (rs.foldl (fun f e => addFam (famZ sh e.1) (e.2, e.1) f) acc).length ≤ acc.length + rs.length := by
    intro rs
    induction rs with
    | nil => intro acc; exact Nat.le_refl _
    | cons r t ih =>
      intro acc
      have h1 := ih (addFam (famZ sh r.1) (r.2, r.1) acc)
      have h2 := addFam_len (famZ sh r.1) (r.2, r.1) acc
      rw [List.foldl_cons, List.length_cons]
      omega
  have := h cs []
  rw [List.length_nil] at this
  unfold famS
  omega
/-- all rows of all families -/
def allFam (f : List (Int × List (Int × Int))) : Nat := (f.map fun e => e.2.length).sum
theorem addFam_all (z : Int) (r : Int × Int) : ∀ f : List (Int × List (Int × Int)), allFam (addFam z r f) = allFam f + 1
  | [] => rfl
  | e :: t => by
    unfold addFam
    split
    · simp only [allFam, List.map_cons, List.sum_cons, List.length_append, List.length_singleton]
      omega
    · have := addFam_all z r t
      simp only [allFam, List.map_cons, List.sum_cons] at this ⊢
      omega
theorem famS_all (sh : Int) (cs : List (Int × Int)) : allFam (famS sh cs) = cs.length := by
  have h : ∀ (rs : List (Int × Int)) (acc : List (Int × List (Int × Int))), allFam (rs.foldl (fun f e => addFam (famZ sh e.1) (e.2, e.1) f) acc) = allFam acc + rs.length := by
    intro rs
    induction rs with
    | nil => intro acc; rfl
    | cons r t ih =>
      intro acc
      rw [List.foldl_cons, List.length_cons, ih, addFam_all]
      omega
  have := h cs []
  unfold famS
  rw [this]
  exact Nat.zero_add _
inductive FamR (K : PySem.W.Frag) (H : Hp) : List (Key × V) → List (Int × List (Int × Int)) → List Addr → Prop
  | nil : FamR K H [] [] []
  | cons {k : Int} {l : Addr} {xs : List V} {rows : List (Int × Int)} {kvs : List (Key × V)} {fam : List (Int × List (Int × Int))} {la : List Addr} : H l = some (.lst xs) → DpAll K (tupH H) xs (rows.map rowD) → l ∉ la → FamR K H kvs fam la → FamR K H ((Sum.inl k, .ref l) :: kvs) ((k, rows) :: fam) (l :: la)
theorem FamR.len {K : PySem.W.Frag} {H : Hp} : ∀ {kvs : List (Key × V)} {fam : List (Int × List (Int × Int))} {la : List Addr}, FamR K H kvs fam la → kvs.length = fam.length
  | _, _, _, .nil => rfl
  | _, _, _, .cons _ _ _ h => by rw [List.length_cons, List.length_cons, h.len]
theorem FamR.keep {K : PySem.W.Frag} {H H' : Hp} (k : KeepR H H') : ∀ {kvs : List (Key × V)} {fam : List (Int × List (Int × Int))} {la : List Addr}, (∀ a ∈ la, ∀ o, H a = some o → H' a = some o) → FamR K H kvs fam la → FamR K H' kvs fam la
  | _, _, _, _, .nil => .nil
  | _, _, _, m, .cons e d n h => .cons (m _ (List.mem_cons_self ..) _ e) (rows_move k d) n (h.keep k fun a ha => m a (List.mem_cons_of_mem _ ha))
theorem FamR.there {K : PySem.W.Frag} {H : Hp} : ∀ {kvs : List (Key × V)} {fam : List (Int × List (Int × Int))} {la : List Addr}, FamR K H kvs fam la → ∀ a ∈ la, ∃ xs, H a = some (.lst xs)
  | _, _, _, .nil => fun a m => nomatch m
  | _, _, _, .cons e _ _ h => fun a m => by
    rcases List.mem_cons.mp m with rfl | m
    · exact ⟨_, e⟩
    · exact h.there a m
theorem FamR.look {K : PySem.W.Frag} {H : Hp} (z : Int) : ∀ {kvs : List (Key × V)} {fam : List (Int × List (Int × Int))} {la : List Addr}, FamR K H kvs fam la →
    (valV kvs (Sum.inl z : Key) = none ∧ fam.lookup z = none) ∨ ∃ l xs rows, valV kvs (Sum.inl z : Key) = some (.ref l) ∧ l ∈ la ∧ fam.lookup z = some rows ∧ H l = some (.lst xs) ∧ DpAll K (tupH H) xs (rows.map rowD) ∧ rows.length ≤ allFam fam
  | _, _, _, .nil => .inl ⟨rfl, rfl⟩
  | _, _, _, .cons (k := k0) (l := l0) (xs := xs0) (rows := rows0) (kvs := kvs) (fam := fam) (la := la) e d n h => by
    by_cases c : k0 = z
    · subst c
      refine .inr ⟨l0, xs0, rows0, valV_pos rfl, List.mem_cons_self .., ?_, e, d, ?_⟩
      · simp [List.lookup]
      · simp only [allFam, List.map_cons, List.sum_cons]; omega
    · have e1 : ((k0, rows0) :: fam).lookup z = fam.lookup z := by
        rw [List.lookup_cons]
        have : (z == k0) = false := by simp; exact fun q => c q.symm
        rw [this]
      have e2 : valV ((Sum.inl k0, V.ref l0) :: kvs) (Sum.inl z : Key) = valV kvs (Sum.inl z : Key) := valV_neg (fun q => c (by injection q))
      rw [e1, e2]
      rcases h.look z with h | ⟨l, xs, rows, h1, h2, h3, h4, h5, h6⟩
      · exact .inl h
      · refine .inr ⟨l, xs, rows, h1, List.mem_cons_of_mem _ h2, h3, h4, h5, ?_⟩
        simp only [allFam, List.map_cons, List.sum_cons] at h6 ⊢
        omega
theorem FamR.app {K : PySem.W.Frag} {H : Hp} {z : Int} {l : Addr} {v : V} {r : Int × Int} (hv : Dp K (tupH H) v (rowD r)) : ∀ {kvs : List (Key × V)} {fam : List (Int × List (Int × Int))} {la : List Addr}, FamR K H kvs fam la → valV kvs (Sum.inl z : Key) = some (.ref l) → ∀ xs, H l = some (.lst xs) → FamR K (upd H l (.lst (xs ++ [v]))) kvs (addFam z r fam) la
  | _, _, _, .nil => fun q => nomatch q
  | _, _, _, .cons (k := k0) (l := l0) (xs := xs0) (rows := rows0) (kvs := kvs) (fam := fam) (la := la) e d n h => fun q xs hl => by
    have kr : KeepR H (upd H l (.lst (xs ++ [v]))) := KeepR.t (KeepT.upd ⟨_, hl⟩)
    by_cases c : k0 = z
    · have q' : valV ((Sum.inl k0, V.ref l0) :: kvs) (Sum.inl z : Key) = some (.ref l0) := valV_pos (by rw [c])
      rw [q'] at q
      have el : l0 = l := by injection q with q; injection q
      subst el
      rw [e] at hl
      injection hl with hl
      injection hl with hl
      subst hl
      unfold addFam
      rw [if_pos c]
      refine .cons upd_same ?_ n (h.keep kr fun a ha o eo => by rw [upd_ne (fun w => n (by rw [← w]; exact ha))]; exact eo)
      show DpAll K _ _ ((rows0 ++ [r]).map rowD)
      rw [List.map_append]
      exact dpAll_append (rows_move kr d) (.cons (row_move kr hv) .nil)
    · have e2 : valV ((Sum.inl k0, V.ref l0) :: kvs) (Sum.inl z : Key) = valV kvs (Sum.inl z : Key) := valV_neg (fun w => c (by injection w))
      rw [e2] at q
      have ml : l ∈ la := by
        rcases h.look z with ⟨h1, _⟩ | ⟨l', xs', rows', h1, h2, _⟩
        · rw [h1] at q; cases q
        · rw [h1] at q; injection q with q; injection q with q; subst q; exact h2
      have nl : l0 ≠ l := fun w => n (by rw [w]; exact ml)
      unfold addFam
      rw [if_neg c]
      exact .cons (by rw [upd_ne nl]; exact e) (rows_move kr d) n (h.app hv q xs hl)
theorem FamR.new {K : PySem.W.Frag} {H : Hp} {z : Int} {l : Addr} {v : V} {r : Int × Int} (hv : Dp K (tupH H) v (rowD r)) (hl : H l = some (.lst [v])) : ∀ {kvs : List (Key × V)} {fam : List (Int × List (Int × Int))} {la : List Addr}, FamR K H kvs fam la → l ∉ la → valV kvs (Sum.inl z : Key) = none → FamR K H (kvs ++ [(Sum.inl z, .ref l)]) (addFam z r fam) (la ++ [l])
  | _, _, _, .nil => fun _ _ => .cons hl (.cons hv .nil) (fun m => nomatch m) .nil
  | _, _, _, .cons (k := k0) (l := l0) (xs := xs0) (rows := rows0) (kvs := kvs) (fam := fam) (la := la) e d n h => fun nl q => by
    have c : ¬ k0 = z := fun c => by
      rw [valV_pos (by rw [c])] at q
      cases q
    rw [valV_neg (fun w => c (by injection w))] at q
    unfold addFam
    rw [if_neg c]
    refine .cons e d (fun m => ?_) (h.new hv hl (fun m => nl (List.mem_cons_of_mem _ m)) q)
    rcases List.mem_append.mp m with m | m
    · exact n m
    · rw [List.mem_singleton.mp m] at nl
      exact nl (List.mem_cons_self ..)
/-- a listing, all of it -/
structure LsO (K : PySem.W.Frag) (H0 H : Hp) (C ls : Addr) (L : LP) : Prop where
  ex : ∃ (dx hd cy kh kc hs cs fm : Addr) (xs ys : List V) (kvs : List (Key × V)) (la : List Addr), H ls = some (.ins C dx (lsF hd cy (lpPer L) (lpShift L) kh kc hs cs fm)) ∧ H hd = some (.lst xs) ∧ H cy = some (.lst ys) ∧ RowsAt H xs (lpHead L) ∧ RowsAt H ys (lpCycle L) ∧
    H kh = some (.tup xs) ∧ H kc = some (.tup ys) ∧ H hs = some (.dK (fsD (firstS (lpHead L)))) ∧ H cs = some (.dK (fsD (firstS (lpCycle L)))) ∧ H fm = some (.dK kvs) ∧ FamR K H kvs (famS (lpShift L) (firstS (lpCycle L))) la ∧ H0 hd = none ∧ H0 cy = none ∧ hd ≠ cy ∧ hd ∉ la ∧ cy ∉ la ∧ (lpRows L).length ≤ 100000
theorem LsO.a {K : PySem.W.Frag} {H0 H : Hp} {C ls : Addr} {L : LP} (h : LsO K H0 H C ls L) : LsA K H C ls L := by
  obtain ⟨dx, hd, cy, kh, kc, hs, cs, fm, xs, ys, kvs, la, h1, h2, h3, h4, h5, h6, h7, _⟩ := h.ex
  refine ⟨dx, hd, cy, kh, kc, hs, cs, fm, xs, ys, h1, h2, h3, h4.dp, h5.dp, ys, SqT.of h7, h5.len⟩
def spLI (K : PySem.W.Frag) (C : Addr) : Sp := fun vs H Q _ => ∃ (ls dx : Addr) (v : V) (d : PyData) (code : List Ins), vs = [.ref ls, v] ∧ H ls = some (.ins C dx []) ∧ Dp K H v (.tuple [.str "collector", d]) ∧ Lay (.tuple [.str "collector", d]) ∧ noL d = true ∧ isProg (.tuple [.str "collector", d]) = true ∧ bodyC 4 0 d = code.map Ins.toD ∧ (∀ i ∈ code, i.ok "collector") ∧
  ∀ H', Fx [ls] H H' → LsO K H H' C ls (runL code) → Q .non H'
section
variable {P : Program} {w : World} {K : PySem.W.Frag} {mg : Str → Option Value} {base : Heap}
theorem scLI : FnScope nsLI ["self", "program"] (defScope sLI) := ⟨rfl, rfl, rfl, by decide +kernel, rfl, by decide +kernel, by decide +kernel⟩
theorem ok_LI {f C : Addr} {fd : FuncData} (F : Fun K "__init__" "Listing.__init__" sLI f fd) (N : LNo K C) (mt : mg "tuple" = none) (CP : Cal P w K mg base 7 "is_program" ["thing"] (spProg K)) (CA : Cal P w K mg base 15 "assemble" ["program"] (spAsm K)) (CL : Cal P w K mg base 5 "list_parts" ["code"] (spLPt K)) (CF : Cal P w K mg base 1 "first_steps" ["rows"] (spFS K)) (MF : MCal P w K mg base 1 C "family" ["self", "integer"] (spFam K C)) :
    FnOk P w K mg base CX0 16 f fd ["self", "program"] (spLI K C) := by
  refine F.ok scLI (fun vs H Q E h => ?_) (fun cdv A outer s H vs Q E hr h => ?_)
  · obtain ⟨ls, dx, v, d, code, rfl, _⟩ := h
    rfl
  obtain ⟨ls, dx, v, d, code, rfl, ho, hd0, ld, nd, hp, hcode, hok, q⟩ := h
  have hr1 : Room 1 _ := hr.mono (by decide)
  have hr2 : Room 2 _ := hr.mono (by decide)
  have hr5 : Room 5 _ := hr.mono (by decide)
  have hr7 : Room 7 _ := hr.mono (by decide)
  have hu := hu_of hr
  refine ⟨_, PSs.nox (pss_cons (ps_if (PW.pt (pw_or (pt_not (pt_val (pe_call CP.G hr7 rfl CP.m CP.kp CP.b .nil pass0 (pa_cons (pv 1) pa_nil)))) (pw_or1 (pt_cmpR op_ne (pe_ix ix_tup (pv 1) pe_int (fun _ _ => rfl)) pe_str (nomark _))))) (pss_one ps_never) pss_nil)
    (pss_cons (ps_asg (pe_call CL.G hr5 rfl CL.m CL.kp CL.b .nil pass0 (pa_cons (pe_call CA.G hr rfl CA.m CA.kp CA.b .nil pass0 (pa_cons (pv 1) pa_nil)) pa_nil)) (pg_tup (by rfl) (pgs_cons (pg_name (i := 2) scLI.nd rfl (.inl rfl)) (pgs_cons (pg_name (i := 3) scLI.nd rfl (.inl rfl)) (pgs_cons (pg_name (i := 4) scLI.nd rfl (.inl rfl)) (pgs_cons (pg_name (i := 5) scLI.nd rfl (.inl rfl)) pgs_nil))))))
    (pss_cons (ps_fld (pv 0) (pv 2) rfl) (pss_cons (ps_fld (pv 0) (pv 3) rfl) (pss_cons (ps_fld (pv 0) (pv 4) rfl) (pss_cons (ps_fld (pv 0) (pv 5) rfl)
    (pss_cons (ps_fld (pv 0) (pe_callTy call_tuple_of (by rfl) mt (by decide +kernel) (pa_cons (pv 2) pa_nil)) rfl)
    (pss_cons (ps_fld (pv 0) (pe_callTy call_tuple_of (by rfl) mt (by decide +kernel) (pa_cons (pv 3) pa_nil)) rfl)
    (pss_cons (ps_fld (pv 0) (pe_call CF.G hr1 rfl CF.m CF.kp CF.b .nil pass0 (pa_cons (pv 2) pa_nil)) rfl)
    (pss_cons (ps_fld (pv 0) (pe_call CF.G hr1 rfl CF.m CF.kp CF.b .nil pass0 (pa_cons (pv 3) pa_nil)) rfl)
    (pss_cons (ps_fld (pv 0) pe_dnewK rfl)
    (pss_one (ps_lock (ps_for PassesOwn.never rfl (pi_items (pe_fld (pv 0) rfl)) (pg_tup (by rfl) (pgs_cons (pg_name (i := 6) scLI.nd rfl (.inl rfl)) (pgs_cons (pg_name (i := 7) scLI.nd rfl (.inl rfl)) pgs_nil)))
      (pss_one (ps_expr (pe_bm PySem.F.plainAttrs_list PySem.F.slot_list_append PySem.F.type_list_append mt_append (pe_dsetd (pe_fld (pv 0) rfl) (pe_meth (pv 0) N.cl MF.m MF.G hr1 MF.b .nil pass0 (pa_cons (pv 6) pa_nil)) (pe_lst pa_nil) ⟨rfl, rfl, rfl, rfl⟩) (pa_cons (pe_tup (pa_cons (pv 7) (pa_cons (pv 6) pa_nil))) pa_nil)))))))))))))))))), ?_⟩
  refine ⟨_, rfl, v, _, rfl, hd0, ld, fun H1 s1 => ⟨_, rfl, ?_⟩⟩
  rw [hp]
  obtain ⟨a, xsP, rfl, hs0, ha⟩ := dp_tup_inv hd0
  obtain ⟨x0, x1, rfl, hx0, hx1⟩ := dp_pair ha
  cases hx0
  refine iteF ⟨_, rfl, a, _, _, _, rfl, rfl, Same.tup s1 hs0, atI_nat (j := 0) rfl, rfl, _, rfl, ?_⟩
  refine ite2 (fun c => absurd c (by rw [decide_eq_true rfl]; decide)) (fun _ => ?_)
  refine ⟨_, rfl, .ref a, "collector", d, rfl, dp_mono s1 _ _ hd0, ld, nd, hp, fun H2 p ys0 s2 np ep hys0 => ?_⟩
  obtain ⟨c, hbc, hc⟩ := prog_bodyC hp
  obtain ⟨_, hcl⟩ := body_code_ok 0 (lay_mem (lay_tup ld) d (by simp)) hbc
  rw [hcode] at hys0 hcl
  rw [List.length_map] at hcl
  have hcl1 : code.length ≤ 100 := by omega
  have hlen := runL_len hcl1
  refine ⟨p, ys0, code, rfl, SqL.of ep, hys0, hok, hcl1, fun H3 t s3 nt tl => ?_⟩
  obtain ⟨hd, cy, xs, ys, et, eh, ec, dh, dc, nh3, nc3, nhc⟩ := tl
  have s13 : Same H H3 := (s1.trans s2).trans s3
  refine ⟨t, _, rfl, SqT.of et, rfl, _, _, rfl, _, _, rfl, _, _, rfl, _, _, rfl, rfl, ?_⟩
  have oH3 := s13 _ _ ho
  have fH3 : Fx [ls] H H3 := Fx.of s13
  refine ⟨_, rfl, _, rfl, ls, C, dx, _, rfl, oH3, N.cl, N.nHd, (by show 0 < 1000; decide), ?_⟩
  have fA1 : Fx [ls] H (upd H3 ls (.ins C dx (putF "head" (.ref hd) []))) := fH3.trans (Fx.upd (by simp))
  have gA1 : Fx [ls] H3 (upd H3 ls (.ins C dx (putF "head" (.ref hd) []))) := Fx.upd (by simp)
  have oA1 : (upd H3 ls (.ins C dx (putF "head" (.ref hd) []))) ls = some (.ins C dx [("head", .ref hd)]) := upd_same
  generalize upd H3 ls (.ins C dx (putF "head" (.ref hd) [])) = A1 at fA1 gA1 oA1 ⊢
  refine ⟨_, rfl, _, rfl, ls, C, dx, _, rfl, oA1, N.cl, N.nCy, (by show 1 < 1000; decide), ?_⟩
  have fA2 : Fx [ls] H (upd A1 ls (.ins C dx (putF "cycle" (.ref cy) [("head", .ref hd)]))) := fA1.trans (Fx.upd (by simp))
  have gA2 : Fx [ls] A1 (upd A1 ls (.ins C dx (putF "cycle" (.ref cy) [("head", .ref hd)]))) := Fx.upd (by simp)
  have oA2 : (upd A1 ls (.ins C dx (putF "cycle" (.ref cy) [("head", .ref hd)]))) ls = some (.ins C dx [("head", .ref hd), ("cycle", .ref cy)]) := upd_same
  generalize upd A1 ls (.ins C dx (putF "cycle" (.ref cy) [("head", .ref hd)])) = A2 at fA2 gA2 oA2 ⊢
  refine ⟨_, rfl, _, rfl, ls, C, dx, _, rfl, oA2, N.cl, N.nPe, (by show 2 < 1000; decide), ?_⟩
  have fA3 : Fx [ls] H (upd A2 ls (.ins C dx (putF "period" (.int (lpPer (runL code))) [("head", .ref hd), ("cycle", .ref cy)]))) := fA2.trans (Fx.upd (by simp))
  have gA3 : Fx [ls] A2 (upd A2 ls (.ins C dx (putF "period" (.int (lpPer (runL code))) [("head", .ref hd), ("cycle", .ref cy)]))) := Fx.upd (by simp)
  have oA3 : (upd A2 ls (.ins C dx (putF "period" (.int (lpPer (runL code))) [("head", .ref hd), ("cycle", .ref cy)]))) ls = some (.ins C dx [("head", .ref hd), ("cycle", .ref cy), ("period", .int (lpPer (runL code)))]) := upd_same
  generalize upd A2 ls (.ins C dx (putF "period" (.int (lpPer (runL code))) [("head", .ref hd), ("cycle", .ref cy)])) = A3 at fA3 gA3 oA3 ⊢
  refine ⟨_, rfl, _, rfl, ls, C, dx, _, rfl, oA3, N.cl, N.nSh, (by show 3 < 1000; decide), ?_⟩
  have fA4 : Fx [ls] H (upd A3 ls (.ins C dx (putF "shift" (.int (lpShift (runL code))) [("head", .ref hd), ("cycle", .ref cy), ("period", .int (lpPer (runL code)))]))) := fA3.trans (Fx.upd (by simp))
  have gA4 : Fx [ls] A3 (upd A3 ls (.ins C dx (putF "shift" (.int (lpShift (runL code))) [("head", .ref hd), ("cycle", .ref cy), ("period", .int (lpPer (runL code)))]))) := Fx.upd (by simp)
  have oA4 : (upd A3 ls (.ins C dx (putF "shift" (.int (lpShift (runL code))) [("head", .ref hd), ("cycle", .ref cy), ("period", .int (lpPer (runL code)))]))) ls = some (.ins C dx [("head", .ref hd), ("cycle", .ref cy), ("period", .int (lpPer (runL code))), ("shift", .int (lpShift (runL code)))]) := upd_same
  generalize upd A3 ls (.ins C dx (putF "shift" (.int (lpShift (runL code))) [("head", .ref hd), ("cycle", .ref cy), ("period", .int (lpPer (runL code)))])) = A4 at fA4 gA4 oA4 ⊢
  have keep : ∀ {Hx Hy : Hp} {p : Addr} {o : HO} {fs : List (Str × V)}, Fx [ls] Hx Hy → Hx ls = some (.ins C dx fs) → Hx p = some o → (∀ c d f, o ≠ .ins c d f) → Hy p = some o := fun {Hx Hy p o fs} fx ox e n => fx p o (fun z => by
    rw [List.mem_singleton.mp z, ox] at e
    injection e with e
    exact n _ _ _ e.symm) e
  have kT : ∀ {Hx Hy : Hp} {fs : List (Str × V)}, Fx [ls] Hx Hy → Hx ls = some (.ins C dx fs) → KeepT Hx Hy := fun {Hx Hy fs} fx ox => ⟨fun x l e => keep fx ox e (fun _ _ _ z => nomatch z), fun x o u e => keep fx ox e (fun _ _ _ z => nomatch z)⟩
  have g4 : Fx [ls] H3 A4 := ((gA1.trans gA2).trans gA3).trans gA4
  have eh4 := keep g4 oH3 eh (fun _ _ _ z => nomatch z)
  have ec4 := keep g4 oH3 ec (fun _ _ _ z => nomatch z)
  have dh4 := dh.keep (kT g4 oH3)
  have dc4 := dc.keep (kT g4 oH3)
  refine ⟨_, rfl, hd, xs, rfl, .inl ⟨SqL.of eh4, fun kh nkh => ?_⟩⟩
  have u5 := same_new nkh (.tup xs)
  have ekh : (upd A4 kh (.tup xs)) kh = some (.tup xs) := upd_same
  generalize upd A4 kh (.tup xs) = B5 at u5 ekh ⊢
  have oB5 := u5 _ _ oA4
  have fB5 : Fx [ls] H B5 := fA4.trans (Fx.of u5)
  refine ⟨_, rfl, ls, C, dx, _, rfl, oB5, N.cl, N.nKh, (by show 4 < 1000; decide), ?_⟩
  have fA5 : Fx [ls] H (upd B5 ls (.ins C dx (putF "kept_head" (.ref kh) [("head", .ref hd), ("cycle", .ref cy), ("period", .int (lpPer (runL code))), ("shift", .int (lpShift (runL code)))]))) := fB5.trans (Fx.upd (by simp))
  have gA5 : Fx [ls] B5 (upd B5 ls (.ins C dx (putF "kept_head" (.ref kh) [("head", .ref hd), ("cycle", .ref cy), ("period", .int (lpPer (runL code))), ("shift", .int (lpShift (runL code)))]))) := Fx.upd (by simp)
  have oA5 : (upd B5 ls (.ins C dx (putF "kept_head" (.ref kh) [("head", .ref hd), ("cycle", .ref cy), ("period", .int (lpPer (runL code))), ("shift", .int (lpShift (runL code)))]))) ls = some (.ins C dx [("head", .ref hd), ("cycle", .ref cy), ("period", .int (lpPer (runL code))), ("shift", .int (lpShift (runL code))), ("kept_head", .ref kh)]) := upd_same
  generalize upd B5 ls (.ins C dx (putF "kept_head" (.ref kh) [("head", .ref hd), ("cycle", .ref cy), ("period", .int (lpPer (runL code))), ("shift", .int (lpShift (runL code)))])) = A5 at fA5 gA5 oA5 ⊢
  have ec5 := keep gA5 oB5 (u5 _ _ ec4) (fun _ _ _ z => nomatch z)
  have ekh5 := keep gA5 oB5 ekh (fun _ _ _ z => nomatch z)
  refine ⟨_, rfl, cy, ys, rfl, .inl ⟨SqL.of ec5, fun kc nkc => ?_⟩⟩
  have u6 := same_new nkc (.tup ys)
  have ekc : (upd A5 kc (.tup ys)) kc = some (.tup ys) := upd_same
  generalize upd A5 kc (.tup ys) = B6 at u6 ekc ⊢
  have oB6 := u6 _ _ oA5
  have fB6 : Fx [ls] H B6 := fA5.trans (Fx.of u6)
  refine ⟨_, rfl, ls, C, dx, _, rfl, oB6, N.cl, N.nKc, (by show 5 < 1000; decide), ?_⟩
  have fA6 : Fx [ls] H (upd B6 ls (.ins C dx (putF "kept_cycle" (.ref kc) [("head", .ref hd), ("cycle", .ref cy), ("period", .int (lpPer (runL code))), ("shift", .int (lpShift (runL code))), ("kept_head", .ref kh)]))) := fB6.trans (Fx.upd (by simp))
  have gA6 : Fx [ls] B6 (upd B6 ls (.ins C dx (putF "kept_cycle" (.ref kc) [("head", .ref hd), ("cycle", .ref cy), ("period", .int (lpPer (runL code))), ("shift", .int (lpShift (runL code))), ("kept_head", .ref kh)]))) := Fx.upd (by simp)
  have oA6 : (upd B6 ls (.ins C dx (putF "kept_cycle" (.ref kc) [("head", .ref hd), ("cycle", .ref cy), ("period", .int (lpPer (runL code))), ("shift", .int (lpShift (runL code))), ("kept_head", .ref kh)]))) ls = some (.ins C dx [("head", .ref hd), ("cycle", .ref cy), ("period", .int (lpPer (runL code))), ("shift", .int (lpShift (runL code))), ("kept_head", .ref kh), ("kept_cycle", .ref kc)]) := upd_same
  generalize upd B6 ls (.ins C dx (putF "kept_cycle" (.ref kc) [("head", .ref hd), ("cycle", .ref cy), ("period", .int (lpPer (runL code))), ("shift", .int (lpShift (runL code))), ("kept_head", .ref kh)])) = A6 at fA6 gA6 oA6 ⊢
  have g46 : Fx [ls] A4 A6 := (((Fx.of u5).trans gA5).trans (Fx.of u6)).trans gA6
  have eh6 := keep g46 oA4 eh4 (fun _ _ _ z => nomatch z)
  have ec6 := keep g46 oA4 ec4 (fun _ _ _ z => nomatch z)
  have dh6 := dh4.keep (kT g46 oA4)
  have dc6 := dc4.keep (kT g46 oA4)
  have ekh6 := keep ((Fx.of u6).trans gA6) oA5 ekh5 (fun _ _ _ z => nomatch z)
  have ekc6 := keep gA6 oB6 ekc (fun _ _ _ z => nomatch z)
  refine ⟨_, rfl, hd, xs, lpHead (runL code), rfl, eh6, dh6.dp, Nat.le_trans (lpHead_len _) hlen, fun B7 hs u7 nhs ehs => ?_⟩
  have oB7 := u7 _ _ oA6
  have fB7 : Fx [ls] H B7 := fA6.trans (Fx.of u7)
  refine ⟨_, rfl, ls, C, dx, _, rfl, oB7, N.cl, N.nHs, (by show 6 < 1000; decide), ?_⟩
  have fA7 : Fx [ls] H (upd B7 ls (.ins C dx (putF "head_steps" (.ref hs) [("head", .ref hd), ("cycle", .ref cy), ("period", .int (lpPer (runL code))), ("shift", .int (lpShift (runL code))), ("kept_head", .ref kh), ("kept_cycle", .ref kc)]))) := fB7.trans (Fx.upd (by simp))
  have gA7 : Fx [ls] B7 (upd B7 ls (.ins C dx (putF "head_steps" (.ref hs) [("head", .ref hd), ("cycle", .ref cy), ("period", .int (lpPer (runL code))), ("shift", .int (lpShift (runL code))), ("kept_head", .ref kh), ("kept_cycle", .ref kc)]))) := Fx.upd (by simp)
  have oA7 : (upd B7 ls (.ins C dx (putF "head_steps" (.ref hs) [("head", .ref hd), ("cycle", .ref cy), ("period", .int (lpPer (runL code))), ("shift", .int (lpShift (runL code))), ("kept_head", .ref kh), ("kept_cycle", .ref kc)]))) ls = some (.ins C dx [("head", .ref hd), ("cycle", .ref cy), ("period", .int (lpPer (runL code))), ("shift", .int (lpShift (runL code))), ("kept_head", .ref kh), ("kept_cycle", .ref kc), ("head_steps", .ref hs)]) := upd_same
  generalize upd B7 ls (.ins C dx (putF "head_steps" (.ref hs) [("head", .ref hd), ("cycle", .ref cy), ("period", .int (lpPer (runL code))), ("shift", .int (lpShift (runL code))), ("kept_head", .ref kh), ("kept_cycle", .ref kc)])) = A7 at fA7 gA7 oA7 ⊢
  have g67 : Fx [ls] A6 A7 := (Fx.of u7).trans gA7
  have ec7 := keep g67 oA6 ec6 (fun _ _ _ z => nomatch z)
  have dc7 := dc6.keep (kT g67 oA6)
  have ehs7 := keep gA7 oB7 ehs (fun _ _ _ z => nomatch z)
  refine ⟨_, rfl, cy, ys, lpCycle (runL code), rfl, ec7, dc7.dp, Nat.le_trans (lpCycle_len _) hlen, fun B8 cs u8 ncs ecs => ?_⟩
  have oB8 := u8 _ _ oA7
  have fB8 : Fx [ls] H B8 := fA7.trans (Fx.of u8)
  refine ⟨_, rfl, ls, C, dx, _, rfl, oB8, N.cl, N.nCs, (by show 7 < 1000; decide), ?_⟩
  have fA8 : Fx [ls] H (upd B8 ls (.ins C dx (putF "cycle_steps" (.ref cs) [("head", .ref hd), ("cycle", .ref cy), ("period", .int (lpPer (runL code))), ("shift", .int (lpShift (runL code))), ("kept_head", .ref kh), ("kept_cycle", .ref kc), ("head_steps", .ref hs)]))) := fB8.trans (Fx.upd (by simp))
  have gA8 : Fx [ls] B8 (upd B8 ls (.ins C dx (putF "cycle_steps" (.ref cs) [("head", .ref hd), ("cycle", .ref cy), ("period", .int (lpPer (runL code))), ("shift", .int (lpShift (runL code))), ("kept_head", .ref kh), ("kept_cycle", .ref kc), ("head_steps", .ref hs)]))) := Fx.upd (by simp)
  have oA8 : (upd B8 ls (.ins C dx (putF "cycle_steps" (.ref cs) [("head", .ref hd), ("cycle", .ref cy), ("period", .int (lpPer (runL code))), ("shift", .int (lpShift (runL code))), ("kept_head", .ref kh), ("kept_cycle", .ref kc), ("head_steps", .ref hs)]))) ls = some (.ins C dx [("head", .ref hd), ("cycle", .ref cy), ("period", .int (lpPer (runL code))), ("shift", .int (lpShift (runL code))), ("kept_head", .ref kh), ("kept_cycle", .ref kc), ("head_steps", .ref hs), ("cycle_steps", .ref cs)]) := upd_same
  generalize upd B8 ls (.ins C dx (putF "cycle_steps" (.ref cs) [("head", .ref hd), ("cycle", .ref cy), ("period", .int (lpPer (runL code))), ("shift", .int (lpShift (runL code))), ("kept_head", .ref kh), ("kept_cycle", .ref kc), ("head_steps", .ref hs)])) = A8 at fA8 gA8 oA8 ⊢
  have ehs8 := keep ((Fx.of u8).trans gA8) oA7 ehs7 (fun _ _ _ z => nomatch z)
  have ecs8 := keep gA8 oB8 ecs (fun _ _ _ z => nomatch z)
  refine fun fm nfm => ?_
  have u9 := same_new nfm (.dK [])
  have efm : (upd A8 fm (.dK [])) fm = some (.dK []) := upd_same
  generalize upd A8 fm (.dK []) = B9 at u9 efm ⊢
  have oB9 := u9 _ _ oA8
  have fB9 : Fx [ls] H B9 := fA8.trans (Fx.of u9)
  refine ⟨_, rfl, ls, C, dx, _, rfl, oB9, N.cl, N.nFm, (by show 8 < 1000; decide), ?_⟩
  have fA9 : Fx [ls] H (upd B9 ls (.ins C dx (putF "families" (.ref fm) [("head", .ref hd), ("cycle", .ref cy), ("period", .int (lpPer (runL code))), ("shift", .int (lpShift (runL code))), ("kept_head", .ref kh), ("kept_cycle", .ref kc), ("head_steps", .ref hs), ("cycle_steps", .ref cs)]))) := fB9.trans (Fx.upd (by simp))
  have gA9 : Fx [ls] B9 (upd B9 ls (.ins C dx (putF "families" (.ref fm) [("head", .ref hd), ("cycle", .ref cy), ("period", .int (lpPer (runL code))), ("shift", .int (lpShift (runL code))), ("kept_head", .ref kh), ("kept_cycle", .ref kc), ("head_steps", .ref hs), ("cycle_steps", .ref cs)]))) := Fx.upd (by simp)
  have oA9 : (upd B9 ls (.ins C dx (putF "families" (.ref fm) [("head", .ref hd), ("cycle", .ref cy), ("period", .int (lpPer (runL code))), ("shift", .int (lpShift (runL code))), ("kept_head", .ref kh), ("kept_cycle", .ref kc), ("head_steps", .ref hs), ("cycle_steps", .ref cs)]))) ls = some (.ins C dx [("head", .ref hd), ("cycle", .ref cy), ("period", .int (lpPer (runL code))), ("shift", .int (lpShift (runL code))), ("kept_head", .ref kh), ("kept_cycle", .ref kc), ("head_steps", .ref hs), ("cycle_steps", .ref cs), ("families", .ref fm)]) := upd_same
  generalize upd B9 ls (.ins C dx (putF "families" (.ref fm) [("head", .ref hd), ("cycle", .ref cy), ("period", .int (lpPer (runL code))), ("shift", .int (lpShift (runL code))), ("kept_head", .ref kh), ("kept_cycle", .ref kc), ("head_steps", .ref hs), ("cycle_steps", .ref cs)])) = A9 at fA9 gA9 oA9 ⊢
  have g69 : Fx [ls] A6 A9 := (((g67.trans (Fx.of u8)).trans gA8).trans (Fx.of u9)).trans gA9
  have eh9 := keep g69 oA6 eh6 (fun _ _ _ z => nomatch z)
  have ec9 := keep g69 oA6 ec6 (fun _ _ _ z => nomatch z)
  have dh9 := dh6.keep (kT g69 oA6)
  have dc9 := dc6.keep (kT g69 oA6)
  have ekh9 := keep g69 oA6 ekh6 (fun _ _ _ z => nomatch z)
  have ekc9 := keep g69 oA6 ekc6 (fun _ _ _ z => nomatch z)
  have ehs9 := keep ((Fx.of u9).trans gA9) oA8 ehs8 (fun _ _ _ z => nomatch z)
  have ecs9 := keep ((Fx.of u9).trans gA9) oA8 ecs8 (fun _ _ _ z => nomatch z)
  have efm9 := keep gA9 oB9 efm (fun _ _ _ z => nomatch z)
  have hclen : (firstS (lpCycle (runL code))).length ≤ 100000 := Nat.le_trans (firstS_len _) (Nat.le_trans (lpCycle_len _) hlen)
  have sl : (fsD (firstS (lpCycle (runL code)))).length = (firstS (lpCycle (runL code))).length := by unfold fsD; rw [List.length_map]
  refine ⟨cs, _, ecs9, trivial, fun od => ?_⟩
  -- the dict is locked
  have nlc : ls ≠ cs := fun z => by rw [← z, oA9] at ecs9; cases ecs9
  have nfc : fm ≠ cs := fun z => ne_of_none ecs8 nfm z.symm
  have oL : (upd A9 cs (.frz od (.dK (fsD (firstS (lpCycle (runL code))))))) ls = some (.ins C dx (lsF hd cy (lpPer (runL code)) (lpShift (runL code)) kh kc hs cs fm)) := by rw [upd_ne nlc]; exact oA9
  have eL : (upd A9 cs (.frz od (.dK (fsD (firstS (lpCycle (runL code))))))) cs = some (.frz od (.dK (fsD (firstS (lpCycle (runL code)))))) := upd_same
  have fL : (upd A9 cs (.frz od (.dK (fsD (firstS (lpCycle (runL code))))))) fm = some (.dK []) := by rw [upd_ne nfc]; exact efm9
  have kL : Fx [cs] A9 (upd A9 cs (.frz od (.dK (fsD (firstS (lpCycle (runL code))))))) := Fx.upd (by simp)
  generalize upd A9 cs (.frz od (.dK (fsD (firstS (lpCycle (runL code)))))) = L1 at oL eL fL kL ⊢
  refine ⟨_, rfl, ls, C, dx, _, _, rfl, oL, N.cl, N.nCs, rfl, cs, od, _, rfl, eL, ?_⟩
  refine for_it walk_items (fun i σ Hx => ∃ (s6 s7 : Option V) (kvs : List (Key × V)) (la : List Addr), σ = [some (.ref ls), some (.ref a), some (.ref hd), some (.ref cy), some (.int (lpPer (runL code))), some (.int (lpShift (runL code))), s6, s7] ∧ Fx [fm] L1 Hx ∧ Hx fm = some (.dK kvs) ∧ FamR K Hx kvs (famS (lpShift (runL code)) ((firstS (lpCycle (runL code))).take i)) la ∧ ∀ a ∈ la, L1 a = none)
    ⟨none, none, [], [], rfl, fun p o _ e => e, fL, .nil, fun a m => nomatch m⟩ (fun i σ Hx _ ⟨_, _, _, _, _, fx, _⟩ => fx _ _ (by simp; exact fun z => nfc z.symm) eL) ?_ ?_
  · rintro i x σ Hx Hy hi ⟨s6, s7, kvs, la, rfl, fx, efx, fam, nla⟩ ⟨T, y, z, rfl, nT, rfl, hy, hz⟩
    rw [sl] at hi
    have er : (firstS (lpCycle (runL code)))[i]? = some (firstS (lpCycle (runL code)))[i] := List.getElem?_eq_getElem hi
    generalize (firstS (lpCycle (runL code)))[i] = r at er
    have hkv : (fsD (firstS (lpCycle (runL code))))[i]? = some (Sum.inl r.1, .int r.2) := by unfold fsD; rw [List.getElem?_map, er]; rfl
    dsimp only at hy hz
    rw [hkv] at hy hz
    have ey : y = .int r.1 := by injection hy with hy; exact hy.symm
    have ez : z = .int r.2 := by injection hz with hz; exact hz.symm
    subst ey ez
    have uT := same_new nT (.tup [.int r.1, .int r.2])
    have eT : (upd Hx T (.tup [.int r.1, .int r.2])) T = some (.tup [.int r.1, .int r.2]) := upd_same
    generalize upd Hx T (.tup [.int r.1, .int r.2]) = Hy at uT eT ⊢
    have oy : Hy ls = some (.ins C dx (lsF hd cy (lpPer (runL code)) (lpShift (runL code)) kh kc hs cs fm)) := uT _ _ (fx _ _ (by simp; exact fun z => by rw [z] at oL; rw [fL] at oL; cases oL) oL)
    refine ⟨T, _, rfl, SqT.of eT, rfl, _, _, rfl, _, _, rfl, rfl, ?_⟩
    have fam1 := fam.keep (KeepR.of uT) (fun a _ o e => uT _ _ e)
    have efy := uT _ _ efx
    refine ⟨_, rfl, ls, C, dx, _, _, rfl, oy, N.cl, N.nFm, rfl, fm, rfl, .inl ⟨_, .inl efy⟩, _, rfl, ls, dx, _, rfl, oy, rfl, _, rfl, ls, dx, _, (lpShift (runL code)), r.1, rfl, oy, rfl, (by show 0 ≤ sizeLine; decide), fun l nl => ?_⟩
    have ul := same_new nl (.lst [])
    have el : (upd Hy l (.lst [])) l = some (.lst []) := upd_same
    have hkl : kvs.length < sizeLine := by
      have h1 := fam.len
      have h2 := famS_len (lpShift (runL code)) ((firstS (lpCycle (runL code))).take i)
      rw [List.length_take] at h2
      exact Nat.lt_of_le_of_lt (by omega : _ ≤ 100000) (by decide)
    generalize upd Hy l (.lst []) = Hz at ul el ⊢
    have efz := ul _ _ efy
    have fam2 := fam1.keep (KeepR.of ul) (fun a _ o e => ul _ _ e)
    have fxz : Fx [fm] L1 Hz := fx.trans (Fx.of (uT.trans ul))
    have hall := famS_all (lpShift (runL code)) ((firstS (lpCycle (runL code))).take i)
    rw [List.length_take] at hall
    have nLl : L1 l = none := by
      cases zz : L1 l with
      | none => rfl
      | some o =>
        by_cases c : l = fm
        · rw [c, efy] at nl; cases nl
        · have := uT _ _ (fx l o (by simp; exact c) zz)
          rw [nl] at this; cases this
    have nlla : l ∉ la := fun m => by
      obtain ⟨xs', e'⟩ := fam1.there l m
      rw [nl] at e'; cases e'
    refine ⟨kvs, Sum.inl (famZ (lpShift (runL code)) r.1), efz, rfl, hkl, fun v hv => ?_, fun hv => ?_⟩
    · rcases fam2.look (famZ (lpShift (runL code)) r.1) with ⟨h1, _⟩ | ⟨l', xs', rows', h1, h2, h3, h4, h5, h6⟩
      · rw [h1] at hv; cases hv
      rw [h1] at hv
      have ev : v = .ref l' := by injection hv with hv; exact hv.symm
      subst ev
      refine ⟨.inl ⟨rfl, _, SqL.of h4⟩, _, rfl, _, rfl, (by show 2 ≤ sizeLine; decide), fun rp nrp => ?_⟩
      have dr := new_tup (K := K) (xs := [.int r.2, .int r.1]) nrp (.cons (.int r.2) (.cons (.int r.1) .nil))
      have ur := same_new nrp (.tup [.int r.2, .int r.1])
      generalize upd Hz rp (.tup [.int r.2, .int r.1]) = Hw at dr ur ⊢
      have hl := dpAll_len h5
      rw [List.length_map] at hl
      refine ⟨l', xs', _, rfl, rfl, ur _ _ h4, ?_, ?_⟩
      · rw [hl]; exact Nat.lt_of_le_of_lt (by omega : _ ≤ 100000) (by decide)
      have fam3 := (fam2.keep (KeepR.of ur) (fun a _ o e => ur _ _ e)).app (r := (r.2, r.1)) dr h1 xs' (ur _ _ h4)
      have nlf : fm ≠ l' := fun z => by rw [← z, efz] at h4; cases h4
      refine ⟨_, _, kvs, la, rfl, ?_, ?_, ?_, nla⟩
      · intro p o np e
        have np' : p ≠ l' := fun z => by rw [z, nla _ h2] at e; cases e
        rw [upd_ne np']
        exact ur _ _ (fxz p o np e)
      · rw [upd_ne nlf]; exact ur _ _ efz
      · rw [take_snoc er, famS_snoc]
        exact fam3
    · have hfz : Fx [fm] Hz (upd Hz fm (.dK (putK kvs (Sum.inl (famZ (lpShift (runL code)) r.1)) (.ref l)))) := Fx.upd (by simp)
      have nlf : l ≠ fm := fun z => by rw [z, efz] at el; cases el
      have el2 : (upd Hz fm (.dK (putK kvs (Sum.inl (famZ (lpShift (runL code)) r.1)) (.ref l)))) l = some (.lst []) := by rw [upd_ne nlf]; exact el
      have ef2 : (upd Hz fm (.dK (putK kvs (Sum.inl (famZ (lpShift (runL code)) r.1)) (.ref l)))) fm = some (.dK (kvs ++ [(Sum.inl (famZ (lpShift (runL code)) r.1), .ref l)])) := by rw [upd_same, putK_new _ hv]
      have kr2 : KeepR Hz (upd Hz fm (.dK (putK kvs (Sum.inl (famZ (lpShift (runL code)) r.1)) (.ref l)))) := KeepR.upd efz (fun _ z => nomatch z) (fun _ _ z => nomatch z)
      generalize upd Hz fm (.dK (putK kvs (Sum.inl (famZ (lpShift (runL code)) r.1)) (.ref l))) = Hv at hfz el2 ef2 kr2 ⊢
      refine ⟨.inl ⟨rfl, _, SqL.of el2⟩, _, rfl, _, rfl, (by show 2 ≤ sizeLine; decide), fun rp nrp => ?_⟩
      have dr := new_tup (K := K) (xs := [.int r.2, .int r.1]) nrp (.cons (.int r.2) (.cons (.int r.1) .nil))
      have ur := same_new nrp (.tup [.int r.2, .int r.1])
      generalize upd Hv rp (.tup [.int r.2, .int r.1]) = Hw at dr ur ⊢
      refine ⟨l, [], _, rfl, rfl, ur _ _ el2, (by show 0 < sizeLine; decide), ?_⟩
      have kr3 : KeepR Hw (upd Hw l (.lst ([] ++ [.ref rp]))) := KeepR.t (KeepT.upd ⟨_, ur _ _ el2⟩)
      have fam3 : FamR K (upd Hw l (.lst ([] ++ [.ref rp]))) kvs (famS (lpShift (runL code)) ((firstS (lpCycle (runL code))).take i)) la := fam2.keep ((kr2.trans (KeepR.of ur)).trans kr3) (fun a ma o e => by
        rw [upd_ne (fun z => nlla (by rw [← z]; exact ma))]
        exact ur _ _ (hfz a o (by
          simp
          intro z
          obtain ⟨xs', e'⟩ := fam2.there a ma
          rw [z, efz] at e'
          cases e') e))
      refine ⟨_, _, kvs ++ [(Sum.inl (famZ (lpShift (runL code)) r.1), .ref l)], la ++ [l], rfl, ?_, ?_, ?_, ?_⟩
      · intro p o np e
        have np' : p ≠ l := fun z => by rw [z, nLl] at e; cases e
        rw [upd_ne np']
        exact ur _ _ (hfz p o np (fxz p o np e))
      · rw [upd_ne (fun z => nlf z.symm)]; exact ur _ _ ef2
      · rw [take_snoc er, famS_snoc]
        exact fam3.new (row_move kr3 dr) upd_same nlla hv
      · intro a ma
        rcases List.mem_append.mp ma with ma | ma
        · exact nla a ma
        · rw [List.mem_singleton.mp ma]; exact nLl
  · rintro σ Hx ⟨s6, s7, kvs, la, rfl, fx, efx, fam, nla⟩
    rw [sl, List.take_length] at fam
    have ecx := fx _ _ (by simp; exact fun z => nfc z.symm) eL
    refine ⟨ecx, ?_⟩
    have kr : KeepR Hx (upd Hx cs (.dK (fsD (firstS (lpCycle (runL code)))))) := KeepR.upd ecx (fun _ z => nomatch z) (fun _ _ z => nomatch z)
    have famU : FamR K (upd Hx cs (.dK (fsD (firstS (lpCycle (runL code)))))) kvs (famS (lpShift (runL code)) (firstS (lpCycle (runL code)))) la := fam.keep kr (fun a ma o e => by
      rw [upd_ne (fun z => by
        obtain ⟨xs', e'⟩ := fam.there a ma
        rw [z, ecx] at e'
        cases e')]
      exact e)
    -- what stood ahead of the loop stands behind it
    have back : ∀ {p : Addr} {o : HO}, A9 p = some o → p ≠ fm → (upd Hx cs (.dK (fsD (firstS (lpCycle (runL code)))))) p = some o := fun {p o} e n1 => by
      by_cases c : p = cs
      · subst c
        rw [upd_same, ← e, ecs9]
      · rw [upd_ne c]
        exact fx p o (by simp; exact n1) (kL p o (by simp; exact c) e)
    have efU : (upd Hx cs (.dK (fsD (firstS (lpCycle (runL code)))))) fm = some (.dK kvs) := by rw [upd_ne nfc]; exact efx
    have bk : ∀ {p : Addr} {o : HO}, A9 p = some o → (∀ kv, o ≠ .dK kv) → (upd Hx cs (.dK (fsD (firstS (lpCycle (runL code)))))) p = some o := fun {p o} e n => back e (fun z => by rw [z, efm9] at e; injection e with e; exact n _ e.symm)
    have kU : KeepT A9 (upd Hx cs (.dK (fsD (firstS (lpCycle (runL code)))))) := ⟨fun x l e => bk e (fun _ z => nomatch z), fun x o u e => bk e (fun _ z => nomatch z)⟩
    have nAf : H fm = none := by
      cases zz : H fm with
      | none => rfl
      | some o =>
        by_cases c : fm = ls
        · rw [c, oA8] at nfm; cases nfm
        · have := fA8 fm o (by simp; exact c) zz
          rw [nfm] at this; cases this
    have newL : ∀ {p : Addr} {o : HO}, A9 p = some o → p ≠ cs → p ∉ la := fun {p o} e n m => by
      have h1 := nla p m
      have h2 := kL p o (by simp; exact n) e
      rw [h1] at h2; cases h2
    have hcs : ∀ {p : Addr} {l : List V}, A9 p = some (.lst l) → p ≠ cs := fun {p l} e z => by rw [z, ecs9] at e; cases e
    refine q _ (fun p o np e => ?_) ⟨dx, hd, cy, kh, kc, hs, cs, fm, xs, ys, kvs, la, bk oA9 (fun _ z => nomatch z), bk eh9 (fun _ z => nomatch z), bk ec9 (fun _ z => nomatch z), dh9.keep kU, dc9.keep kU, bk ekh9 (fun _ z => nomatch z), bk ekc9 (fun _ z => nomatch z), back ehs9 ?_, upd_same, efU, famU, ?_, ?_, ?_, newL eh9 (hcs eh9), newL ec9 (hcs ec9), hlen⟩
    · exact back (fA9 p o np e) (fun z => by rw [z, nAf] at e; cases e)
    · exact fun z => by
        have h := (Fx.of u8).trans gA8
        have h2 := keep h oA7 ehs7 (fun _ _ _ z => nomatch z)
        rw [z, nfm] at h2
        cases h2
    · exact (s1.trans s2).free nh3
    · exact (s1.trans s2).free nc3
    · exact nhc
end
/-! ### what holds of every walk of a collector -/
def RowsOk (rows : List (Int × Int)) (t ct : Int) : Prop := rows.Pairwise (fun a b => a.1 < b.1) ∧ ∀ r ∈ rows, 1 ≤ r.1 ∧ r.1 ≤ t ∧ 0 ≤ r.2 ∧ r.2 ≤ ct + 15
theorem RowsOk.mono {rows : List (Int × Int)} {t ct t' ct' : Int} (h : RowsOk rows t ct) (h1 : t ≤ t') (h2 : ct ≤ ct') : RowsOk rows t' ct' := ⟨h.1, fun r m => by
  obtain ⟨a, b, c, d⟩ := h.2 r m
  exact ⟨a, by omega, c, by omega⟩⟩
def LFact (T C : Int) : LP → Prop
  | .fin rows => RowsOk rows T C
  | .cyc f c t ct rows => 0 ≤ f ∧ f < t ∧ t ≤ T ∧ 0 ≤ c ∧ c ≤ ct ∧ ct ≤ C ∧ RowsOk rows t ct
theorem grown16 {i : Ins} {a b : Int} (hi : i.ok "collector") (h : in16 a b) : 0 ≤ i.grown a b ∧ i.grown a b ≤ 15 := by
  cases i with
  | grow t => exact tval16 h hi.2
  | _ => exact ⟨Int.le_refl 0, (by decide : (0 : Int) ≤ 15)⟩
theorem rowsOf_ok {i : Ins} {t ct : Int} {s : S3} {rows : List (Int × Int)} (hi : i.ok "collector") (h : in16 s.a s.b) (ht : 0 ≤ t) (hct : 0 ≤ ct) (hr : RowsOk rows t ct) : RowsOk (rows ++ rowsOf t ct s i) (t + i.cost) (ct + i.grown s.a s.b) := by
  have hc := cost_pos hi
  have hg := grown16 hi h
  have hr' := hr.mono (t' := t + i.cost) (ct' := ct + i.grown s.a s.b) (by omega) (by omega)
  cases i with
  | lst d =>
    have hv := tval16 h hi.2
    have e : rowsOf t ct s (.lst d) = [(t + 1, ct + tval s.a s.b d)] := rfl
    have e1 : Ins.cost (.lst d) = 1 := rfl
    have e2 : Ins.grown s.a s.b (.lst d) = 0 := rfl
    rw [e]
    refine ⟨List.pairwise_append.mpr ⟨hr'.1, List.pairwise_singleton _ _, fun a ha b hb => ?_⟩, fun r m => ?_⟩
    · rw [List.mem_singleton.mp hb]
      have := (hr.2 a ha).2.1
      show a.1 < t + 1
      omega
    · rcases List.mem_append.mp m with m | m
      · exact hr'.2 r m
      · rw [List.mem_singleton.mp m, e1, e2]
        exact ⟨by show 1 ≤ t + 1; omega, by show t + 1 ≤ t + 1; omega, by show 0 ≤ ct + tval s.a s.b d; omega, by show ct + tval s.a s.b d ≤ ct + 0 + 15; omega⟩
  | _ =>
    refine (?_ : RowsOk (rows ++ []) _ _)
    rw [List.append_nil]
    exact hr'
theorem loopL_fact {code : List Ins} (hok : ∀ i ∈ code, i.ok "collector") : ∀ (n : Nat) (s : S3) (t ct : Int) (seen : List (S3 × (Int × Int))) (rows : List (Int × Int)), in16 s.a s.b → (∀ e ∈ seen, 0 ≤ e.2.1 ∧ e.2.1 < t ∧ 0 ≤ e.2.2 ∧ e.2.2 ≤ ct) → 0 ≤ t → 0 ≤ ct → RowsOk rows t ct → LFact (t + n * longest) (ct + n * 15) (loopL code n s t ct seen rows)
  | 0, s, t, ct, seen, rows => fun _ _ _ _ hr => hr.mono (by simp) (by simp)
  | n + 1, s, t, ct, seen, rows => fun h hs ht hct hr => by
    have hL : (0 : Int) < longest := by decide
    have hn : ((n + 1 : Nat) : Int) * longest = (n : Int) * longest + longest := by rw [Int.natCast_add, Int.add_mul]; simp
    have hn2 : (0 : Int) ≤ (n : Int) * longest := Int.mul_nonneg (Int.natCast_nonneg _) (Int.le_of_lt hL)
    rw [loopL_eq]
    cases el : lookL s seen with
    | some fc =>
      have hm : ∃ e ∈ seen, e.2 = fc := by
        unfold lookL at el
        rw [Option.map_eq_some_iff] at el
        obtain ⟨e, he, hf⟩ := el
        exact ⟨e, List.mem_of_find?_eq_some he, hf⟩
      obtain ⟨e, me, rfl⟩ := hm
      obtain ⟨h1, h2, h3, h4⟩ := hs e me
      exact ⟨h1, h2, by rw [hn]; omega, h3, h4, by omega, hr⟩
    | none =>
      dsimp only
      cases ec : code[s.pc]? with
      | none => exact hr.mono (by rw [hn]; omega) (by omega)
      | some i =>
        have hi := hok i (List.mem_of_getElem? ec)
        have hc := cost_pos hi
        have hg := grown16 hi h
        have r := loopL_fact hok n (nextL s i) (t + i.cost) (ct + i.grown s.a s.b) (seen ++ [(s, (t, ct))]) (rows ++ rowsOf t ct s i) (held16 hi h) (fun e me => by
          rcases List.mem_append.mp me with me | me
          · obtain ⟨h1, h2, h3, h4⟩ := hs e me
            exact ⟨h1, by omega, h3, by omega⟩
          · rw [List.mem_singleton.mp me]
            exact ⟨ht, by show t < t + i.cost; omega, hct, by show ct ≤ ct + i.grown s.a s.b; omega⟩) (by omega) (by omega) (rowsOf_ok hi h ht hct hr)
        dsimp only
        generalize loopL code n (nextL s i) (t + i.cost) (ct + i.grown s.a s.b) (seen ++ [(s, (t, ct))]) (rows ++ rowsOf t ct s i) = R at r ⊢
        cases R with
        | fin rs => exact RowsOk.mono r (by rw [hn]; omega) (by omega)
        | cyc f c t' ct' rs =>
          obtain ⟨h1, h2, h3, h4, h5, h6, h7⟩ := r
          exact ⟨h1, h2, by rw [hn]; omega, h4, h5, by omega, h7⟩
/-- the bounds of a listing -/
structure LpOk (L : LP) : Prop where
  per : lpCycle L ≠ [] → 0 < lpPer L
  per0 : 0 ≤ lpPer L
  perB : lpPer L < 2 ^ 200
  sh0 : 0 ≤ lpShift L
  shB : lpShift L < 2 ^ 200
  rows : ∀ r ∈ lpRows L, 1 ≤ r.1 ∧ r.1 < 2 ^ 200 ∧ 0 ≤ r.2 ∧ r.2 < 2 ^ 200
  srt : (lpRows L).Pairwise fun a b => a.1 < b.1
theorem runL_fact {code : List Ins} (hok : ∀ i ∈ code, i.ok "collector") : LFact (fuel code * longest) (fuel code * 15) (runL code) := by
  have h := loopL_fact hok (fuel code) ⟨0, 0, 0⟩ 0 0 [] [] ⟨⟨by decide, by decide⟩, by decide, by decide⟩ (fun e m => nomatch m) (Int.le_refl 0) (Int.le_refl 0) ⟨List.Pairwise.nil, fun r m => nomatch m⟩
  rw [Int.zero_add, Int.zero_add] at h
  exact h
theorem runL_ok {code : List Ins} (hok : ∀ i ∈ code, i.ok "collector") (hcl : code.length ≤ 100) : LpOk (runL code) := by
  have h := runL_fact hok
  have hf : ((fuel code : Nat) : Int) ≤ 25601 := by unfold fuel; omega
  have hT : ((fuel code : Nat) : Int) * longest ≤ 25601 * longest := Int.mul_le_mul_of_nonneg_right hf (by decide)
  have hB : (25601 : Int) * longest + 25601 * 15 + 15 < 2 ^ 200 := by decide +kernel
  have hL : (0 : Int) < longest := by decide
  have hC : ((fuel code : Nat) : Int) * 15 ≤ 25601 * 15 := by omega
  have h0 : (0 : Int) ≤ (fuel code : Nat) * longest := Int.mul_nonneg (Int.natCast_nonneg _) (Int.le_of_lt hL)
  cases e : runL code with
  | fin rows =>
    rw [e] at h
    refine ⟨fun z => absurd rfl z, Int.le_refl 0, by show (0 : Int) < 2 ^ 200; decide +kernel, Int.le_refl 0, by show (0 : Int) < 2 ^ 200; decide +kernel, fun r m => ?_, h.1⟩
    obtain ⟨h1, h2, h3, h4⟩ := h.2 r m
    exact ⟨h1, by omega, h3, by omega⟩
  | cyc f c t ct rows =>
    rw [e] at h
    obtain ⟨h1, h2, h3, h4, h5, h6, h7⟩ := h
    refine ⟨fun _ => by show 0 < t - f; omega, by show 0 ≤ t - f; omega, by show t - f < 2 ^ 200; omega, by show 0 ≤ ct - c; omega, by show ct - c < 2 ^ 200; omega, fun r m => ?_, h7.1⟩
    obtain ⟨g1, g2, g3, g4⟩ := h7.2 r m
    exact ⟨g1, by omega, g3, by omega⟩
theorem head_mem {L : LP} {r : Int × Int} (m : r ∈ lpHead L) : r ∈ lpRows L := by
  cases L with
  | fin rows => exact m
  | cyc f c t ct rows => exact (List.mem_filter.mp m).1
theorem cycle_mem {L : LP} {r : Int × Int} (m : r ∈ lpCycle L) : r ∈ lpRows L := by
  cases L with
  | fin rows => exact nomatch m
  | cyc f c t ct rows => exact (List.mem_filter.mp m).1
/-! ### until -/
abbrev sUnt : Stmt := inClass (top 53) 3
abbrev sRU : Stmt := inClass (top 53) 4
abbrev nsU : List Str := ["self", "age", "rows", "step", "integer", "times", "row"]
def roundsU (per step age : Int) : Int := if age < step then 0 else (age - step) / per + 1
def roundRows (per sh : Int) (r : Int × Int) (n : Nat) : List (Int × Int) := (List.range n).map fun t => (r.1 + (t : Nat) * per, r.2 + (t : Nat) * sh)
def rawU (L : LP) (age : Int) : List (Int × Int) := (lpHead L).filter (fun r => decide (r.1 ≤ age)) ++ (lpCycle L).flatMap fun r => roundRows (lpPer L) (lpShift L) r (roundsU (lpPer L) r.1 age).toNat
def cntU (L : LP) (age : Int) : Int := (((lpHead L).filter (fun r => decide (r.1 ≤ age))).length : Nat) + ((lpCycle L).map fun r => roundsU (lpPer L) r.1 age).sum
def srtP (rows : List (Int × Int)) : Prop := rows.Pairwise fun x y => SrtO.lexB y x = false
def spRU (K : PySem.W.Frag) (C : Addr) : Sp := fun vs H Q _ => ∃ (ls dx : Addr) (fs : List (Str × V)) (per step age : Int), vs = [.ref ls, .int step, .int age] ∧ H ls = some (.ins C dx fs) ∧ fs.lookup ("period" : Str) = some (.int per) ∧ 0 < per ∧ per < 2 ^ 200 ∧ Q (.int (roundsU per step age)) H
def spUnt (K : PySem.W.Frag) (C : Addr) : Sp := fun vs H Q _ => ∃ (ls : Addr) (H0 : Hp) (L : LP) (age : Int), vs = [.ref ls, .int age] ∧ LsO K H0 H C ls L ∧ LpOk L ∧ 0 ≤ age ∧ cntU L age ≤ 1000 ∧
  ∀ H' D ys rows, Same H H' → H D = none → H' D = some (.lst ys) → RowsAt H' ys rows → rows.Perm (rawU L age) → srtP rows → Q (.ref D) H'
theorem roundsU_nn {per step age : Int} (hp : 0 < per) : 0 ≤ roundsU per step age := by
  unfold roundsU
  split
  · exact Int.le_refl 0
  · have := Int.ediv_nonneg (show 0 ≤ age - step by omega) (Int.le_of_lt hp)
    omega
/-- the two ints of a tuple -/
def keyV (H : Hp) : V → Int × Int
  | .ref t => match H t with
    | some (.tup [.int i, .int j]) => (i, j)
    | _ => (0, 0)
  | _ => (0, 0)
theorem keyV_at {H : Hp} {t : Addr} {i j : Int} (h : H t = some (.tup [.int i, .int j])) : keyV H (.ref t) = (i, j) := by
  unfold keyV
  simp only [h]
theorem RowsAt.keys {H : Hp} : ∀ {xs : List V} {rows : List (Int × Int)}, RowsAt H xs rows → xs.map (keyV H) = rows
  | _, _, .nil => rfl
  | _, _, .cons e h => by rw [List.map_cons, keyV_at e, h.keys]
theorem RowsAt.of_keys {H : Hp} : ∀ {ys : List V}, (∀ y ∈ ys, ∃ t, y = .ref t ∧ H t = some (.tup [.int (keyV H y).1, .int (keyV H y).2])) → RowsAt H ys (ys.map (keyV H))
  | [], _ => .nil
  | y :: ys, h => by
    obtain ⟨t, rfl, e⟩ := h y (List.mem_cons_self ..)
    exact .cons e (RowsAt.of_keys fun z m => h z (List.mem_cons_of_mem _ m))
theorem RowsAt.tups {H : Hp} {xs : List V} {rows : List (Int × Int)} (h : RowsAt H xs rows) : ∀ x ∈ xs, ∃ t, x = V.ref t ∧ H t = some (.tup [.int (keyV H x).1, .int (keyV H x).2]) := fun x m => by
  obtain ⟨p, r, rfl, _, e⟩ := h.mem m
  exact ⟨p, rfl, by rw [keyV_at e]; exact e⟩
/-- sorted of rows -/
theorem rows_sorted {H : Hp} {xs ys : List V} {rows : List (Int × Int)} (h : RowsAt H xs rows) (hs : SrtO.Srtd (ltP (keyV H)) ys) (hp : ys.Perm xs) : RowsAt H ys (ys.map (keyV H)) ∧ (ys.map (keyV H)).Perm rows ∧ srtP (ys.map (keyV H)) := by
  refine ⟨RowsAt.of_keys fun y m => h.tups y (hp.mem_iff.mp m), ?_, List.pairwise_map.mpr hs⟩
  have := hp.map (keyV H)
  rwa [h.keys] at this
theorem flat_len {per sh : Int} (age : Int) : ∀ rs : List (Int × Int), (∀ r ∈ rs, 0 < per) → ((rs.flatMap fun r => roundRows per sh r (roundsU per r.1 age).toNat).length : Int) = (rs.map fun r => roundsU per r.1 age).sum
  | [], _ => rfl
  | r :: t, h => by
    rw [List.flatMap_cons, List.length_append, List.map_cons, List.sum_cons, Int.natCast_add, flat_len age t (fun x m => h x (List.mem_cons_of_mem _ m))]
    unfold roundRows
    rw [List.length_map, List.length_range, Int.toNat_of_nonneg (roundsU_nn (h r (List.mem_cons_self ..)))]
theorem roundRows_succ (per sh : Int) (r : Int × Int) (n : Nat) : roundRows per sh r (n + 1) = roundRows per sh r n ++ [(r.1 + (n : Nat) * per, r.2 + (n : Nat) * sh)] := by
  unfold roundRows
  rw [List.range_succ, List.map_append]
  rfl
theorem sum_nn {f : Int × Int → Int} : ∀ rs : List (Int × Int), (∀ r ∈ rs, 0 ≤ f r) → 0 ≤ (rs.map f).sum
  | [], _ => Int.le_refl 0
  | r :: t, h => by
    rw [List.map_cons, List.sum_cons]
    have h1 := h r (List.mem_cons_self ..)
    have h2 := sum_nn t fun x m => h x (List.mem_cons_of_mem _ m)
    omega
theorem sum_mem {f : Int × Int → Int} : ∀ rs : List (Int × Int), (∀ r ∈ rs, 0 ≤ f r) → ∀ r ∈ rs, f r ≤ (rs.map f).sum
  | [], _, r, m => nomatch m
  | a :: t, h, r, m => by
    rw [List.map_cons, List.sum_cons]
    have h1 := h a (List.mem_cons_self ..)
    have h2 := sum_nn t fun x m => h x (List.mem_cons_of_mem _ m)
    rcases List.mem_cons.mp m with rfl | m
    · omega
    · have := sum_mem t (fun x m => h x (List.mem_cons_of_mem _ m)) r m
      omega
theorem rawU_len {L : LP} (hL : LpOk L) (age : Int) : ((rawU L age).length : Int) = cntU L age := by
  unfold rawU cntU
  rw [List.length_append, Int.natCast_add, flat_len age _ (fun r m => hL.per (fun z => by rw [z] at m; exact nomatch m))]
section
variable {P : Program} {w : World} {K : PySem.W.Frag} {mg : Str → Option Value} {base : Heap}
theorem scRU : FnScope ["self", "step", "age"] ["self", "step", "age"] (defScope sRU) := ⟨rfl, rfl, rfl, by decide +kernel, rfl, by decide +kernel, by decide +kernel⟩
theorem ok_RU {f C : Addr} {fd : FuncData} (F : Fun K "rounds_until" "Listing.rounds_until" sRU f fd) (N : LNo K C) : FnOk P w K mg base CX0 1 f fd ["self", "step", "age"] (spRU K C) := by
  refine F.ok scRU (fun vs H Q E h => ?_) (fun cdv A outer s H vs Q E hr h => ?_)
  · obtain ⟨ls, dx, fs, per, step, age, rfl, _⟩ := h
    rfl
  obtain ⟨ls, dx, fs, per, step, age, rfl, ho, hl, hp, hpB, q⟩ := h
  refine ⟨_, pss_one (ps_ret (pe_ifExp (pt_cmpR op_lt (pv 2) (pv 1) (nomark _)) pe_int (pe_op op_add (pe_op op_fdivW (pe_op op_sub (pv 2) (pv 1)) (pe_fld (pv 0) rfl)) pe_int))), ?_⟩
  refine ⟨_, rfl, _, rfl, _, _, rfl, rfl, _, rfl, ?_⟩
  unfold roundsU at q
  by_cases c : age < step
  · rw [if_pos c] at q
    refine ite2 (fun _ => q) (fun c' => absurd (decide_eq_true c) c')
  · rw [if_neg c] at q
    refine ite2 (fun c' => absurd (of_decide_eq_true c') c) (fun _ => ?_)
    refine ⟨_, rfl, _, rfl, _, _, rfl, rfl, _, rfl, ls, C, dx, fs, _, rfl, ho, N.cl, N.nPe, hl, _, _, rfl, rfl, wide_div hp (b := 200) (by omega) (by decide) (by decide), _, _, rfl, rfl, q⟩
end
theorem flat_take_len {f : Int × Int → List (Int × Int)} (rs : List (Int × Int)) (i : Nat) : ((rs.take i).flatMap f).length ≤ (rs.flatMap f).length := by
  have h : (rs.flatMap f).length = ((rs.take i).flatMap f).length + ((rs.drop i).flatMap f).length := by
    rw [← List.length_append, ← List.flatMap_append, List.take_append_drop]
  omega
section
variable {P : Program} {w : World} {K : PySem.W.Frag} {mg : Str → Option Value} {base : Heap}
theorem scU : FnScope nsU ["self", "age"] (defScope sUnt) := ⟨rfl, rfl, rfl, by decide +kernel, rfl, by decide +kernel, by decide +kernel⟩
theorem ok_Unt {f C : Addr} {fd : FuncData} {tML : Tok} (F : Fun K "until" "Listing.until" sUnt f fd) (T : Gs K mg) (T2 : G2 mg) (ms : mg "sum" = none) (mo : mg "sorted" = none) (mm : mg "MOST_LISTED" = some (.int 1000 tML)) (N : LNo K C) (CF : Cal P w K mg base 1 "is_integer_from" ["thing", "least"] (spFrom K)) (MR : MCal P w K mg base 1 C "rounds_until" ["self", "step", "age"] (spRU K C)) :
    FnOk P w K mg base CX0 2 f fd ["self", "age"] (spUnt K C) := by
  refine F.ok scU (fun vs H Q E h => ?_) (fun cdv A outer s H vs Q E hr h => ?_)
  · obtain ⟨ls, H0, L, age, rfl, _⟩ := h
    rfl
  obtain ⟨ls, H0, L, age, rfl, hls, hL, hage, hcnt, q⟩ := h
  obtain ⟨dx, hd, cy, kh, kc, hs, cs, fm, xs, ys, kvs, la, ho, eh, ec, dh, dc, ekh, ekc, _, _, _, _, _, _, _, _, _, hlen⟩ := hls.ex
  refine ⟨_, PSs.nox (pss_cons (ps_if (pt_not (pt_val (pe_call CF.G hr rfl CF.m CF.kp CF.b .nil pass0 (pa_cons (pv 1) (pa_cons pe_int pa_nil))))) (pss_one ps_never) pss_nil)
    (pss_cons (ps_setLc (i := 2) (own := [("row", 6)]) (g := gName 6) rfl scU.nd rfl rfl (sw_true rfl rfl rfl (by decide +kernel)) (pi_tup (pe_fld (pv 0) rfl)) (blkOk_by (N := nsU) (sc := defScope sUnt) (by decide +kernel))
        (fun _ _ _ _ _ => pg_name (i := 6) scU.nd rfl (.inl rfl)) (fun _ _ _ _ _ => (pts_one (pt_cmpR op_le (pe_ix (r := rIxT K) ix_tup (pv 6) pe_int (fun _ _ => rfl)) (pv 1) (nomark _)))) (fun _ _ _ _ _ => pv 6))
    (pss_cons (ps_if (pt_cmpR op_gt (pe_op op_add (pe_callB call_len_seq (by rfl) T.len PySem.boot_len (pa_cons (pv 2) pa_nil)) (pe_callB (cr_sum rfl) (by rfl) ms (by decide +kernel) (pa_cons
        (pe_lc (own := [("step", 3), ("integer", 4)]) (g := gTup K 2 (gCons (gName 3) (gCons (gName 4) gNil))) (tt := tYes) rfl scU.nd (pi_tup (pe_fld (pv 0) rfl)) (blkOk_by (N := nsU) (sc := defScope sUnt) (by decide +kernel))
          (fun _ _ _ _ _ => pg_tup (by rfl) (pgs_cons (pg_name (i := 3) scU.nd rfl (.inl rfl)) (pgs_cons (pg_name (i := 4) scU.nd rfl (.inl rfl)) pgs_nil)))
          (fun _ _ _ _ _ => pts_nil)
          (fun _ _ _ _ _ => pe_meth (pv 0) N.cl MR.m MR.G hr MR.b .nil pass0 (pa_cons (pv 3) (pa_cons (pv 1) pa_nil)))) pa_nil))) (pe_gint rfl mm) (nomark _)) (pss_one ps_never) pss_nil)
    (pss_cons (ps_for PassesOwn.never rfl (pi_tup (pe_fld (pv 0) rfl)) (pg_tup (by rfl) (pgs_cons (pg_name (i := 3) scU.nd rfl (.inl rfl)) (pgs_cons (pg_name (i := 4) scU.nd rfl (.inl rfl)) pgs_nil)))
      (pss_one (ps_for PassesOwn.never rfl (pi_range1 (by rfl) T2.range (pa_cons (pe_meth (pv 0) N.cl MR.m MR.G hr MR.b .nil pass0 (pa_cons (pv 3) (pa_cons (pv 1) pa_nil))) pa_nil)) (pg_name (i := 5) scU.nd rfl (.inl rfl))
        (pss_one (ps_expr (pe_bm PySem.F.plainAttrs_list PySem.F.slot_list_append PySem.F.type_list_append mt_append (pv 2) (pa_cons (pe_tup (pa_cons (pe_op op_add (pv 3) (pe_op op_mul (pv 5) (pe_fld (pv 0) rfl))) (pa_cons (pe_op op_add (pv 4) (pe_op op_mul (pv 5) (pe_fld (pv 0) rfl))) pa_nil))) pa_nil)))))))
    (pss_one (ps_ret (pe_callB cr_sortedPO (by rfl) mo (by decide +kernel) (pa_cons (pv 2) pa_nil)))))))), ?_⟩
  refine ⟨_, rfl, _, .int age, 0, rfl, .int age, _, rfl, ?_⟩
  have e0 : intFrom (.int age) 0 = true := decide_eq_true hage
  rw [e0]
  refine iteF ?_
  have hhl : (lpHead L).length ≤ 100000 := Nat.le_trans (lpHead_len L) hlen
  refine ⟨_, rfl, ls, C, dx, _, _, rfl, ho, N.cl, N.nKh, rfl, kh, rfl, ⟨_, SqT.of ekh⟩, fun D nD => lc_rowsW (walk_tup (K := K) (a := kh) (xs := xs)) (rows := lpHead L) (φ := fun r => decide (r.1 ≤ age)) (fun Hx sx => SqT.of (sx _ _ ekh)) (fun _ => ⟨rfl, rfl⟩) (fun p r Hx Qx sx hp qx => ⟨_, rfl, p, _, _, _, rfl, rfl, SqT.of hp, atI_nat (j := 0) rfl, _, rfl, _, _, rfl, rfl, _, rfl, qx⟩) dh hhl nD (fun H1 rs u1 e1 d1 => ?_)⟩
  have ho1 := u1 _ _ ho
  have ekc1 := u1 _ _ ekc
  have dc1 := dc.keep (KeepT.of u1)
  have hcl : (lpCycle L).length ≤ 100000 := Nat.le_trans (lpCycle_len L) hlen
  have hper : ∀ r ∈ lpCycle L, 0 < lpPer L := fun r m => hL.per (fun z => by rw [z] at m; exact nomatch m)
  have hnn : ∀ r ∈ lpCycle L, 0 ≤ roundsU (lpPer L) r.1 age := fun r m => roundsU_nn (hper r m)
  have hsum := sum_nn (f := fun r => roundsU (lpPer L) r.1 age) (lpCycle L) hnn
  have hfl := flat_len (sh := lpShift L) age (lpCycle L) hper
  unfold cntU at hcnt
  refine ⟨_, rfl, D, rs, rfl, .inl (SqL.of e1), _, rfl, ls, C, dx, _, _, rfl, ho1, N.cl, N.nKc, rfl, kc, rfl, ⟨_, SqT.of ekc1⟩, fun G nG => lc_it (walk_tup (K := K) (a := kc) (xs := ys)) (fun i Hx => Same H1 Hx ∧ Hx G = some (.lst ((((lpCycle L).take i).map fun r => roundsU (lpPer L) r.1 age).map V.int))) ⟨same_new nG _, upd_same⟩ (fun i Hx _ ⟨sx, _⟩ => SqT.of (sx _ _ ekc1)) ?_ ?_⟩
  · rintro i v Hx Hy hi ⟨sx, eG⟩ ⟨rfl, hv⟩
    obtain ⟨p, r, rfl, er, ep⟩ := dc1.get hv
    have hil : i < (lpCycle L).length := (List.getElem?_eq_some_iff.mp er).1
    have hm := List.mem_of_getElem? er
    refine ⟨p, _, rfl, SqT.of (sx _ _ ep), rfl, _, _, rfl, _, _, rfl, rfl, rfl, ?_⟩
    refine ⟨_, rfl, ls, dx, _, rfl, sx _ _ ho1, rfl, _, rfl, _, rfl, ls, dx, _, lpPer L, r.1, age, rfl, sx _ _ ho1, rfl, hper r hm, hL.perB, _, eG, ?_, same_upd sx nG _, ?_⟩
    · rw [List.length_map, List.length_map, List.length_take]
      exact Nat.lt_of_le_of_lt (by omega : _ ≤ 100000) (by decide)
    · rw [upd_same, take_snoc er, List.map_append, List.map_append]
      rfl
  rintro H2 ⟨u2, eG⟩
  rw [dc1.len, List.take_length] at eG
  refine ⟨G, _, rfl, SqL.of eG, _, _, rfl, rfl, _, _, rfl, rfl, _, rfl, ?_⟩
  have hrl := d1.len
  refine ite2 (fun c => absurd (of_decide_eq_true c) ?_) (fun _ => ?_)
  · show ¬ (1000 : Int) < ((rs.length : Nat) : Int) + _
    rw [hrl]
    omega
  have ho2 := u2 _ _ ho1
  have ekc2 := u2 _ _ ekc1
  have dc2 := dc1.keep (KeepT.of u2)
  have d2 := d1.keep (KeepT.of u2)
  have e2 := u2 _ _ e1
  have nls : ls ≠ D := fun z => by rw [z, nD] at ho; cases ho
  have nkc : kc ≠ D := fun z => by rw [z, nD] at ekc; cases ekc
  have kD : ∀ {Hx : Hp}, Fx [D] H2 Hx → KeepT H2 Hx := fun {Hx} fx => ⟨fun x l e => fx _ _ (by simp; exact fun z => by rw [z, e2] at e; cases e) e, fun x o u e => fx _ _ (by simp; exact fun z => by rw [z, e2] at e; cases e) e⟩
  refine ⟨_, rfl, ls, C, dx, _, _, rfl, ho2, N.cl, N.nKc, rfl, kc, rfl, ⟨_, SqT.of ekc2⟩, for_it (walk_tup (K := K) (a := kc) (xs := ys)) (fun i σ Hx => ∃ (s3 s4 s5 : Option V) (zs : List V), σ = [some (.ref ls), some (.int age), some (.ref D), s3, s4, s5, none] ∧ Fx [D] H2 Hx ∧ Hx D = some (.lst zs) ∧ RowsAt Hx zs ((lpHead L).filter (fun r => decide (r.1 ≤ age)) ++ ((lpCycle L).take i).flatMap fun r => roundRows (lpPer L) (lpShift L) r (roundsU (lpPer L) r.1 age).toNat))
    ⟨none, none, none, rs, rfl, fun p o _ e => e, e2, by rw [List.take_zero, List.flatMap_nil, List.append_nil]; exact d2⟩ (fun i σ Hx _ ⟨_, _, _, _, _, fx, _⟩ => SqT.of (fx _ _ (by simp; exact nkc) ekc2)) ?_ ?_⟩
  · rintro i v σ Hx Hy hi ⟨s3, s4, s5, zs, rfl, fx, eD, dz⟩ ⟨rfl, hv⟩
    obtain ⟨p, r, rfl, er, ep⟩ := dc2.get hv
    have hil : i < (lpCycle L).length := (List.getElem?_eq_some_iff.mp er).1
    have hm := List.mem_of_getElem? er
    have hox := fx _ _ (by simp; exact nls) ho2
    have hR := hnn r hm
    have hRs := sum_mem (f := fun r => roundsU (lpPer L) r.1 age) (lpCycle L) hnn r hm
    refine ⟨p, _, rfl, SqT.of ((kD fx).1 _ _ ep), rfl, _, _, rfl, _, _, rfl, rfl, ?_⟩
    have hB62 : roundsU (lpPer L) r.1 age < 2 ^ 62 := Int.lt_of_le_of_lt (by omega : _ ≤ (1000 : Int)) (by decide)
    refine ⟨_, rfl, ls, dx, _, rfl, hox, rfl, _, rfl, _, rfl, ls, dx, _, lpPer L, r.1, age, rfl, hox, rfl, hper r hm, hL.perB, roundsU (lpPer L) r.1 age, rfl, Int.le_trans (by decide) hR, hB62, ?_⟩
    refine for_range (lo := 0) (n := (roundsU (lpPer L) r.1 age).toNat) (fun j σ Hz => ∃ (s5 : Option V) (zs : List V), σ = [some (.ref ls), some (.int age), some (.ref D), some (.int r.1), some (.int r.2), s5, none] ∧ Fx [D] H2 Hz ∧ Hz D = some (.lst zs) ∧ RowsAt Hz zs ((lpHead L).filter (fun r => decide (r.1 ≤ age)) ++ (((lpCycle L).take i).flatMap fun r => roundRows (lpPer L) (lpShift L) r (roundsU (lpPer L) r.1 age).toNat) ++ roundRows (lpPer L) (lpShift L) r j))
      ⟨s5, zs, rfl, fx, eD, by rw [show roundRows (lpPer L) (lpShift L) r 0 = [] from rfl, List.append_nil]; exact dz⟩ ?_ ?_
    · rintro j σ Hz hj ⟨s5', zs', rfl, fz, eZ, dZ⟩
      have hoz := fz _ _ (by simp; exact nls) ho2
      have hj1 : (j : Int) < 1001 := by omega
      have cm : ∀ y : Int, CMul (0 + (j : Nat)) y := fun y => .inl ⟨by show -(2 ^ 64) < (0 : Int) + (j : Nat); exact Int.lt_of_lt_of_le (by decide) (by omega : (0 : Int) ≤ _), by show (0 : Int) + (j : Nat) < 2 ^ 64; exact Int.lt_trans (by omega : _ < (1001 : Int)) (by decide)⟩
      refine ⟨_, rfl, .inl ⟨rfl, _, SqL.of eZ⟩, _, rfl, _, rfl, _, rfl, ls, C, dx, _, _, rfl, hoz, N.cl, N.nPe, rfl, _, _, rfl, rfl, cm _, _, _, rfl, rfl, _, rfl, _, rfl, _, rfl, ls, C, dx, _, _, rfl, hoz, N.cl, N.nSh, rfl, _, _, rfl, rfl, cm _, _, _, rfl, rfl, (by show 2 ≤ sizeLine; decide), fun rp nrp => ?_⟩
      rw [Int.zero_add]
      have er7 : (upd Hz rp (.tup [.int (r.1 + (j : Nat) * lpPer L), .int (r.2 + (j : Nat) * lpShift L)])) rp = some (.tup [.int (r.1 + (j : Nat) * lpPer L), .int (r.2 + (j : Nat) * lpShift L)]) := upd_same
      have u7 := same_new nrp (.tup [.int (r.1 + (j : Nat) * lpPer L), .int (r.2 + (j : Nat) * lpShift L)])
      generalize upd Hz rp (.tup [.int (r.1 + (j : Nat) * lpPer L), .int (r.2 + (j : Nat) * lpShift L)]) = H7 at er7 u7 ⊢
      refine ⟨D, zs', _, rfl, rfl, u7 _ _ eZ, ?_, ?_⟩
      · have h1 := dZ.len
        have h2 := List.length_filter_le (fun r : Int × Int => decide (r.1 ≤ age)) (lpHead L)
        have h3 := flat_take_len (f := fun r => roundRows (lpPer L) (lpShift L) r (roundsU (lpPer L) r.1 age).toNat) (lpCycle L) i
        have h4 : (roundRows (lpPer L) (lpShift L) r j).length = j := by unfold roundRows; rw [List.length_map, List.length_range]
        rw [List.length_append, List.length_append, h4] at h1
        exact Nat.lt_of_le_of_lt (by omega : _ ≤ 200000) (by decide)
      · have k8 : KeepT H7 (upd H7 D (.lst (zs' ++ [.ref rp]))) := KeepT.upd ⟨_, u7 _ _ eZ⟩
        refine ⟨_, _, rfl, (fz.trans (Fx.of u7)).trans (Fx.upd (by simp)), upd_same, ?_⟩
        rw [roundRows_succ, ← List.append_assoc]
        exact (dZ.keep ((KeepT.of u7).trans k8)).app (.one (k8.1 _ _ er7))
    · rintro σ Hz ⟨s5', zs', rfl, fz, eZ, dZ⟩
      refine ⟨_, _, _, zs', rfl, fz, eZ, ?_⟩
      rw [take_snoc er, List.flatMap_append, List.flatMap_cons, List.flatMap_nil, List.append_nil, ← List.append_assoc]
      exact dZ
  · rintro σ Hx ⟨s3, s4, s5, zs, rfl, fx, eD, dz⟩
    rw [dc2.len, List.take_length] at dz
    refine ⟨_, rfl, D, zs, keyV Hx, rfl, SqL.of eD, dz.tups, fun ws p srt stb np => ?_⟩
    obtain ⟨g1, g2, g3⟩ := rows_sorted dz srt stb.perm
    have sx : Same H Hx := fx.same (u1.trans u2) (fun q mq => by rw [List.mem_singleton.mp mq]; exact nD)
    exact q _ p ws _ (sx.trans (same_new np _)) (sx.free np) upd_same (g1.keep (KeepT.of (same_new np _))) g2 g3
end
end My

namespace NeX
open PySem PySem.Spec PyProof.Rows PySem.SeqAt
section
variable {M : Model} {prog : Program} {w : World} {A : Around} {E : Value → Shared → Prop} {s : Shared} {K : PySem.W.Frag} {x C f : Addr} {b : Value} {ox : Obj} {od : Option Obj}
theorem entry_ne {Q : Fin → Shared → Prop} (hu : A.units < cLine) (X : K.In s.heap) (I : PySem.W.InstAt s.heap x ox C od) (hs : PySem.W.findIn K (.ref C) "__eq__" = some (some (.ref f))) (hf : PySem.W.isFn K (.ref f) = true)
    (hcall : wpAny (model prog w) A (call (.ref f) [.ref x, b]) (fun v s' => ∃ r, v = .bool r ∧ Q (.done (.ret (.bool (!r)))) s') E s) :
    wpAny (model prog w) A (Builtin.«object.__ne__» ⟨[.ref x, b], []⟩) Q E s := by
  unfold Builtin.«object.__ne__»
  repeat (first
    | with_reducible refine wpAny_cRoomFor hu ?_
    | (refine wpAny_bind (m := callSpecialIfBound? (.ref x) (Str.ofString "__eq__") [b])
        (PySem.W.ifBound_K X I hs hf (wpAny_mono hcall (fun r s' hr => by
          obtain ⟨r0, rfl, hq⟩ := hr
          repeat (first | exact hq | exact wpAny_pure hq | exact wpAny_truthy_bool hq | (refine wpAny_bind (m := truthy (.bool _)) (wpAny_truthy_bool ?_)) | wp_step)) fun _ _ e => e)))
    | wp_step)
theorem ifBound_ne {args : List Value} {Q : Option Value → Shared → Prop} (X : K.In s.heap) (I : PySem.W.InstAt s.heap x ox C od) (hs : PySem.W.findIn K (.ref C) "__ne__" = some (some (.builtin "object.__ne__")))
    (h : wpAny M A (call (.builtin "object.__ne__") (.ref x :: args)) (fun v => Q (some v)) E s) : wpAny M A (callSpecialIfBound? (.ref x) "__ne__" args) Q E s := by
  simp only [callSpecialIfBound?, bindSpecialIfBound?]
  refine wpAny_holding (wpAny_bind (wpAny_bind (wpAny_bind (I.type.here ((PySem.W.looks_findIn X hs).here ?_)))))
  refine wpAny_bind (wpAny_askSetting (wpAny_ite ?_))
  have fin : wpAny M A (call (.builtin "object.__ne__") ([.ref x] ++ args) >>= fun v => pure (some v)) Q E s := wpAny_bind (wpAny_mono h (fun v s' h' => wpAny_pure h') fun _ _ h' => h')
  split
  · exact wpAny_bind (wpAny_of_eq (F.cmp_object.ne.bind _) (wpAny_pure (by exact fin)))
  · exact wpAny_tryCatch (wpAny_bind (wpAny_of_eq (F.cmp_object.ne.bind _) (wpAny_pure (by exact fin))))
theorem rc_ne {Q : Value → Shared → Prop} {tb : Value} (hu : A.units + 1 < cLine) (X : K.In s.heap) (I : PySem.W.InstAt s.heap x ox C od) (hb : PySem.W.Looks (model prog w) s.heap (typeOf b) tb) (hnf : PySem.W.notFirst K C tb = true) (hm : PySem.W.mroIn K C (.type "object") = some true)
    (hs : PySem.W.findIn K (.ref C) "__eq__" = some (some (.ref f))) (hf : PySem.W.isFn K (.ref f) = true) (hn : PySem.W.findIn K (.ref C) "__ne__" = some (some (.builtin "object.__ne__")))
    (h : wpAny (model prog w) A.in1 (call (.ref f) [.ref x, b]) (fun v s' => ∃ r, v = .bool r ∧ Q (.bool (!r)) s') E s) : wpAny (model prog w) A (richCompare .NotEq (.ref x) b) Q E s := by
  have one : wpAny (model prog w) A (tryCompare (.ref x) "__ne__" b) (fun r s' => ∃ v, r = some v ∧ Q v s') E s := by
    unfold tryCompare
    refine wpAny_bind (ifBound_ne X I hn (wpAny_call (codeAny_call_builtin F.cmp_object.ne.plain F.cmpEntry_ne (PySem.W.check_slot F.cmpKind_ne F.cmpSplit_ne (I.type.andThen (PySem.W.looks_mroIn X hm)) (F.cmpArgs_ne _ _) (entry_ne (A := A.in1) hu X I hs hf (wpAny_mono h (fun v s' hv => ?_) fun _ _ e => e))))))
    obtain ⟨r0, rfl, hq⟩ := hv
    first | exact ⟨r0, rfl, wpAny_pure ⟨_, rfl, hq⟩⟩ | exact ⟨r0, rfl, wpAny_pure (wpAny_pure ⟨_, rfl, hq⟩)⟩
  unfold richCompare
  simp only [oneThing_ref]
  refine wpAny_holding (wpAny_bind (wpAny_cRoomFor (Nat.lt_of_succ_lt hu) ?_))
  rw [cmpInfo_NotEq]
  dsimp only
  refine wpAny_bind (I.type.here (wpAny_bind (hb.here ?_)))
  split
  · rename_i q
    have e : PySem.W.subIn K tb (.ref C) = some false := by
      rcases Bool.or_eq_true_iff.mp hnf with e | e
      · rw [beq_iff_eq.mp e] at q; simp at q
      · exact beq_iff_eq.mp e
    refine wpAny_bind ((PySem.W.looks_subIn X e).here ?_)
    simp only [Bool.false_eq_true, if_false]
    refine wpAny_bind (wpAny_mono one (fun r s' z => ?_) fun _ _ e => e)
    obtain ⟨v, rfl, hq⟩ := z
    exact wpAny_pure hq
  · refine wpAny_bind (wpAny_pure ?_)
    simp only [Bool.false_eq_true, if_false]
    refine wpAny_bind (wpAny_mono one (fun r s' z => ?_) fun _ _ e => e)
    obtain ⟨v, rfl, hq⟩ := z
    exact wpAny_pure hq
end
end NeX
namespace My
open PySem L2 PySem.Spec PyProof.Rows
/-! ### x == y by the class's own ==, y whatever it is -/
def rEqX (K : PySem.W.Frag) (C : Addr) (sp : Sp) (E : XK) : R2 := fun x y H Q => ∃ (a dx : Addr) (fs : List (Str × V)) (t : Value), x = .ref a ∧ H a = some (.ins C dx fs) ∧ TyX K H y t ∧ PySem.W.notFirst K C t = true ∧ sp [.ref a, y] H (fun v H' => ∃ r, v = .bl r ∧ Q (.bl r) H') E
theorem op_eqX {X : Cx} {n : Nat} {CX : CXT} {C f : Addr} {fd : FuncData} {ps : List Str} {sp : Sp} {E : XK} (F : FnOk X.prog X.w X.K X.mg X.base CX n f fd ps sp) (hse : PySem.W.findIn X.K (.ref C) "__eq__" = some (some (.ref f))) (hf : PySem.W.isFn X.K (.ref f) = true)
    (bF : Binds X.K fd ps []) (hx : Passes CX X E) (hr : Room n X.A) : OpR X (compareOp .Eq) (rEqX X.K C sp E) := by
  intro pn0 st0 σ H x y v u Q I rx ry h
  obtain ⟨a, dx, fs, t, rfl, ha, ty, hn, hsp⟩ := h
  cases rx
  show wpAny (model X.prog X.w) X.A (richCompare .Eq (.ref a) u) (EP X pn0 σ Q) X.xe st0
  obtain ⟨mA, J, _⟩ := ins_get I.hok ha
  obtain ⟨od, J, _⟩ := J.look
  obtain ⟨Pq, kx, hpq, _⟩ := kit_of I ry ty
  obtain ⟨m, hF⟩ := I.fr
  refine PySem.W.cmp_K (op := .Eq) (tb := t) hr.units0 hF I.ok.mod.kin J (kx.ty _ _ I.kIn hpq) hn hse hf ?_
  have hl := F.len _ _ _ _ hsp
  have r2 : Vals [V.ref a, y] [Value.ref a, u] := .cons rfl (.cons ry .nil)
  refine wpAny_call (codeAny_mono (F.run X.A X.stack st0 H ⟨[.ref a, u], []⟩ [.ref a, u] [.ref a, y] _ E hr I.env0 (by
    have := bF st0 [.ref a, u] I.kIn (by simpa using hl)
    simpa using this) r2 hsp) fun out s' hq => ?_)
  match out, hq with
  | .error er, hq => exact hx pn0 σ H st0 er s' I hq
  | .ok (.ret z0), hq =>
    obtain ⟨z, H', I', rz, r, ez, qz⟩ := I.after hq
    subst ez
    cases rz
    exact ⟨.bl r, H', I', rfl, qz⟩
  | .ok .next, hq => exact False.elim hq
  | .ok .brk, hq => exact False.elim hq
  | .ok .cont, hq => exact False.elim hq
def rNeX (K : PySem.W.Frag) (C : Addr) (sp : Sp) (E : XK) : R2 := fun x y H Q => ∃ (a dx : Addr) (fs : List (Str × V)) (t : Value), x = .ref a ∧ H a = some (.ins C dx fs) ∧ TyX K H y t ∧ PySem.W.notFirst K C t = true ∧ sp [.ref a, y] H (fun v H' => ∃ r, v = .bl r ∧ Q (.bl (!r)) H') E
/-- x != y, by the class's own ==, y whatever it is -/
theorem op_neX {X : Cx} {n : Nat} {CX : CXT} {C f : Addr} {fd : FuncData} {ps : List Str} {sp : Sp} {E : XK} (F : FnOk X.prog X.w X.K X.mg X.base CX n f fd ps sp) (hse : PySem.W.findIn X.K (.ref C) "__eq__" = some (some (.ref f))) (hf : PySem.W.isFn X.K (.ref f) = true)
    (hsn : PySem.W.findIn X.K (.ref C) "__ne__" = some (some (.builtin "object.__ne__"))) (hm : PySem.W.mroIn X.K C (.type "object") = some true) (hb : Binds X.K fd ps []) (hx : Passes CX X E) (hr : Room (n + 1) X.A) : OpR X (compareOp .NotEq) (rNeX X.K C sp E) := by
  intro pins s σ H x y v u Q I rx ry h
  obtain ⟨a, dx, fs, t, rfl, ha, ty, hn, hsp⟩ := h
  cases rx
  show wpAny (model X.prog X.w) X.A (richCompare .NotEq (.ref a) u) (EP X pins σ Q) X.xe s
  obtain ⟨mA, J, _⟩ := ins_get I.hok ha
  obtain ⟨od, J, _⟩ := J.look
  obtain ⟨Pq, kx, hpq, _⟩ := kit_of I ry ty
  have sb : Sub X n X.A.in1 := Sub.in1 ⟨hr, rfl⟩
  refine NeX.rc_ne (tb := t) (hu_of hr) I.kIn J (kx.ty _ _ I.kIn hpq) hn hm hse hf hsn ?_
  have e0 : Env0 X.prog X.w X.K X.mg X.base X.A.in1 X.stack s H := by
    have e := I.env0
    exact ⟨by rw [sb.fr]; exact e.frames, e.mod, e.bs, e.bsz, e.funs, e.frf, e.hok, e.bare⟩
  have hl := F.len _ _ _ _ hsp
  have r2 : Vals [V.ref a, y] [Value.ref a, u] := .cons rfl (.cons ry .nil)
  refine wpAny_call (codeAny_mono (F.run X.A.in1 X.stack s H ⟨[.ref a, u], []⟩ [.ref a, u] [.ref a, y] _ E sb.room e0 (by
    have := hb s [.ref a, u] I.kIn (by simpa using hl)
    simpa using this) r2 hsp) fun r s' hq => ?_)
  cases r with
  | error e => exact hx pins σ H s e s' I hq
  | ok fl =>
    cases fl with
    | ret w =>
      obtain ⟨z, H', I', rz, r, ez, qz⟩ := I.after hq
      subst ez
      cases rz
      exact ⟨r, rfl, .bl (!r), H', I', rfl, qz⟩
    | next => exact False.elim hq
    | brk => exact False.elim hq
    | cont => exact False.elim hq
theorem kit_tyL {K : PySem.W.Frag} {T : String} {C : Addr} (hd : PySem.W.hasDictIn K C = true) (ht : PySem.W.typeIn K (.ref C) = some (.type "type")) (hf : PySem.W.subIn K (.type T) (.ref C) = some false) : PySem.W.kitOne K (.type T) (.ref C) = some false := by
  obtain ⟨cd, hc, _⟩ := PySem.W.any_some hd
  unfold PySem.W.kitOne
  have hn : ¬ (Value.type T == Value.ref C) = true := fun q => by have e := beq_iff_eq.mp q; cases e
  rw [if_neg hn]
  have e2 : ((PySem.W.clsIn K C).isSome && PySem.W.typeIn K (.ref C) == some (.type "type")) = true := by rw [hc, ht] <;> rfl
  show (if ((PySem.W.clsIn K C).isSome && PySem.W.typeIn K (.ref C) == some (.type "type")) = true then PySem.W.subIn K (.type T) (.ref C) else none) = some false
  rw [if_pos e2]
  exact hf
/-- a listing against what is none -/
def spLEqN (K : PySem.W.Frag) (C : Addr) : Sp := fun vs H Q _ => ∃ (a : Addr) (y : V) (d : PyData), vs = [.ref a, y] ∧ Dp K H y d ∧ PySem.W.kitOne K (.type (tyN d)) (.ref C) = some false ∧ Q (.bl false) H
def spPairs (K : PySem.W.Frag) : Sp := fun vs H Q _ => ∃ (l : Addr) (xs : List V) (rows : List (Int × Int)), vs = [.ref l] ∧ H l = some (.lst xs) ∧ DpAll K (tupH H) xs (rows.map rowD) ∧ ∀ H', Same H H' → Q (.bl true) H'
section
variable {P : Program} {w : World} {K : PySem.W.Frag} {mg : Str → Option Value} {base : Heap}
theorem ok_LEqN {f C : Addr} {fd : FuncData} (F : Fun K "__eq__" "Listing.__eq__" sLEq f fd) (T : Gs K mg) (gC : mg "Listing" = some (.ref C)) : FnOk P w K mg base CX0 1 f fd ["self", "other"] (spLEqN K C) := by
  refine F.ok scLEq (fun vs H Q E h => ?_) (fun cdv A outer s H vs Q E hr h => ?_)
  · obtain ⟨a, y, d, rfl, _⟩ := h
    rfl
  obtain ⟨a, y, d, rfl, hd, hk, q⟩ := h
  refine ⟨_, pss_one (ps_ret (pe_and (pe_callB call_isi (by rfl) T.isi (by decide +kernel) (pa_cons (pv 1) (pa_cons (pe_gref rfl gC) pa_nil))) (pe_and (pe_cmpR (op_eqD hr.units) (pe_fld (pv 0) rfl) (pe_fld (pv 1) rfl) (nomark _)) (pe_and (pe_cmpR (op_eqD hr.units) (pe_fld (pv 0) rfl) (pe_fld (pv 1) rfl) (nomark _)) (pe_and (pe_cmpR op_eq (pe_fld (pv 0) rfl) (pe_fld (pv 1) rfl) (nomark _)) (pe_one (pe_cmpR op_eq (pe_fld (pv 0) rfl) (pe_fld (pv 1) rfl) (nomark _)))))))), ?_⟩
  exact ⟨_, rfl, y, .ref C, _, _, _, rfl, .own C, dp_ty hd, hk, _, rfl, iteF q⟩
end
def spLaw (K : PySem.W.Frag) : Sp := fun vs H Q _ => ∃ (a : Addr) (ns : List Int), vs = [.ref a] ∧ SqL K H a (ns.map V.int) ∧ ns.length ≤ 63 ∧ ∀ H', Q (.bl true) H'
/-- the class Listing, made -/
structure LCl (P : Program) (w : World) (K : PySem.W.Frag) (mg : Str → Option Value) (base : Heap) (C : Addr) where
  fI : Addr
  dI : FuncData
  g : mg "Listing" = some (.ref C)
  M : Mk K C fI
  G : FnOk P w K mg base CX0 16 fI dI ["self", "program"] (spLI K C)
  b : Binds K dI ["self", "program"] []
theorem prog_code {d : PyData} (hp : isProg (.tuple [.str "collector", d]) = true) (ld : Lay d) : ∃ code : List Ins, bodyC 4 0 d = code.map Ins.toD ∧ (∀ i ∈ code, i.ok "collector") ∧ (∀ i ∈ code, i.tgt ≤ code.length) ∧ code.length ≤ 100 := by
  obtain ⟨c, hbc, hc⟩ := prog_bodyC hp
  obtain ⟨code, h1, h2, h3⟩ := code_tgt 0 hbc
  obtain ⟨_, hcl⟩ := body_code_ok 0 ld hbc
  rw [h1, List.length_map] at hcl
  exact ⟨code, h1, h2, fun i m => by have := h3 i m; omega, by omega⟩
theorem LsO.same {K : PySem.W.Frag} {H0 H H' : Hp} {C ls : Addr} {L : LP} (h : LsO K H0 H C ls L) (s : Same H H') : LsO K H0 H' C ls L := by
  obtain ⟨dx, hd, cy, kh, kc, hs, cs, fm, xs, ys, kvs, la, h1, h2, h3, h4, h5, h6, h7, h8, h9, h10, h11, r⟩ := h.ex
  exact ⟨dx, hd, cy, kh, kc, hs, cs, fm, xs, ys, kvs, la, s _ _ h1, s _ _ h2, s _ _ h3, h4.keep (KeepT.of s), h5.keep (KeepT.of s), s _ _ h6, s _ _ h7, s _ _ h8, s _ _ h9, s _ _ h10, h11.keep (KeepR.of s) (fun a _ o e => s _ _ e), r⟩
theorem LsA.same {K : PySem.W.Frag} {H H' : Hp} {C ls : Addr} {L : LP} (h : LsA K H C ls L) (s : Same H H') : LsA K H' C ls L := by
  obtain ⟨dx, hd, cy, kh, kc, hs, cs, fm, xs, ys, h1, h2, h3, h4, h5, zs, h6, h7⟩ := h.ex
  exact ⟨dx, hd, cy, kh, kc, hs, cs, fm, xs, ys, s _ _ h1, s _ _ h2, s _ _ h3, dpAll_mono (KeepT.of s).same _ _ h4, dpAll_mono (KeepT.of s).same _ _ h5, zs, Same.tup s h6, h7⟩
theorem TupL.same {K : PySem.W.Frag} {H H' : Hp} {t : Addr} {L : LP} (h : TupL K H t L) (s : Same H H') : TupL K H' t L := by
  obtain ⟨hd, cy, xs, ys, h1, h2, h3, h4, h5⟩ := h
  exact ⟨hd, cy, xs, ys, s _ _ h1, s _ _ h2, s _ _ h3, dpAll_mono (KeepT.of s).same _ _ h4, dpAll_mono (KeepT.of s).same _ _ h5⟩
theorem LsO.base {K : PySem.W.Frag} {H0 H1 H : Hp} {C ls : Addr} {L : LP} (h : LsO K H1 H C ls L) (s : Same H0 H1) : LsO K H0 H C ls L := by
  obtain ⟨dx, hd, cy, kh, kc, hs, cs, fm, xs, ys, kvs, la, h1, h2, h3, h4, h5, h6, h7, h8, h9, h10, h11, h12, h13, r⟩ := h.ex
  exact ⟨dx, hd, cy, kh, kc, hs, cs, fm, xs, ys, kvs, la, h1, h2, h3, h4, h5, h6, h7, h8, h9, h10, h11, s.free h12, s.free h13, r⟩
/-- a new listing -/
theorem mk_lst {K : PySem.W.Frag} {C x dx : Addr} {H2 : Hp} {v : V} {d : PyData} {code : List Ins} {Q : VK} {E : XK} (hd : Dp K H2 v (.tuple [.str "collector", d])) (ld : Lay d) (nd : noL d = true) (hp : isProg (.tuple [.str "collector", d]) = true) (hcode : bodyC 4 0 d = code.map Ins.toD) (hok : ∀ i ∈ code, i.ok "collector")
    (nx : H2 x = none) (ndx : H2 dx = none) (k : ∀ H', Same H2 H' → LsO K H2 H' C x (runL code) → Q .non H') : spLI K C [.ref x, v] (upd (upd H2 dx (.own x)) x (.ins C dx [])) Q E := by
  have s0 : Same H2 (upd (upd H2 dx (.own x)) x (.ins C dx [])) := madeC_same nx ndx fun p o _ e => e
  exact ⟨x, dx, v, d, code, rfl, upd_same, dp_mono s0 _ _ hd, lay2 (lay_str (by decide +kernel)) ld, nd, hp, hcode, hok, fun H' fx lo => k H' (madeC_same nx ndx fx) (lo.base s0)⟩
/-! ### the law's tuple as a datum -/
def tupD (L : LP) : PyData := .tuple [.list ((lpHead L).map rowD), .list ((lpCycle L).map rowD), .int (lpPer L), .int (lpShift L)]
theorem TupL.dp {K : PySem.W.Frag} {H : Hp} {t : Addr} {L : LP} (h : TupL K H t L) : Dp K H (.ref t) (tupD L) := by
  obtain ⟨hd, cy, xs, ys, h1, h2, h3, h4, h5⟩ := h
  exact .tup (SqT.of h1) (.cons (.lst (SqL.of h2) (dpAll_mono (tupH_same H) _ _ h4)) (.cons (.lst (SqL.of h3) (dpAll_mono (tupH_same H) _ _ h5)) (.cons (.int _) (.cons (.int _) .nil))))
theorem rows_shape (ns : List (Int × Int)) : Lay (.list (ns.map rowD)) ∧ (PyData.list (ns.map rowD)).depth ≤ 3 := by
  refine ⟨?_, ?_⟩
  · show (PyData.list (ns.map rowD)).canLay0 = true
    simp only [PyData.canLay0]
    exact lay_all fun d m => by obtain ⟨n, _, rfl⟩ := List.mem_map.mp m; exact row_lay n
  · have hd : PyData.depthAll (ns.map rowD) ≤ 1 := depth_all fun d m => by obtain ⟨n, _, rfl⟩ := List.mem_map.mp m; simp only [rowD, PyData.depth, PyData.depthAll]; decide
    simp only [PyData.depth]
    omega
theorem shaped_tupD (L : LP) : SeqAt.shaped (tupD L) = true := by
  show ((tupD L).canLay0 && decide ((tupD L).depth ≤ 64)) = true
  have h1 := rows_shape (lpHead L)
  have h2 := rows_shape (lpCycle L)
  rw [Bool.and_eq_true]
  constructor
  · exact lay4 h1.1 h2.1 (lay_int _) (lay_int _)
  · have e : (tupD L).depth ≤ 64 := by
      unfold tupD
      simp only [PyData.depth, PyData.depthAll] at h1 h2 ⊢
      omega
    exact decide_eq_true e
theorem eqv_tupD (L M : LP) : PyData.eqv (tupD L) (tupD M) = eqLP L M := by
  have e1 := eqv_rlist (lpHead L) (lpHead M)
  have e2 := eqv_rlist (lpCycle L) (lpCycle M)
  unfold tupD eqLP
  simp only [PyData.eqv, PyData.eqvAll, Bool.and_true] at e1 e2 ⊢
  rw [e1, e2]
  have eqi : ∀ x y : Int, (x == y) = decide (x = y) := fun x y => by
    by_cases c : x = y
    · simp [c]
    · simp [c]
  first
    | rfl
    | simp only [eqi, Bool.and_assoc]
theorem eqLP_refl (L : LP) : eqLP L L = true := by simp [eqLP]
end My

namespace My
open PySem PySem.Spec PyProof.Rows L2
/-! ### y = {k: v for .. in ..}, y a local name -/
theorem ps_setDc {X : Cx} {i : Nat} {y : Str} {py : Pos} {kx vx tg iter : Expr} {ifs : List Expr} {scope : Scope} {own : List (Str × Nat)} {pos spos : Pos} {wi : TI} {g : TG} {tt : TT} {tk tv : TE} (hc : X.calm = true) (hN : X.N.Nodup) (hy : X.N[i]? = some y) (hyl : X.env.scope.names.lookup y = some .local)
    (hkd : X.env.scope.kind = .function) (hln : (py.line == pos.line) = true) (hno : (scope.names.any fun (n, k) => n == y && (k == .local || k == .cell)) = false)
    (hi : PI X tg iter wi) (ok : BlkOk X.N X.env.scope scope own) (hg : ∀ (s : Shared) (H : Hp) (C : Addr) (cl : List (Str × Addr)) (fp : List Addr), PG (X.blk s H scope (compEnvC scope cl C X.env) fp) tg g)
    (ht : ∀ (s : Shared) (H : Hp) (C : Addr) (cl : List (Str × Addr)) (fp : List Addr), PTs (X.blk s H scope (compEnvC scope cl C X.env) fp) ifs tt) (hk : ∀ (s : Shared) (H : Hp) (C : Addr) (cl : List (Str × Addr)) (fp : List Addr), PE (X.blk s H scope (compEnvC scope cl C X.env) fp) kx tk)
    (he : ∀ (s : Shared) (H : Hp) (C : Addr) (cl : List (Str × Addr)) (fp : List Addr), PE (X.blk s H scope (compEnvC scope cl C X.env) fp) vx tv) (hs : ∀ x, foldedSetIterable iter X.env x = pure x := by intro _; rfl) :
    PS X (.Assign [.Name y py] (.DictComp kx vx [⟨tg, iter, ifs, 0⟩] scope pos) spos) (tAsg (tDc wi g tt tk tv (own.map (·.2))) (gName i)) := by
  have hsw : swapsWith (.DictComp kx vx [⟨tg, iter, ifs, 0⟩] scope pos) (some (.Name y py)) spos.line X.env = pure true := by
    have h1 : X.env.kindOf y = some .local := hyl
    have h2 : X.env.blockKind = .function := by unfold Env.blockKind; rw [hkd]; rfl
    unfold swapsWith
    simp only [h2, h1, hno, Expr.pos, hln]
    rfl
  refine ⟨fun pins s σ H D I h => ?_⟩
  rw [exec_Assign_Name_used _ _ _ _ hsw]
  refine wpAny_bind (wpAny_standAt (wpAny_bind ?_))
  show wpAny _ X.A (do let _ ← comprehension (.DictComp kx vx [⟨tg, iter, ifs, 0⟩] scope pos) scope X.env (firstIterPos [⟨tg, iter, ifs, 0⟩] pos) newDict false (eval iter X.env) (some (assign (.Name y py) X.env))) _ _ s
  have h' : tDc wi g tt tk tv (own.map (·.2)) σ H (fun x H1 => gName i x σ H1 D.nx) := h
  refine wpAny_bind (thn (dc_core (Qf := fun _ s' => SP X pins D .next s') hc hN I hi ok hg ht hk he hs h' fun L C s' m H' I' q hn f => ?_) fun _ s' hq => wpAny_pure (wpAny_pure hq))
  show wpAny _ _ (assign (.Name y py) X.env (.ref L)) _ _ _
  refine wpAny_assign_Name (store_ok2 (v := V.ref L) I' hN hy (.inl hyl) rfl (fun s2 I2 ⟨a, sb, ha⟩ => ?_) (.inr hyl))
  obtain ⟨f0, f1, f2, f3, f4, f5⟩ := f
  have neq : C ≠ a := by
    rcases ha with z | z
    · rw [z]; exact f1
    · exact fun e => f4 y a z e.symm
  exact ⟨m, hn.sameBut sb neq, fun h3 sb3 => ⟨_, H', I2.turned (t' := s2.toks) (fun b o hb e => (sb3.2 b hb).trans e) f0 f1 f3 f4 f5, q⟩⟩
/-! ### first_outside -/
abbrev sFO : Stmt := inClass (top 53) 5
abbrev nsFO : List Str := ["self", "barred", "missing", "integer", "step", "times"]
def sft (L : LP) (n : Nat) (r : Int × Int) : Int × Int := (r.1 + (n : Nat) * lpPer L, r.2 + (n : Nat) * lpShift L)
def fo1 (bs : List Int) (rows : List (Int × Int)) : Option (Int × Int) := rows.find? fun r => !decide (r.2 ∈ bs)
def foR (L : LP) (bs : List Int) : Nat → Nat → Option (Int × Int)
  | 0, _ => none
  | k + 1, n => match fo1 bs ((lpCycle L).map (sft L n)) with
    | some r => some r
    | none => if endL L = true then foR L bs k (n + 1) else none
theorem foR_eq (L : LP) (bs : List Int) (k n : Nat) : foR L bs (k + 1) n = (match fo1 bs ((lpCycle L).map (sft L n)) with
    | some r => some r
    | none => if endL L = true then foR L bs k (n + 1) else none) := rfl
def foL (L : LP) (bs : List Int) : Option (Int × Int) := match fo1 bs (lpHead L) with
  | some r => some r
  | none => foR L bs (bs.length + 1) 0
def rowV (H H' : Hp) (v : V) : Option (Int × Int) → Prop
  | none => v = .non
  | some r => ∃ t, v = .ref t ∧ H t = none ∧ H' t = some (.tup [.int r.1, .int r.2])
def spFO (K : PySem.W.Frag) (C : Addr) : Sp := fun vs H Q _ => ∃ (ls m : Addr) (H0 : Hp) (L : LP) (bs : List Int), vs = [.ref ls, .ref m] ∧ LsO K H0 H C ls L ∧ SqL K H m (bs.map V.int) ∧ bs.length ≤ 100000 ∧ ∀ H' v, Same H H' → rowV H H' v (foL L bs) → Q v H'
theorem sub_len : ∀ {d l : List Int}, d.Nodup → (∀ x ∈ d, x ∈ l) → d.length ≤ l.length
  | [], l, _, _ => Nat.zero_le _
  | x :: d, l, hn, hs => by
    obtain ⟨hx, hd⟩ := List.nodup_cons.mp hn
    have hm : x ∈ l := hs x (List.mem_cons_self ..)
    have ih := sub_len (l := l.erase x) hd (fun y hy => (List.mem_erase_of_ne (fun e => by rw [e] at hy; exact hx hy)).mpr (hs y (List.mem_cons_of_mem _ hy)))
    have h1 := List.length_erase_of_mem hm
    have h2 := List.length_pos_of_mem hm
    rw [List.length_cons]
    omega
theorem fo1_none {bs : List Int} {rows : List (Int × Int)} (h : fo1 bs rows = none) : ∀ r ∈ rows, r.2 ∈ bs := fun r m => by
  have := List.find?_eq_none.mp h r m
  simpa using this
/-- an endless list leaves the barred ones behind -/
theorem fo_ends {L : LP} {bs : List Int} (he : endL L = true) (h : ∀ j, j < bs.length + 1 → fo1 bs ((lpCycle L).map (sft L j)) = none) : False := by
  unfold endL at he
  rw [Bool.and_eq_true] at he
  have h1 := of_decide_eq_true he.1
  have h2 := of_decide_eq_true he.2
  cases ec : lpCycle L with
  | nil => rw [ec] at h1; exact absurd h1 (Nat.lt_irrefl 0)
  | cons r t =>
    have hm : ∀ j, j < bs.length + 1 → r.2 + (j : Nat) * lpShift L ∈ bs := fun j hj => by
      have := fo1_none (h j hj) (sft L j r) (by rw [ec]; exact List.mem_map_of_mem (List.mem_cons_self ..))
      exact this
    have hn : ((List.range (bs.length + 1)).map fun j : Nat => r.2 + (j : Nat) * lpShift L).Nodup := by
      rw [List.nodup_iff_pairwise_ne, List.pairwise_map]
      refine List.Pairwise.imp (fun {a b} hab e => ?_) (List.nodup_iff_pairwise_ne.mp (List.nodup_range))
      have e' : (a : Int) * lpShift L = (b : Int) * lpShift L := by omega
      have := Int.eq_of_mul_eq_mul_right (by omega : lpShift L ≠ 0) e'
      exact hab (by omega)
    have := sub_len hn (fun x mx => by
      obtain ⟨j, hj, rfl⟩ := List.mem_map.mp mx
      exact hm j (List.mem_range.mp hj))
    rw [List.length_map, List.length_range] at this
    omega
theorem find_at {α : Type} {p : α → Bool} {l : List α} {i : Nat} {e : α} (h : (l.take i).find? p = none) (he : l[i]? = some e) (hp : p e = true) : l.find? p = some e := by
  have hi : i < l.length := (List.getElem?_eq_some_iff.mp he).1
  have e1 : l = l.take i ++ l.drop i := (List.take_append_drop i l).symm
  have e2 : l.drop i = e :: l.drop (i + 1) := by
    rw [List.drop_eq_getElem_cons hi]
    congr 1
    exact (List.getElem?_eq_some_iff.mp he).2
  rw [e1, List.find?_append, h, e2, Option.none_or, List.find?_cons_of_pos hp]
theorem find_snoc {α : Type} {p : α → Bool} {l : List α} {i : Nat} {e : α} (h : (l.take i).find? p = none) (he : l[i]? = some e) (hp : p e = false) : (l.take (i + 1)).find? p = none := by
  rw [take_snoc he, List.find?_append, h, Option.none_or, List.find?_cons_of_neg (by rw [hp]; decide)]
  rfl
/-- the first of the rows is the first of the firsts -/
theorem find_first (p : Int → Bool) (rows : List (Int × Int)) : ((firstS rows).find? fun e => p e.1).map (fun e => (e.2, e.1)) = rows.find? fun r => p r.2 := by
  have h : ∀ (rs acc : List (Int × Int)), ((rs.foldl putF1 acc).find? fun e => p e.1).map (fun e => (e.2, e.1)) = ((acc.find? fun e => p e.1).map fun e => (e.2, e.1)).or (rs.find? fun r => p r.2) := by
    intro rs
    induction rs with
    | nil => intro acc; simp
    | cons r t ih =>
      intro acc
      rw [List.foldl_cons, ih]
      unfold putF1
      cases ha : acc.any (fun e => decide (e.1 = r.2)) with
      | true =>
        rw [if_pos rfl]
        cases hf : acc.find? fun e => p e.1 with
        | some e => rfl
        | none =>
          obtain ⟨e, me, he⟩ := List.any_eq_true.mp ha
          have hp := List.find?_eq_none.mp hf e me
          have hpr : ¬ p r.2 = true := by rw [← of_decide_eq_true he]; exact hp
          simp [List.find?_cons, hpr]
      | false =>
        rw [if_neg (by decide), List.find?_append]
        cases hf : acc.find? fun e => p e.1 with
        | some e => rfl
        | none =>
          rw [Option.none_or]
          by_cases hp : p r.2 = true
          · simp [List.find?_cons, hp]
          · simp [List.find?_cons, hp]
  have := h rows []
  simpa [firstS] using this
theorem fo1_first (bs : List Int) (L : LP) (n : Nat) (rows : List (Int × Int)) : fo1 bs (rows.map (sft L n)) = ((firstS rows).find? fun e => !decide (e.1 + (n : Nat) * lpShift L ∈ bs)).map fun e => sft L n (e.2, e.1) := by
  have h := find_first (fun z => !decide (z + (n : Nat) * lpShift L ∈ bs)) rows
  unfold fo1
  rw [List.find?_map]
  show (rows.find? fun r => !decide (r.2 + (n : Nat) * lpShift L ∈ bs)).map (sft L n) = _
  rw [← h, Option.map_map]
  rfl
theorem Same.unlock {H1 Hx : Hp} {d : Addr} {od : Obj} {u : HO} (hd : H1 d = some u) (s : Same (upd H1 d (.frz od u)) Hx) : Same H1 (upd Hx d u) := fun p o e => by
  by_cases c : p = d
  · subst c
    rw [upd_same, ← hd, e]
  · rw [upd_ne c]
    exact s p o (by rw [upd_ne c]; exact e)
section
variable {P : Program} {w : World} {K : PySem.W.Frag} {mg : Str → Option Value} {base : Heap}
theorem scFO : FnScope nsFO ["self", "barred"] (defScope sFO) := ⟨rfl, rfl, rfl, by decide +kernel, rfl, by decide +kernel, by decide +kernel⟩
theorem ok_FO {f C : Addr} {fd : FuncData} (F : Fun K "first_outside" "Listing.first_outside" sFO f fd) (N : LNo K C) (ME : MCal P w K mg base 1 C "is_endless" ["self"] (spEnd K C)) : FnOk P w K mg base CX0 2 f fd ["self", "barred"] (spFO K C) := by
  refine F.ok scFO (fun vs H Q E h => ?_) (fun cdv A outer s H vs Q E hr h => ?_)
  · obtain ⟨ls, m, H0, L, bs, rfl, _⟩ := h
    rfl
  obtain ⟨ls, m, H0, L, bs, rfl, hls, hm, hbl, q⟩ := h
  have hu := hu_of hr
  refine ⟨_, pss_cons (ps_setDc (i := 2) (own := [("integer", 3)]) (g := gName 3) (tt := tYes) rfl scFO.nd rfl rfl rfl rfl (by decide +kernel) (pi_list (pv 1)) (blkOk_by (N := nsFO) (sc := defScope sFO) (by decide +kernel)) (fun _ _ _ _ _ => pg_name (i := 3) scFO.nd rfl (.inl rfl)) (fun _ _ _ _ _ => pts_nil) (fun _ _ _ _ _ => pv 3) (fun _ _ _ _ _ => pe_bl))
    (pss_cons (ps_lock (ps_for PassesOwn.never rfl (pi_items (pe_fld (pv 0) rfl)) (pg_tup (by rfl) (pgs_cons (pg_name (i := 3) scFO.nd rfl (.inl rfl)) (pgs_cons (pg_name (i := 4) scFO.nd rfl (.inl rfl)) pgs_nil)))
      (pss_one (ps_if (pt_cmp (pc_dnotin hu (pv 3) (pv 2))) (pss_one (ps_ret (pe_tup (pa_cons (pv 4) (pa_cons (pv 3) pa_nil))))) pss_nil))))
    (pss_cons (ps_set (i := 5) scFO.nd rfl (.inl rfl) pe_int)
    (pss_cons (ps_while PassesOwn.never (PW.pt (pw_or (pt_cmpR op_eq (pv 5) pe_int (nomark _)) (pw_or1 (pt_val (pe_meth0 (pv 0) N.cl ME.m ME.G hr ME.b .nil pass0)))))
      (pss_cons (ps_lock (ps_for PassesOwn.never rfl (pi_items (pe_fld (pv 0) rfl)) (pg_tup (by rfl) (pgs_cons (pg_name (i := 3) scFO.nd rfl (.inl rfl)) (pgs_cons (pg_name (i := 4) scFO.nd rfl (.inl rfl)) pgs_nil)))
        (pss_one (ps_if (pt_cmp (pc_dnotin hu (pe_op op_add (pv 3) (pe_op op_mul (pv 5) (pe_fld (pv 0) rfl))) (pv 2))) (pss_one (ps_ret (pe_tup (pa_cons (pe_op op_add (pv 4) (pe_op op_mul (pv 5) (pe_fld (pv 0) rfl))) (pa_cons (pe_op op_add (pv 3) (pe_op op_mul (pv 5) (pe_fld (pv 0) rfl))) pa_nil))))) pss_nil))))
      (pss_one (ps_aug (i := 5) scFO.nd rfl (.inl rfl) pe_int ip_add))))
    (pss_one (ps_ret pe_non))))), ?_⟩
  -- the barred ones
  refine ⟨_, rfl, m, rfl, ⟨_, hm⟩, fun D nD => dc_list (K := K) (a := m) (xs := bs.map V.int) (fun i H' => Same H H' ∧ ∃ kvs, H' D = some (.dK kvs) ∧ kvs.length ≤ i ∧ ∀ z : Int, (valV kvs (Sum.inl z : Key)).isSome = decide (z ∈ bs.take i)) ⟨same_new nD _, [], upd_same, by decide, fun z => by simp [valV]⟩ (fun i H' _ ⟨s1, _⟩ => s1.seq hm) ?_ ?_⟩
  · rintro i y H3 hy ⟨s3, kvs, hk, hkl, hkv⟩
    have hi : i < bs.length := by
      have := (List.getElem?_eq_some_iff.mp hy).1
      rwa [List.length_map] at this
    obtain ⟨n, hn, rfl⟩ : ∃ n, bs[i]? = some n ∧ y = .int n := by
      rw [List.getElem?_map] at hy
      cases e : bs[i]? with
      | none => rw [e] at hy; cases hy
      | some n => rw [e] at hy; exact ⟨n, rfl, by injection hy with hy; exact hy.symm⟩
    refine ⟨rfl, ?_⟩
    dsimp only [tYes]
    rw [if_pos rfl]
    refine ⟨_, rfl, kvs, Sum.inl n, rfl, hk, Nat.lt_of_le_of_lt (by omega : _ ≤ 100000) (by decide), same_upd s3 nD _, _, upd_same, ?_, fun z => ?_⟩
    · unfold putK
      split
      · rw [List.length_map]; omega
      · rw [List.length_append]; show kvs.length + 1 ≤ i + 1; omega
    · rw [valV_put, take_snoc hn]
      by_cases e : z = n
      · subst e
        rw [if_pos rfl]
        simp
      · rw [if_neg (by intro c; injection c with c; exact e c), hkv z]
        simp [e]
  rintro H1 ⟨s1, kvs, hk, hkl, hkv⟩
  rw [List.length_map, List.take_length] at hkv
  obtain ⟨dx, hd, cy, kh, kc, hs, cs, fm, xs, ys, kvs', la, ho0, _, _, _, _, _, _, ehs0, ecs0, _⟩ := hls.ex
  have lsa1 := hls.a.same s1
  have nDhs : D ≠ hs := fun z => by rw [z, ehs0] at nD; cases nD
  have nDcs : D ≠ cs := fun z => by rw [z, ecs0] at nD; cases nD
  have nlhs : ls ≠ hs := fun z => by rw [← z, ho0] at ehs0; cases ehs0
  have nlcs : ls ≠ cs := fun z => by rw [← z, ho0] at ecs0; cases ecs0
  have ho := s1 _ _ ho0
  have ehs := s1 _ _ ehs0
  have ecs := s1 _ _ ecs0
  have slen : ∀ rows : List (Int × Int), (fsD (firstS rows)).length = (firstS rows).length := fun rows => by unfold fsD; rw [List.length_map]
  -- the head
  refine ⟨hs, _, ehs, trivial, fun od => ?_⟩
  have oL : (upd H1 hs (.frz od (.dK (fsD (firstS (lpHead L)))))) ls = some (.ins C dx (lsF hd cy (lpPer L) (lpShift L) kh kc hs cs fm)) := by rw [upd_ne nlhs]; exact ho
  have eL : (upd H1 hs (.frz od (.dK (fsD (firstS (lpHead L)))))) hs = some (.frz od (.dK (fsD (firstS (lpHead L))))) := upd_same
  have kL : (upd H1 hs (.frz od (.dK (fsD (firstS (lpHead L)))))) D = some (.dK kvs) := by rw [upd_ne nDhs]; exact hk
  have unl1 : ∀ Hx, Same (upd H1 hs (.frz od (.dK (fsD (firstS (lpHead L)))))) Hx → Same H1 (upd Hx hs (.dK (fsD (firstS (lpHead L))))) := fun Hx sx => Same.unlock ehs sx
  generalize upd H1 hs (.frz od (.dK (fsD (firstS (lpHead L))))) = L1 at oL eL kL unl1 ⊢
  refine ⟨_, rfl, ls, C, dx, _, _, rfl, oL, N.cl, N.nHs, rfl, hs, od, _, rfl, eL, ?_⟩
  refine for_it walk_items (fun i σ Hx => ∃ (s3 s4 : Option V), σ = [some (.ref ls), some (.ref m), some (.ref D), s3, s4, none] ∧ Same L1 Hx ∧ ((firstS (lpHead L)).take i).find? (fun e => !decide (e.1 ∈ bs)) = none) ⟨none, none, rfl, Same.refl _, rfl⟩ (fun i σ Hx _ ⟨_, _, _, sx, _⟩ => sx _ _ eL) ?_ ?_
  · rintro i x σ Hx Hy hi ⟨s3, s4, rfl, sx, hf⟩ ⟨T, y, z, rfl, nT, rfl, hy, hz⟩
    rw [slen] at hi
    have er : (firstS (lpHead L))[i]? = some (firstS (lpHead L))[i] := List.getElem?_eq_getElem hi
    generalize (firstS (lpHead L))[i] = r at er
    have hkv' : (fsD (firstS (lpHead L)))[i]? = some (Sum.inl r.1, .int r.2) := by unfold fsD; rw [List.getElem?_map, er]; rfl
    dsimp only at hy hz
    rw [hkv'] at hy hz
    have ey : y = .int r.1 := by injection hy with hy; exact hy.symm
    have ez : z = .int r.2 := by injection hz with hz; exact hz.symm
    subst ey ez
    have uT := same_new nT (.tup [.int r.1, .int r.2])
    have eT : (upd Hx T (.tup [.int r.1, .int r.2])) T = some (.tup [.int r.1, .int r.2]) := upd_same
    generalize upd Hx T (.tup [.int r.1, .int r.2]) = Hy at uT eT ⊢
    have sy := sx.trans uT
    refine ⟨T, _, rfl, SqT.of eT, rfl, _, _, rfl, _, _, rfl, rfl, ?_⟩
    refine ⟨_, rfl, _, rfl, D, _, rfl, DGet.k (k := Sum.inl r.1) (sy _ _ kL), _, rfl, ?_⟩
    rw [hkv]
    by_cases c : r.1 ∈ bs
    · rw [decide_eq_true c]
      exact ite2 (fun c' => absurd c' (by decide)) (fun _ => ⟨_, _, rfl, sy, find_snoc hf er (by rw [decide_eq_true c]; rfl)⟩)
    · rw [decide_eq_false c]
      refine ite2 (fun _ => ?_) (fun c' => absurd rfl c')
      refine ⟨_, rfl, _, rfl, (by show 2 ≤ sizeLine; decide), fun t nt => ?_⟩
      have ut := same_new nt (.tup [.int r.2, .int r.1])
      have sz := unl1 _ (sy.trans ut)
      have nths : t ≠ hs := fun z => by rw [z, sy _ _ eL] at nt; cases nt
      refine ⟨(sy.trans ut) _ _ eL, q _ _ (s1.trans sz) ?_⟩
      have hfound : fo1 bs (lpHead L) = some (r.2, r.1) := by
        unfold fo1
        rw [← find_first (fun z => !decide (z ∈ bs)), find_at hf er (by rw [decide_eq_false c]; rfl)]
        rfl
      have e : foL L bs = some (r.2, r.1) := by unfold foL; rw [hfound]
      rw [e]
      refine ⟨t, rfl, (s1.trans (unl1 _ sy)).free (by rw [upd_ne nths]; exact nt), by rw [upd_ne nths, upd_same]⟩
  rintro σ Hx ⟨s3, s4, rfl, sx, hf⟩
  rw [slen, List.take_length] at hf
  refine ⟨sx _ _ eL, ?_⟩
  have s2 := unl1 _ sx
  generalize upd Hx hs (.dK (fsD (firstS (lpHead L)))) = H2 at s2 ⊢
  have hfo : foL L bs = foR L bs (bs.length + 1) 0 := by
    have e : fo1 bs (lpHead L) = none := by
      unfold fo1
      rw [← find_first (fun z => !decide (z ∈ bs)), hf]
      rfl
    unfold foL
    rw [e]
  -- the rounds
  refine seq_while ?_
  refine while_m (fun k σ Hx => ∃ (n : Nat) (s3 s4 : Option V), σ = [some (.ref ls), some (.ref m), some (.ref D), s3, s4, some (.int (n : Nat))] ∧ Same H1 Hx ∧ k + n = bs.length + 1 ∧ (∀ j, j < n → fo1 bs ((lpCycle L).map (sft L j)) = none) ∧ foL L bs = (if n = 0 ∨ endL L = true then foR L bs k n else none)) (m0 := bs.length + 1)
    ⟨0, s3, s4, rfl, s2, rfl, (fun j hj => absurd hj (Nat.not_lt_zero j)), by rw [if_pos (.inl rfl)]; exact hfo⟩ ?step ?mono
  case mono =>
    rintro σ H' Q1 Q2 h ⟨v1, e1, e2, b1, e3, r⟩
    refine ⟨v1, e1, e2, b1, e3, ?_⟩
    by_cases c : b1 = true
    · dsimp only at r ⊢
      rw [if_pos c] at r ⊢
      exact h _ _ r
    · dsimp only at r ⊢
      rw [if_neg c] at r ⊢
      obtain ⟨v2, e4, a5, b5, c5, e6, e7, e8, ls', L', e9, e10, b2, e11, r⟩ := r
      exact ⟨v2, e4, a5, b5, c5, e6, e7, e8, ls', L', e9, e10, b2, e11, h _ _ r⟩
  case step =>
    rintro k σ Hx ⟨n, s3, s4, rfl, sx, hkn, hj, hR⟩
    have hox := sx _ _ ho
    have cm : ∀ y : Int, CMul ((n : Nat) : Int) y := fun y => .inl ⟨Int.lt_of_lt_of_le (by decide) (by omega : (0 : Int) ≤ _), Int.lt_of_le_of_lt (by omega : ((n : Nat) : Int) ≤ 100001) (by decide)⟩
    refine ⟨_, rfl, rfl, _, rfl, ?_⟩
    by_cases hc : n = 0 ∨ endL L = true
    · rw [if_pos hc] at hR
      refine imp_of (P := ?PB) ?fB ?restB
      case fB =>
        intro r
        by_cases h0 : n = 0
        · rw [decide_eq_true (show V.int ((n : Nat) : Int) = V.int 0 by rw [h0]; rfl)]
          refine iteT (iteT ?_)
          exact r
        · have he : endL L = true := hc.resolve_left h0
          rw [decide_eq_false (show ¬ V.int ((n : Nat) : Int) = V.int 0 from fun z => by injection z with z; omega)]
          refine iteF ⟨_, rfl, ls, dx, _, rfl, hox, rfl, ls, L, rfl, lsa1.same sx, _, rfl, ?_⟩
          refine ite2 (fun _ => ?_) (fun c => absurd he c)
          exact r
      case restB =>
      obtain ⟨k', rfl⟩ : ∃ k', k = k' + 1 := by
        cases k with
        | zero =>
          have he : endL L = true := hc.resolve_left (by omega)
          exact (fo_ends he (fun j hj' => hj j (by omega))).elim
        | succ k' => exact ⟨k', rfl⟩
      have ecx := sx _ _ ecs
      have kx := sx _ _ hk
      refine ⟨cs, _, ecx, trivial, fun od2 => ?_⟩
      have oM : (upd Hx cs (.frz od2 (.dK (fsD (firstS (lpCycle L)))))) ls = some (.ins C dx (lsF hd cy (lpPer L) (lpShift L) kh kc hs cs fm)) := by rw [upd_ne nlcs]; exact hox
      have eM : (upd Hx cs (.frz od2 (.dK (fsD (firstS (lpCycle L)))))) cs = some (.frz od2 (.dK (fsD (firstS (lpCycle L))))) := upd_same
      have kM : (upd Hx cs (.frz od2 (.dK (fsD (firstS (lpCycle L)))))) D = some (.dK kvs) := by rw [upd_ne nDcs]; exact kx
      have unl2 : ∀ Hy, Same (upd Hx cs (.frz od2 (.dK (fsD (firstS (lpCycle L)))))) Hy → Same Hx (upd Hy cs (.dK (fsD (firstS (lpCycle L))))) := fun Hy sy => Same.unlock ecx sy
      generalize upd Hx cs (.frz od2 (.dK (fsD (firstS (lpCycle L))))) = M1 at oM eM kM unl2 ⊢
      refine ⟨_, rfl, ls, C, dx, _, _, rfl, oM, N.cl, N.nCs, rfl, cs, od2, _, rfl, eM, ?_⟩
      refine for_it walk_items (fun i σ Hy => ∃ (s3 s4 : Option V), σ = [some (.ref ls), some (.ref m), some (.ref D), s3, s4, some (.int (n : Nat))] ∧ Same M1 Hy ∧ ((firstS (lpCycle L)).take i).find? (fun e => !decide (e.1 + (n : Nat) * lpShift L ∈ bs)) = none) ⟨s3, s4, rfl, Same.refl _, rfl⟩ (fun i σ Hy _ ⟨_, _, _, sy, _⟩ => sy _ _ eM) ?_ ?_
      · rintro i x σ Hy Hz hi ⟨s3', s4', rfl, sy, hf'⟩ ⟨T, y, z, rfl, nT, rfl, hy, hz⟩
        rw [slen] at hi
        have er : (firstS (lpCycle L))[i]? = some (firstS (lpCycle L))[i] := List.getElem?_eq_getElem hi
        generalize (firstS (lpCycle L))[i] = r at er
        have hkv' : (fsD (firstS (lpCycle L)))[i]? = some (Sum.inl r.1, .int r.2) := by unfold fsD; rw [List.getElem?_map, er]; rfl
        dsimp only at hy hz
        rw [hkv'] at hy hz
        have ey : y = .int r.1 := by injection hy with hy; exact hy.symm
        have ez : z = .int r.2 := by injection hz with hz; exact hz.symm
        subst ey ez
        have uT := same_new nT (.tup [.int r.1, .int r.2])
        have eT : (upd Hy T (.tup [.int r.1, .int r.2])) T = some (.tup [.int r.1, .int r.2]) := upd_same
        generalize upd Hy T (.tup [.int r.1, .int r.2]) = Hz at uT eT ⊢
        have sz := sy.trans uT
        have oz := sz _ _ oM
        refine ⟨T, _, rfl, SqT.of eT, rfl, _, _, rfl, _, _, rfl, rfl, ?_⟩
        refine ⟨_, rfl, _, rfl, _, rfl, ls, C, dx, _, _, rfl, oz, N.cl, N.nSh, rfl, _, _, rfl, rfl, cm _, _, _, rfl, rfl, _, rfl, D, _, rfl, DGet.k (k := Sum.inl (r.1 + (n : Nat) * lpShift L)) (sz _ _ kM), _, rfl, ?_⟩
        rw [hkv]
        by_cases c : r.1 + (n : Nat) * lpShift L ∈ bs
        · rw [decide_eq_true c]
          exact ite2 (fun c' => absurd c' (by decide)) (fun _ => ⟨_, _, rfl, sz, find_snoc hf' er (by rw [decide_eq_true c]; rfl)⟩)
        · rw [decide_eq_false c]
          refine ite2 (fun _ => ?_) (fun c' => absurd rfl c')
          refine ⟨_, rfl, _, rfl, _, rfl, ls, C, dx, _, _, rfl, oz, N.cl, N.nPe, rfl, _, _, rfl, rfl, cm _, _, _, rfl, rfl, _, rfl, _, rfl, _, rfl, ls, C, dx, _, _, rfl, oz, N.cl, N.nSh, rfl, _, _, rfl, rfl, cm _, _, _, rfl, rfl, (by show 2 ≤ sizeLine; decide), fun t nt => ?_⟩
          have ut := same_new nt (.tup [.int (r.2 + (n : Nat) * lpPer L), .int (r.1 + (n : Nat) * lpShift L)])
          have ntcs : t ≠ cs := fun z => by rw [z, sz _ _ eM] at nt; cases nt
          refine ⟨(sz.trans ut) _ _ eM, q _ _ (s1.trans (sx.trans (unl2 _ (sz.trans ut)))) ?_⟩
          have hfound : fo1 bs ((lpCycle L).map (sft L n)) = some (r.2 + (n : Nat) * lpPer L, r.1 + (n : Nat) * lpShift L) := by
            rw [fo1_first, find_at hf' er (by rw [decide_eq_false c]; rfl)]
            rfl
          have e : foL L bs = some (r.2 + (n : Nat) * lpPer L, r.1 + (n : Nat) * lpShift L) := by
            rw [hR]
            unfold foR
            rw [hfound]
          rw [e]
          exact ⟨t, rfl, (s1.trans (sx.trans (unl2 _ sz))).free (by rw [upd_ne ntcs]; exact nt), by rw [upd_ne ntcs, upd_same]⟩
      · rintro σ Hy ⟨s3', s4', rfl, sy, hf'⟩
        rw [slen, List.take_length] at hf'
        refine ⟨sy _ _ eM, ?_⟩
        have hnone : fo1 bs ((lpCycle L).map (sft L n)) = none := by
          rw [fo1_first, hf']
          rfl
        refine ⟨_, rfl, _, _, rfl, rfl, k', Nat.lt_succ_self _, n + 1, s3', s4', rfl, sx.trans (unl2 _ sy), by omega, (fun j hj' => ?_), ?_⟩
        · by_cases e : j = n
          · rw [e]; exact hnone
          · exact hj j (by omega)
        · have e : foR L bs (k' + 1) n = if endL L = true then foR L bs k' (n + 1) else none := by
            rw [foR_eq, hnone]
          rw [hR, e]
          by_cases he : endL L = true
          · rw [if_pos he, if_pos (.inr he)]
          · rw [if_neg he, if_neg (fun z => z.elim (fun z => Nat.succ_ne_zero _ z) he)]
    · rw [if_neg hc] at hR
      have h0 : ¬ n = 0 := fun z => hc (.inl z)
      have he : endL L = false := by
        cases z : endL L with
        | false => rfl
        | true => exact absurd (.inr z) hc
      rw [decide_eq_false (show ¬ V.int ((n : Nat) : Int) = V.int 0 from fun z => by injection z with z; omega)]
      refine iteF ⟨_, rfl, ls, dx, _, rfl, hox, rfl, ls, L, rfl, lsa1.same sx, _, rfl, ?_⟩
      refine ite2 (fun c => absurd c (by rw [he]; decide)) (fun _ => q _ _ (s1.trans sx) ?_)
      rw [hR]
      rfl
end
end My

/-! ### min(xs, default=None): a list of ints, a list of pairs of ints -/
namespace MinD
open PySem
abbrev dkw : List (Str × Value) := [("default", .none)]
theorem args_ok (a : Value) : argsOk "min" ⟨[a], dkw⟩ := by unfold argsOk; kernel_rfl
theorem hname : (toString "min" ++ toString ".loop" : String) = "min.loop" := by decide
abbrev lst2 (xs : Array Value) (c : Nat) : Obj := { cls := .type "list", dict := none, data := .seq xs c, slots := #[] }
section
variable {prog : Program} {w : World} {A : Around} {R : Result → Shared → Prop} {I S : Addr} {fp wr : List Addr} {n : Nat} {P : Nat → Value → Prop} {St : Nat → Heap → Prop} {bt : Nat → Nat → Bool} {G : Heap → Prop}
/-- the order on what the walk yields, in heaps under G -/
def CmpIn (prog : Program) (w : World) (A : Around) (G : Heap → Prop) (P : Nat → Value → Prop) (bt : Nat → Nat → Bool) : Prop :=
  ∀ i j vi vj (s : Shared) (Q : Value → Shared → Prop) (E : Value → Shared → Prop), G s.heap → P i vi → P j vj → Q (.bool (bt i j)) s → wpAny (model prog w) A (richCompare .Lt vi vj) Q E s
theorem loop (W : Walks prog w A.in1 I fp wr n P St) (hcmp : CmpIn prog w A.in1 G P bt) (hG : ∀ h h' : Heap, G h → (∀ b o, b ∉ wr → b ≠ S → h.get? b = some o → h'.get? b = some o) → G h') (hSf : S ∉ fp) :
    ∀ (k j : Nat) (s : Shared) (vb : Value) (c : Nat), n - (j + 1) = k → j + 1 ≤ n → St (j + 1) s.heap → P (argBest bt j) vb → G s.heap → s.heap.get? S = some (lst2 #[vb, vb] c) →
    (∀ v h' tk, P (argBest bt (n - 1)) v → (∀ b o, b ∉ wr → b ≠ S → s.heap.get? b = some o → h'.get? b = some o) → R (.ok (.ret v)) { s with heap := h', toks := tk }) →
    codeAny (model prog w) A (.builtin "min.loop" ⟨[.ref I, .none, .ref S], dkw⟩) R s := by
  have hSw : S ∉ wr := fun h => hSf (W.sub _ h)
  intro k
  induction k with
  | zero =>
    intro j s vb c hk hj hst hPb hg hS hR
    obtain rfl : n = j + 1 := by omega
    refine codeAny_builtin F.entry_min_loop ?_
    rw [Around.under_plainId F.plain_min_loop _]
    show wpAny _ A.in1 (seqItems? (.ref S) >>= _) _ _ s
    refine wpAny_bind (wpAny_seqItems hS rfl ?_)
    show wpAny _ A.in1 (tryCatch (pyNext (.ref I)) _ >>= _) _ _ s
    refine wpAny_bind (wpAny_tryCatch (W.done s _ _ hst fun h' tk hk' => ?_))
    show wpAny _ A.in1 (updateSeq S (fun _ => #[]) >>= _) _ _ _
    refine wpAny_bind (wpAny_updateSeq (hk' S _ hSw hS) rfl (wpAny_bind (wpAny_letGo (wpAny_pure ?_))))
    exact hR vb _ tk hPb fun b o hbw hbS e => (Heap.get?_update_other _ _ (Ne.symm hbS)).trans (hk' b o hbw e)
  | succ k ih =>
    intro j s vb c hk hj hst hPb hg hS hR
    have hlt : j + 1 < n := by omega
    refine codeAny_builtin F.entry_min_loop ?_
    rw [Around.under_plainId F.plain_min_loop _]
    show wpAny _ A.in1 (seqItems? (.ref S) >>= _) _ _ s
    refine wpAny_bind (wpAny_seqItems hS rfl ?_)
    show wpAny _ A.in1 (tryCatch (pyNext (.ref I)) _ >>= _) _ _ s
    refine wpAny_bind (wpAny_tryCatch (W.item (j + 1) s _ _ hlt hst fun v h' tk hP hst' hk' => ?_))
    have hS' := hk' S _ hSw hS
    have hg' : G h' := hG _ _ hg fun b o hbw _ e => hk' b o hbw e
    show wpAny _ A.in1 (tryCatch (holding [v, v] (richCompare .Lt v vb >>= _)) _ >>= _) _ _ _
    refine wpAny_bind (wpAny_tryCatch (wpAny_holding (wpAny_bind (hcmp (j + 1) (argBest bt j) v vb _ _ _ hg' hP hPb ?_))))
    refine wpAny_bind (wpAny_holding (wpAny_truthy_bool (wpAny_bind (wpAny_letGo (wpAny_pure ?_)))))
    cases hb : bt (j + 1) (argBest bt j) with
    | true =>
      simp only [if_true]
      refine wpAny_bind (wpAny_updateSeq hS' rfl (wpAny_bind (wpAny_letGo ?_)))
      rw [hname]
      refine wpAny_pure ⟨plainId_quiet F.plain_min_loop _, ih (j + 1) _ v _ (by omega) hlt (W.frame _ _ _ hst' fun b hbf o e => ?_) (by simp only [argBest, hb, if_true]; exact hP) (hG _ _ hg' fun b o _ hbS e => (Heap.get?_update_other _ _ (Ne.symm hbS)).trans e) (Heap.get?_update_self _ hS' rfl) fun v' h'' tk'' hP' hk'' => ?_⟩
      · exact (Heap.get?_update_other _ _ (fun h : S = b => hSf (by rw [h]; exact hbf))).trans e
      · exact hR v' h'' tk'' hP' fun b o hbw hbS e => hk'' b o hbw hbS ((Heap.get?_update_other _ _ (Ne.symm hbS)).trans (hk' b o hbw e))
    | false =>
      simp only [Bool.false_eq_true, if_false]
      refine wpAny_bind (wpAny_letGo ?_)
      rw [hname]
      exact wpAny_pure ⟨plainId_quiet F.plain_min_loop _, ih (j + 1) _ vb c (by omega) hlt hst' (by simp only [argBest, hb, Bool.false_eq_true, if_false]; exact hPb) hg' hS' fun v' h'' tk'' hP' hk'' => hR v' h'' tk'' hP' fun b o hbw hbS e => hk'' b o hbw hbS (hk' b o hbw e)⟩
theorem first (W : Walks prog w A.in1 I fp wr n P St) (hcmp : CmpIn prog w A.in1 G P bt) (hG : ∀ h h' : Heap, G h → (∀ b o, b ∉ wr → b ≠ S → h.get? b = some o → h'.get? b = some o) → G h') (hSf : S ∉ fp) {s : Shared} {c : Nat} (hst : St 0 s.heap) (hg : G s.heap) (hS : s.heap.get? S = some (lst2 #[] c))
    (h0 : n = 0 → ∀ h' tk, (∀ b o, b ∉ wr → b ≠ S → s.heap.get? b = some o → h'.get? b = some o) → R (.ok (.ret .none)) { s with heap := h', toks := tk })
    (hR : 0 < n → ∀ v h' tk, P (argBest bt (n - 1)) v → (∀ b o, b ∉ wr → b ≠ S → s.heap.get? b = some o → h'.get? b = some o) → R (.ok (.ret v)) { s with heap := h', toks := tk }) :
    codeAny (model prog w) A (.builtin "min.loop" ⟨[.ref I, .none, .ref S], dkw⟩) R s := by
  have hSw : S ∉ wr := fun h => hSf (W.sub _ h)
  refine codeAny_builtin F.entry_min_loop ?_
  rw [Around.under_plainId F.plain_min_loop _]
  show wpAny _ A.in1 (seqItems? (.ref S) >>= _) _ _ s
  refine wpAny_bind (wpAny_seqItems hS rfl ?_)
  show wpAny _ A.in1 (tryCatch (pyNext (.ref I)) _ >>= _) _ _ s
  by_cases hn : n = 0
  · subst hn
    refine wpAny_bind (wpAny_tryCatch (W.done s _ _ hst fun h' tk hk' => ?_))
    show wpAny _ A.in1 (rule _ >>= _) _ _ _
    exact wpAny_bind (wpAny_rule (wpAny_pure (h0 rfl h' tk fun b o hbw _ e => hk' b o hbw e)))
  · have hn' : 0 < n := by omega
    refine wpAny_bind (wpAny_tryCatch (W.item 0 s _ _ hn' hst fun v h' tk hP hst' hk' => ?_))
    have hS' := hk' S _ hSw hS
    have hg' : G h' := hG _ _ hg fun b o hbw _ e => hk' b o hbw e
    show wpAny _ A.in1 (updateSeq S (fun _ => #[v, v]) >>= _) _ _ _
    refine wpAny_bind (wpAny_updateSeq hS' rfl ?_)
    rw [hname]
    refine wpAny_pure ⟨plainId_quiet F.plain_min_loop _, loop W hcmp hG hSf _ 0 _ v _ rfl hn' (W.frame _ _ _ hst' fun b hbf o e => ?_) hP (hG _ _ hg' fun b o _ hbS e => (Heap.get?_update_other _ _ (Ne.symm hbS)).trans e) (Heap.get?_update_self _ hS' rfl) fun v' h'' tk'' hP' hk'' => ?_⟩
    · exact (Heap.get?_update_other _ _ (fun h : S = b => hSf (by rw [h]; exact hbf))).trans e
    · exact hR hn' v' h'' tk'' hP' fun b o hbw hbS e => hk'' b o hbw hbS ((Heap.get?_update_other _ _ (Ne.symm hbS)).trans (hk' b o hbw e))
end
section
variable {prog : Program} {w : World} {A : Around} {E : Value → Shared → Prop} {s : Shared} {bt : Nat → Nat → Bool}
/-- min(l, default=None), l a list that stays -/
theorem call_list {l : Addr} {its : Array Value} {Q : Value → Shared → Prop} (hh : A.handled = none) (hl : s.heap.IsList l its)
    (hcmp : CmpIn prog w A.in1 (fun h => ∀ b o, s.heap.get? b = some o → h.get? b = some o) (fun i v => its[i]? = some v) bt)
    (h0 : its.size = 0 → ∀ h' tk, (∀ b o, s.heap.get? b = some o → h'.get? b = some o) → Q .none { s with heap := h', toks := tk })
    (hR : 0 < its.size → ∀ v h' tk, its[argBest bt (its.size - 1)]? = some v → (∀ b o, s.heap.get? b = some o → h'.get? b = some o) → Q v { s with heap := h', toks := tk }) :
    wpAny (model prog w) A (call (.builtin "min") [.ref l] dkw) Q E s := by
  have hlt : l < s.heap.objs.size := by obtain ⟨_, e, _⟩ := hl; exact Heap.lt_size e
  refine wpAny_call (codeAny_call_builtin F.plain_min F.entry_min ?_)
  have hb : wpAny (model prog w) A.in1 (Builtin.«min» ⟨[.ref l], dkw⟩) (fun fin s' => match fin with
      | .done f => (match (Except.ok f : Result) with | .ok (.ret v) => Q v s' | .ok _ => False | .error e => E e s')
      | .again c' => c'.quiet = true ∧ codeAny (model prog w) A c' (fun r s' => match r with | .ok (.ret v) => Q v s' | .ok _ => False | .error e => E e s') s') E s := by
    show wpAny _ A.in1 (Builtin.Builtins.bindParams "min" ["key", "default"] 0 ⟨[], dkw⟩ >>= _) _ _ s
    refine wpAny_bind (wpAny_of_eq (show Builtin.Builtins.bindParams "min" ["key", "default"] 0 ⟨[], dkw⟩ = pure [none, some .none] from rfl) ?_)
    refine wpAny_bind (wpAny_pure ?_)
    refine wpAny_bind (wpAny_pyIter_list hl ?_)
    refine wpAny_bind (wpAny_newObj_type ?_)
    rw [hname]
    have hsz : (s.heap.push { cls := .type "list_iterator", data := .fields #[.ref l, .int 0 0] }).objs.size = s.heap.objs.size + 1 := Heap.size_push ..
    have nS : ∀ {b : Addr} {o : Obj}, s.heap.get? b = some o → b ∉ [s.heap.objs.size] ∧ b ≠ (s.heap.push { cls := .type "list_iterator", data := .fields #[.ref l, .int 0 0] }).objs.size := fun {b o} e => by
      have hb := Heap.lt_size e
      exact ⟨fun m => Nat.lt_irrefl _ (by rw [List.mem_singleton.mp m] at hb; exact hb), by rw [hsz]; exact Nat.ne_of_lt (Nat.lt_succ_of_lt hb)⟩
    refine wpAny_pure ⟨plainId_quiet F.plain_min_loop _, first (S := (s.heap.push { cls := .type "list_iterator", data := .fields #[.ref l, .int 0 0] }).objs.size) (Walks.list (A := A.in1) hh s.heap.objs.size l (Nat.ne_of_lt hlt) its) hcmp ?_ ?_ ?_ ?_ (Heap.get?_push_size _ rfl) ?_ ?_⟩
    · exact fun h h' hg hk b o e => hk b o (nS e).1 (nS e).2 (hg b o e)
    · rw [hsz]
      intro m
      rcases List.mem_cons.mp m with e | m
      · exact absurd e (Nat.succ_ne_self _)
      · have e := List.mem_singleton.mp m
        rw [← e] at hlt
        exact absurd hlt (by exact Nat.not_lt_of_lt (Nat.lt_succ_self _))
    · exact ⟨⟨_, Heap.get?_push_of_some _ (Heap.get?_push_size _ rfl), rfl, rfl⟩, (hl.push _).push _⟩
    · exact fun b o e => Heap.get?_push_of_some _ (Heap.get?_push_of_some _ e)
    · exact fun hn h' tk hk => h0 hn h' tk fun b o e => hk b o (nS e).1 (nS e).2 (Heap.get?_push_of_some _ (Heap.get?_push_of_some _ e))
    · exact fun hn v h' tk hP hk => hR hn v h' tk hP fun b o e => hk b o (nS e).1 (nS e).2 (Heap.get?_push_of_some _ (Heap.get?_push_of_some _ e))
  simp only [checkBuiltinCall, F.kind_min]
  have ha := args_ok (.ref l)
  cases hsig : Manifest.signature? "min" with
  | none => exact wpAny_pure hb
  | some sig =>
    simp only [argsOk, hsig] at ha
    show wpAny _ A.in1 (Bind.checkArgs "min" sig ⟨[.ref l], dkw⟩) _ _ s
    rw [show Bind.checkArgs "min" sig ⟨[.ref l], dkw⟩ = pure () from ha]
    exact wpAny_pure hb
end
end MinD
namespace My
open PySem PySem.Spec PyProof.Rows L2
/-- the order of pairs -/
def pLt (x y : Int × Int) : Bool := decide (x.1 < y.1 ∨ (x.1 = y.1 ∧ x.2 < y.2))
theorem lex_pair (x y : Int × Int) : HT.lexLt [x.1, x.2] [y.1, y.2] = pLt x y := by
  rw [HT.lexLt_cons, HT.lexLt_cons, HT.lexLt_nil_nil]
  unfold pLt
  by_cases c : x.1 = y.1
  · rw [if_pos c]
    by_cases d : x.2 = y.2
    · rw [if_pos d]; simp [c, d]
    · rw [if_neg d]; simp [c]
  · rw [if_neg c]; simp [c]
theorem best_pair (f : Nat → Int × Int) : ∀ k, argBest (fun i j => pLt (f i) (f j)) k ≤ k ∧ ∀ j, j ≤ k → pLt (f j) (f (argBest (fun i j => pLt (f i) (f j)) k)) = false
  | 0 => ⟨Nat.le_refl _, fun j hj => by
      obtain rfl : j = 0 := by omega
      unfold pLt argBest; simp⟩
  | k + 1 => by
    obtain ⟨h1, h2⟩ := best_pair f k
    simp only [argBest]
    by_cases hc : pLt (f (k + 1)) (f (argBest (fun i j => pLt (f i) (f j)) k)) = true
    · rw [if_pos hc]
      refine ⟨Nat.le_refl _, fun j hj => ?_⟩
      by_cases e : j = k + 1
      · rw [e]; unfold pLt; simp
      · have h3 := h2 j (by omega)
        unfold pLt at h3 hc ⊢
        simp only [decide_eq_false_iff_not, decide_eq_true_eq] at h3 hc ⊢
        omega
    · rw [if_neg hc]
      refine ⟨by omega, fun j hj => ?_⟩
      by_cases e : j = k + 1
      · rw [e]; exact Bool.eq_false_iff.mpr hc
      · exact h2 j (by omega)
theorem vals_getR {xs : List V} {us : List Value} {i : Nat} {u : Value} (r : Vals xs us) (h : us[i]? = some u) : ∃ x, xs[i]? = some x ∧ RelV x u := by
  have hi : i < us.length := (List.getElem?_eq_some_iff.mp h).1
  have e : xs[i]? = some (xs[i]'(by rw [r.length]; exact hi)) := List.getElem?_eq_getElem _
  obtain ⟨u', hu, rx⟩ := r.get e
  rw [h] at hu
  cases hu
  exact ⟨_, e, rx⟩
def rMinI (K : PySem.W.Frag) : List V → List V → Hp → VK → Prop := fun xs zs H Q => ∃ (a : Addr) (ns : List Int), xs = [.ref a] ∧ zs = [.non] ∧ SqL K H a (ns.map V.int) ∧ (ns = [] → Q .non H) ∧ ∀ m, m ∈ ns → (∀ y ∈ ns, m ≤ y) → Q (.int m) H
def rMinP (K : PySem.W.Frag) : List V → List V → Hp → VK → Prop := fun xs zs H Q => ∃ (a : Addr) (vs : List V) (key : V → Int × Int), xs = [.ref a] ∧ zs = [.non] ∧ SqL K H a vs ∧ (∀ v ∈ vs, ∃ p, v = .ref p ∧ H p = some (.tup [.int (key v).1, .int (key v).2])) ∧ (vs = [] → Q .non H) ∧ ∀ v, v ∈ vs → (∀ u ∈ vs, pLt (key u) (key v) = false) → Q v H
section
variable {X : Cx}
theorem cr_minI (hc : X.calm = true) : CallRK X (.builtin "min") [Str.ofString "default"] (rMinI X.K) := by
  intro pins s σ H xs zs us ws Q I r rz h
  obtain ⟨a, ns, rfl, rfl, hs, q0, q⟩ := h
  obtain ⟨its, rv, hl, _⟩ := I.list hs
  obtain rfl := Vals.ref1 r
  obtain ⟨w1, rfl, e1⟩ := L2.vals1 rz
  cases e1
  have hval : ∀ (i : Nat) (v : Value), its.toArray[i]? = some v → ∃ t, v = Value.int ((ns[i]?).getD 0) t := fun i v e => by
    rw [← Array.getElem?_toList] at e
    obtain ⟨x, ex, rx⟩ := vals_getR rv e
    rw [List.getElem?_map] at ex
    cases en : ns[i]? with
    | none => rw [en] at ex; cases ex
    | some m =>
      rw [en] at ex
      have : x = .int m := by injection ex with ex; exact ex.symm
      subst this
      exact rx
  have hlen : ns.length = its.length := by rw [← rv.length, List.length_map]
  refine MinD.call_list (bt := fun i j => decide ((ns[i]?).getD 0 < (ns[j]?).getD 0)) (I.ok.hd hc) hl.isList (fun i j vi vj s' Q' E' _ hi hj hQ => CmpOf.ints_lt (fun i => (ns[i]?).getD 0) hval i j vi vj s' Q' E' hi hj hQ) (fun h0 h' tk hk => ?_) (fun h0 v h' tk hv hk => ?_)
  · have e0 : ns = [] := List.eq_nil_of_length_eq_zero (by rw [hlen]; simpa using h0)
    exact ⟨.non, H, I.kept hk, rfl, q0 e0⟩
  · obtain ⟨t, rfl⟩ := hval _ _ hv
    obtain ⟨h1, h2⟩ := argBest_lt (fun i => (ns[i]?).getD 0) (its.toArray.size - 1)
    have hsz : its.toArray.size = ns.length := by rw [hlen]; simp
    rw [hsz] at h1 h2 h0 ⊢
    refine ⟨.int _, H, I.kept hk, ⟨_, rfl⟩, q _ ?_ (fun y my => ?_)⟩
    · rw [List.getElem?_eq_getElem (by omega)]
      exact List.getElem_mem _
    · obtain ⟨j, hj⟩ := List.getElem?_of_mem my
      have hj' : j < ns.length := (List.getElem?_eq_some_iff.mp hj).1
      have h3 := h2 j (by omega)
      rw [hj] at h3
      exact h3
theorem cr_minP (hc : X.calm = true) (hu : X.A.units + 1 < cLine) : CallRK X (.builtin "min") [Str.ofString "default"] (rMinP X.K) := by
  intro pins s σ H xs zs us ws Q I r rz h
  obtain ⟨a, vs, key, rfl, rfl, hs, ht, q0, q⟩ := h
  obtain ⟨its, rv, hl, _⟩ := I.list hs
  obtain rfl := Vals.ref1 r
  obtain ⟨w1, rfl, e1⟩ := L2.vals1 rz
  cases e1
  have hval : ∀ (i : Nat) (v : Value), its.toArray[i]? = some v → ∃ (x : V) (p : Addr), vs[i]? = some x ∧ x = .ref p ∧ v = Value.ref p ∧ H p = some (.tup [.int (key x).1, .int (key x).2]) := fun i v e => by
    rw [← Array.getElem?_toList] at e
    obtain ⟨x, ex, rx⟩ := vals_getR rv e
    obtain ⟨p, rfl, hp⟩ := ht x (List.mem_of_getElem? ex)
    exact ⟨_, p, ex, rfl, rx, hp⟩
  have hlen : vs.length = its.length := rv.length
  have kOf : ∀ {i : Nat} {x : V}, vs[i]? = some x → ((vs[i]?).map key).getD (0, 0) = key x := fun {i x} e => by rw [e]; rfl
  refine MinD.call_list (bt := fun i j => pLt (((vs[i]?).map key).getD (0, 0)) (((vs[j]?).map key).getD (0, 0))) (I.ok.hd hc) hl.isList (fun i j vi vj s' Q' E' hG hi hj hQ => ?_) (fun h0 h' tk hk => ?_) (fun h0 v h' tk hv hk => ?_)
  · obtain ⟨x, p, ex, rfl, rfl, hp⟩ := hval i vi hi
    obtain ⟨y, p', ey, rfl, rfl, hp'⟩ := hval j vj hj
    dsimp only at hQ
    rw [kOf ex, kOf ey, ← lex_pair] at hQ
    obtain ⟨its1, r1, ⟨o1, g1, k1, n1, d1⟩, _⟩ := I.tuple (SqT.of hp)
    obtain ⟨its2, r2, ⟨o2, g2, k2, n2, d2⟩, _⟩ := I.tuple (SqT.of hp')
    exact HT.lt_tupInts (A := X.A.in1) ⟨o1, hG _ _ g1, k1, n1, d1⟩ ⟨o2, hG _ _ g2, k2, n2, d2⟩ (Vals.ints (ns := [(key (V.ref p)).1, (key (V.ref p)).2]) r1) (Vals.ints (ns := [(key (V.ref p')).1, (key (V.ref p')).2]) r2) hu hQ
  · have e0 : vs = [] := List.eq_nil_of_length_eq_zero (by rw [hlen]; simpa using h0)
    exact ⟨.non, H, I.kept hk, rfl, q0 e0⟩
  · obtain ⟨x, p, ex, rfl, rfl, hp⟩ := hval _ _ hv
    obtain ⟨h1, h2⟩ := best_pair (fun i => ((vs[i]?).map key).getD (0, 0)) (its.toArray.size - 1)
    have hsz : its.toArray.size = vs.length := by rw [hlen]; simp
    rw [kOf ex] at h2
    refine ⟨.ref p, H, I.kept hk, rfl, q _ (List.mem_of_getElem? ex) (fun u mu => ?_)⟩
    obtain ⟨j, hj⟩ := List.getElem?_of_mem mu
    have hj' : j < vs.length := (List.getElem?_eq_some_iff.mp hj).1
    have h3 := h2 j (by omega)
    rw [kOf hj] at h3
    exact h3
end
/-! ### first_step, first_inside -/
abbrev sFSt : Stmt := inClass (top 53) 7
abbrev sFI : Stmt := inClass (top 53) 6
abbrev nsFSt : List Str := ["self", "integer", "steps", "step", "least"]
abbrev nsFI : List Str := ["self", "members", "rows", "member", "row"]
def minO : List Int → Option Int
  | [] => none
  | x :: t => some (t.foldl (fun a b => if b < a then b else a) x)
theorem fold_min : ∀ (t : List Int) (x : Int), (t.foldl (fun a b => if b < a then b else a) x ∈ x :: t) ∧ ∀ y ∈ x :: t, t.foldl (fun a b => if b < a then b else a) x ≤ y
  | [], x => ⟨List.mem_cons_self .., fun y m => by rw [List.mem_singleton.mp m]; exact Int.le_refl _⟩
  | z :: t, x => by
    rw [List.foldl_cons]
    obtain ⟨h1, h2⟩ := fold_min t (if z < x then z else x)
    refine ⟨?_, fun y m => ?_⟩
    · rcases List.mem_cons.mp h1 with e | m
      · rw [e]
        split
        · exact List.mem_cons_of_mem _ (List.mem_cons_self ..)
        · exact List.mem_cons_self ..
      · exact List.mem_cons_of_mem _ (List.mem_cons_of_mem _ m)
    · have h3 := h2 _ (List.mem_cons_self ..)
      have w1 : (if z < x then z else x) ≤ x := by split <;> omega
      have w2 : (if z < x then z else x) ≤ z := by split <;> omega
      rcases List.mem_cons.mp m with e | m
      · rw [e]; exact Int.le_trans h3 w1
      · rcases List.mem_cons.mp m with e | m
        · rw [e]; exact Int.le_trans h3 w2
        · exact h2 y (List.mem_cons_of_mem _ m)
theorem minO_mem {ns : List Int} {m : Int} (h : minO ns = some m) : m ∈ ns ∧ ∀ y ∈ ns, m ≤ y := by
  cases ns with
  | nil => cases h
  | cons x t =>
    have e : t.foldl (fun a b => if b < a then b else a) x = m := by injection h
    have := fold_min t x
    rw [e] at this
    exact this
theorem minO_none {ns : List Int} (h : minO ns = none) : ns = [] := by
  cases ns with
  | nil => rfl
  | cons x t => cases h
theorem minO_of {ns : List Int} {m : Int} (h1 : m ∈ ns) (h2 : ∀ y ∈ ns, m ≤ y) : minO ns = some m := by
  cases e : minO ns with
  | none => rw [minO_none e] at h1; cases h1
  | some k =>
    obtain ⟨h3, h4⟩ := minO_mem e
    have := h2 k h3
    have := h4 m h1
    exact congrArg some (by omega)
def famRows (L : LP) (z : Int) : List (Int × Int) := ((famS (lpShift L) (firstS (lpCycle L))).lookup (famZ (lpShift L) z)).getD []
def candS (L : LP) (z : Int) (rs : List (Int × Int)) : List Int := rs.filterMap fun r => if z = r.2 then some r.1 else if r.2 < z then some (r.1 + (z - r.2) / lpShift L * lpPer L) else none
def fstO (L : LP) (z : Int) : Option Int := match (firstS (lpHead L)).find? (fun e => decide (e.1 = z)) with
  | some e => some e.2
  | none => minO (candS L z (famRows L z))
def optV : Option Int → V
  | none => .non
  | some m => .int m
theorem addFam_look (z k : Int) (r : Int × Int) : ∀ f : List (Int × List (Int × Int)), ((addFam z r f).lookup k).getD [] = (f.lookup k).getD [] ++ (if z = k then [r] else [])
  | [] => by
    unfold addFam
    by_cases c : z = k
    · subst c; simp [List.lookup]
    · have : (k == z) = false := by simp; exact fun q => c q.symm
      simp [List.lookup, this, c]
  | e :: t => by
    unfold addFam
    have ih := addFam_look z k r t
    by_cases c : e.1 = z
    · rw [if_pos c]
      by_cases d : z = k
      · subst d; subst c; simp [List.lookup]
      · have : (k == e.1) = false := by simp; exact fun q => d (by rw [← c, q])
        simp [List.lookup, this, d]
    · rw [if_neg c]
      by_cases d : k = e.1
      · have h1 : ¬ z = k := fun q => c (by rw [← d, q])
        simp [List.lookup, d, h1]
        exact fun q => c q.symm
      · have : (k == e.1) = false := by simp; exact d
        simp only [List.lookup, this]
        exact ih
theorem famRows_eq (L : LP) (z : Int) : famRows L z = ((firstS (lpCycle L)).filter fun e => decide (famZ (lpShift L) e.1 = famZ (lpShift L) z)).map fun e => (e.2, e.1) := by
  have h : ∀ (cs : List (Int × Int)) (acc : List (Int × List (Int × Int))), ((cs.foldl (fun f e => addFam (famZ (lpShift L) e.1) (e.2, e.1) f) acc).lookup (famZ (lpShift L) z)).getD [] = (acc.lookup (famZ (lpShift L) z)).getD [] ++ (cs.filter fun e => decide (famZ (lpShift L) e.1 = famZ (lpShift L) z)).map fun e => (e.2, e.1) := by
    intro cs
    induction cs with
    | nil => intro acc; simp
    | cons e t ih =>
      intro acc
      rw [List.foldl_cons, ih, addFam_look, List.filter_cons]
      by_cases c : famZ (lpShift L) e.1 = famZ (lpShift L) z
      · rw [if_pos c, if_pos (decide_eq_true c), List.append_assoc]; rfl
      · rw [if_neg c, if_neg (by rw [decide_eq_false c]; decide), List.append_nil]
  have := h (firstS (lpCycle L)) []
  simpa [famRows, famS] using this
theorem firstS_mem {rows : List (Int × Int)} : ∀ e ∈ firstS rows, (e.2, e.1) ∈ rows := by
  have h : ∀ (rs acc : List (Int × Int)), (∀ e ∈ acc, (e.2, e.1) ∈ rows) → (∀ r ∈ rs, r ∈ rows) → ∀ e ∈ rs.foldl putF1 acc, (e.2, e.1) ∈ rows := by
    intro rs
    induction rs with
    | nil => intro acc h1 _; exact h1
    | cons r t ih =>
      intro acc h1 h2
      rw [List.foldl_cons]
      refine ih _ (fun e me => ?_) (fun x m => h2 x (List.mem_cons_of_mem _ m))
      unfold putF1 at me
      split at me
      · exact h1 e me
      · rcases List.mem_append.mp me with m | m
        · exact h1 e m
        · rw [List.mem_singleton.mp m]; exact h2 r (List.mem_cons_self ..)
  exact h rows [] (fun e m => nomatch m) (fun r m => m)
theorem fsD_val (z : Int) : ∀ acc : List (Int × Int), valV (fsD acc) (Sum.inl z : Key) = (acc.find? fun e => decide (e.1 = z)).map fun e => V.int e.2
  | [] => rfl
  | e :: r => by
    show valV ((Sum.inl e.1, V.int e.2) :: fsD r) (Sum.inl z : Key) = _
    by_cases c : e.1 = z
    · rw [List.find?_cons_of_pos (by exact decide_eq_true c), c, valV_pos rfl]; rfl
    · rw [List.find?_cons_of_neg (by rw [decide_eq_false c]; decide), valV_neg (fun h => c (by injection h)), fsD_val z r]
theorem fam_mem {L : LP} {z : Int} {r : Int × Int} (m : r ∈ famRows L z) : r ∈ lpCycle L ∧ famZ (lpShift L) r.2 = famZ (lpShift L) z := by
  rw [famRows_eq] at m
  obtain ⟨e, me, rfl⟩ := List.mem_map.mp m
  obtain ⟨h1, h2⟩ := List.mem_filter.mp me
  exact ⟨firstS_mem e h1, of_decide_eq_true h2⟩
theorem candS_snoc {L : LP} {z : Int} {rs : List (Int × Int)} {i : Nat} {r : Int × Int} (h : rs[i]? = some r) : candS L z (rs.take (i + 1)) = candS L z (rs.take i) ++ candS L z [r] := by
  unfold candS
  rw [take_snoc h, List.filterMap_append]
def spFSt (K : PySem.W.Frag) (C : Addr) : Sp := fun vs H Q _ => ∃ (ls : Addr) (H0 : Hp) (L : LP) (z : Int), vs = [.ref ls, .int z] ∧ LsO K H0 H C ls L ∧ LpOk L ∧ z.natAbs < 2 ^ 300 ∧ ∀ H', Same H H' → Q (optV (fstO L z)) H'
section
variable {P : Program} {w : World} {K : PySem.W.Frag} {mg : Str → Option Value} {base : Heap}
theorem scFSt : FnScope nsFSt ["self", "integer"] (defScope sFSt) := ⟨rfl, rfl, rfl, by decide +kernel, rfl, by decide +kernel, by decide +kernel⟩
theorem ok_FSt {f C : Addr} {fd : FuncData} (F : Fun K "first_step" "Listing.first_step" sFSt f fd) (mm : mg "min" = none) (N : LNo K C) (MF : MCal P w K mg base 1 C "family" ["self", "integer"] (spFam K C)) : FnOk P w K mg base CX0 2 f fd ["self", "integer"] (spFSt K C) := by
  refine F.ok scFSt (fun vs H Q E h => ?_) (fun cdv A outer s H vs Q E hr h => ?_)
  · obtain ⟨ls, H0, L, z, rfl, _⟩ := h
    rfl
  obtain ⟨ls, H0, L, z, rfl, hls, hL, hz, q⟩ := h
  have hu := hu_of hr
  refine ⟨_, pss_cons (ps_if (pt_cmp (pc_din hu (pv 1) (pe_fld (pv 0) rfl))) (pss_one (ps_ret (pe_dget hu (pe_fld (pv 0) rfl) (pv 1) (fun _ _ => rfl)))) pss_nil)
    (pss_cons (ps_set (i := 2) scFSt.nd rfl (.inl rfl) (pe_lst pa_nil))
    (pss_cons (ps_for PassesOwn.never rfl (pi_list (pe_dget2 hu (pe_fld (pv 0) rfl) (pe_meth (pv 0) N.cl MF.m MF.G hr MF.b .nil pass0 (pa_cons (pv 1) pa_nil)) (pe_lst pa_nil) ⟨rfl, rfl, rfl, rfl⟩)) (pg_tup (by rfl) (pgs_cons (pg_name (i := 3) scFSt.nd rfl (.inl rfl)) (pgs_cons (pg_name (i := 4) scFSt.nd rfl (.inl rfl)) pgs_nil)))
      (pss_one (ps_if (pt_cmpR op_eq (pv 1) (pv 4) (nomark _)) (pss_one (ps_expr (pe_bm PySem.F.plainAttrs_list PySem.F.slot_list_append PySem.F.type_list_append mt_append (pv 2) (pa_cons (pv 3) pa_nil))))
        (pss_one (ps_if (pt_cmpR op_gt (pv 1) (pv 4) (nomark _)) (pss_one (ps_expr (pe_bm PySem.F.plainAttrs_list PySem.F.slot_list_append PySem.F.type_list_append mt_append (pv 2) (pa_cons (pe_op op_add (pv 3) (pe_op op_mulW (pe_op op_fdivW (pe_op op_sub (pv 1) (pv 4)) (pe_fld (pv 0) rfl)) (pe_fld (pv 0) rfl))) pa_nil)))) pss_nil)))))
    (pss_one (ps_ret (pe_callBK (cr_minI rfl) (by rfl) mm (by decide +kernel) (pa_cons (pv 2) pa_nil) (pk_cons pe_non pk_nil)))))), ?_⟩
  obtain ⟨dx, hd, cy, kh, kc, hs, cs, fm, xs, ys, kvs, la, ho, eh, ec, dh, dc, ekh, ekc, ehs, ecs, efm, hfam, nhd, ncy, nhc, nhl, ncl, hlen⟩ := hls.ex
  have hcl : (lpCycle L).length ≤ 100000 := Nat.le_trans (lpCycle_len L) hlen
  refine ⟨_, rfl, _, rfl, ls, C, dx, _, _, rfl, ho, N.cl, N.nHs, rfl, hs, _, rfl, DGet.k (k := Sum.inl z) ehs, _, rfl, ?_⟩
  have hv := fsD_val z (firstS (lpHead L))
  cases ef : (firstS (lpHead L)).find? fun e => decide (e.1 = z) with
  | some e =>
    rw [ef] at hv
    have e1 : fstO L z = some e.2 := by unfold fstO; rw [ef]
    rw [e1] at q
    have hv' : valV (fsD (firstS (lpHead L))) (Sum.inl z : Key) = some (.int e.2) := hv
    refine ite2 (fun _ => ?_) (fun c => absurd (by rw [hv']; rfl) c)
    exact ⟨_, rfl, ls, C, dx, _, _, rfl, ho, N.cl, N.nHs, rfl, _, rfl, hs, _, rfl, hv' ▸ DGet.k (k := Sum.inl z) ehs, q _ (Same.refl _)⟩
  | none =>
    rw [ef] at hv
    have e1 : fstO L z = minO (candS L z (famRows L z)) := by unfold fstO; rw [ef]
    rw [e1] at q
    have hv' : valV (fsD (firstS (lpHead L))) (Sum.inl z : Key) = none := hv
    refine ite2 (fun c => absurd c (by rw [hv']; decide)) (fun _ => ?_)
    refine ⟨(by show 0 ≤ sizeLine; decide), fun D nD => ?_⟩
    have u1 := same_new nD (.lst [])
    have e1 : (upd H D (.lst [])) D = some (.lst []) := upd_same
    generalize upd H D (.lst []) = H1 at u1 e1 ⊢
    have ho1 := u1 _ _ ho
    have efm1 := u1 _ _ efm
    refine ⟨_, rfl, ls, C, dx, _, _, rfl, ho1, N.cl, N.nFm, rfl, fm, rfl, .inl ⟨_, .inl efm1⟩, _, rfl, ls, dx, _, rfl, ho1, rfl, _, rfl, ls, dx, _, (lpShift L), z, rfl, ho1, rfl, (by show 0 ≤ sizeLine; decide), fun l0 nl0 => ?_⟩
    have u2 := same_new nl0 (.lst [])
    have e2 : (upd H1 l0 (.lst [])) l0 = some (.lst []) := upd_same
    generalize upd H1 l0 (.lst []) = H2 at u2 e2 ⊢
    have s2 := u1.trans u2
    have hx : ∃ (a : Addr) (vs : List V) (rows : List (Int × Int)), (valV kvs (Sum.inl (famZ (lpShift L) z) : Key)).getD (.ref l0) = .ref a ∧ a ≠ D ∧ H2 a = some (.lst vs) ∧ DpAll K (tupH H2) vs (rows.map rowD) ∧ famRows L z = rows ∧ rows.length ≤ 100000 := by
      rcases hfam.look (famZ (lpShift L) z) with ⟨h1, h2⟩ | ⟨l, vs, rows, h1, h2, h3, h4, h5, h6⟩
      · refine ⟨l0, [], [], by rw [h1]; rfl, fun e => ?_, e2, .nil, by unfold famRows; rw [h2]; rfl, Nat.zero_le _⟩
        rw [e, e1] at nl0
        cases nl0
      · refine ⟨l, vs, rows, by rw [h1]; rfl, fun e => ?_, s2 _ _ h4, dpAll_mono (KeepT.of s2).same _ _ h5, by unfold famRows; rw [h3]; rfl, ?_⟩
        · rw [e, nD] at h4; cases h4
        · rw [famS_all] at h6
          exact Nat.le_trans h6 (Nat.le_trans (firstS_len _) hcl)
    obtain ⟨a, vs, rows, ea, naD, eav, hvs, hrows, hrl⟩ := hx
    have ho2 := s2 _ _ ho
    have eD2 := u2 _ _ e1
    have nls : ls ≠ D := fun e => by rw [e, nD] at ho; cases ho
    have kD : ∀ {Hx : Hp}, Fx [D] H2 Hx → KeepT H2 Hx := fun {Hx} fx => ⟨fun x l e => fx _ _ (by simp; exact fun z => by rw [z, eD2] at e; cases e) e, fun x o u e => fx _ _ (by simp; exact fun z => by rw [z, eD2] at e; cases e) e⟩
    refine ⟨_, DGet.k (k := Sum.inl (famZ (lpShift L) z)) (s2 _ _ efm), a, ea, ⟨_, SqL.of eav⟩, for_list (K := K) (a := a) (xs := vs) (fun i σ Hx => ∃ (s3 s4 : Option V), σ = [some (.ref ls), some (.int z), some (.ref D), s3, s4] ∧ Fx [D] H2 Hx ∧ Hx D = some (.lst ((candS L z (rows.take i)).map V.int)) ∧ (candS L z (rows.take i)).length ≤ i) ⟨none, none, rfl, fun p o _ e => e, eD2, Nat.le_refl _⟩ (fun i σ Hx _ ⟨_, _, _, fx, _⟩ => SqL.of (fx _ _ (by simp; exact naD) eav)) ?_ ?_⟩
    · rintro i v σ Hx hv ⟨s3, s4, rfl, fx, eD, hcl'⟩
      obtain ⟨dd, hdn, hdp⟩ := dpAll_get hvs hv
      rw [List.getElem?_map] at hdn
      cases er : rows[i]? with
      | none => rw [er] at hdn; cases hdn
      | some r =>
        rw [er] at hdn
        have ed : rowD r = dd := by injection hdn
        subst ed
        have hdx := dp_mono (kD fx).same _ _ hdp
        obtain ⟨p, rfl, hp⟩ := row_inv (dp_mono (tupH_same Hx) _ _ hdx)
        have hi : i < rows.length := (List.getElem?_eq_some_iff.mp er).1
        have hmem : r ∈ famRows L z := by rw [hrows]; exact List.mem_of_getElem? er
        obtain ⟨hm1, hm2⟩ := fam_mem hmem
        obtain ⟨b1, b2, b3, b4⟩ := hL.rows r (cycle_mem hm1)
        have hox := fx _ _ (by simp; exact nls) ho2
        have hlt : ((candS L z (rows.take i)).map V.int).length < sizeLine := by
          rw [List.length_map]
          exact Nat.lt_of_le_of_lt (by omega : _ ≤ 100000) (by decide)
        refine ⟨p, _, rfl, hp, rfl, _, _, rfl, _, _, rfl, rfl, ?_⟩
        refine ⟨_, rfl, _, rfl, rfl, _, rfl, ?_⟩
        by_cases c : z = r.2
        · refine ite2 (fun _ => ?_) (fun c' => absurd (decide_eq_true (by rw [c])) c')
          refine ⟨_, rfl, .inl ⟨rfl, _, SqL.of eD⟩, _, rfl, D, _, _, rfl, rfl, eD, hlt, ?_⟩
          have ec1 : candS L z [r] = [r.1] := by unfold candS; simp [c]
          refine ⟨_, _, rfl, fx.trans (Fx.upd (by simp)), ?_, ?_⟩
          · rw [upd_same, candS_snoc er, ec1, List.map_append]; rfl
          · rw [candS_snoc er, ec1, List.length_append]; show _ + 1 ≤ i + 1; omega
        · refine ite2 (fun c' => absurd (of_decide_eq_true c') (fun e => c (by injection e))) (fun _ => ?_)
          refine ⟨_, rfl, _, rfl, _, _, rfl, rfl, _, rfl, ?_⟩
          by_cases g : r.2 < z
          · refine ite2 (fun _ => ?_) (fun c' => absurd (decide_eq_true g) c')
            have hsh : 0 < lpShift L := by
              by_cases h0 : 0 < lpShift L
              · exact h0
              · unfold famZ at hm2
                rw [if_neg h0, if_neg h0] at hm2
                omega
            have hd1 : 0 ≤ (z - r.2) / lpShift L := Int.ediv_nonneg (by omega) (by omega)
            have hd2 : (z - r.2) / lpShift L ≤ z - r.2 := Int.ediv_le_self _ (by omega)
            have hq : ((z - r.2) / lpShift L).natAbs < 2 ^ 300 := Nat.lt_of_le_of_lt (by omega : _ ≤ z.natAbs) hz
            have hpB : (lpPer L).natAbs < 2 ^ 200 := by
              have h1 := hL.per0
              have h2 := hL.perB
              omega
            have hsB : (lpShift L).natAbs < 2 ^ 200 := by
              have h2 := hL.shB
              omega
            refine ⟨_, rfl, .inl ⟨rfl, _, SqL.of eD⟩, _, rfl, _, rfl, _, rfl, _, _, rfl, rfl, _, rfl, ls, C, dx, _, _, rfl, hox, N.cl, N.nSh, rfl, _, _, rfl, rfl, wide_div hsh hsB (by decide) (by decide), _, rfl, ls, C, dx, _, _, rfl, hox, N.cl, N.nPe, rfl, _, _, rfl, rfl, wide_mul hq hpB (by decide) (by decide) (by decide), _, _, rfl, rfl, D, _, _, rfl, rfl, eD, hlt, ?_⟩
            have ec1 : candS L z [r] = [r.1 + (z - r.2) / lpShift L * lpPer L] := by unfold candS; simp [c, g]
            refine ⟨_, _, rfl, fx.trans (Fx.upd (by simp)), ?_, ?_⟩
            · rw [upd_same, candS_snoc er, ec1, List.map_append]; rfl
            · rw [candS_snoc er, ec1, List.length_append]; show _ + 1 ≤ i + 1; omega
          · refine ite2 (fun c' => absurd (of_decide_eq_true c') g) (fun _ => ?_)
            have ec1 : candS L z [r] = [] := by unfold candS; simp [c, g]
            refine ⟨_, _, rfl, fx, ?_, ?_⟩
            · rw [candS_snoc er, ec1, List.append_nil]; exact eD
            · rw [candS_snoc er, ec1, List.append_nil]; omega
    · rintro σ Hx ⟨s3, s4, rfl, fx, eD, _⟩
      have hvl : vs.length = rows.length := by have := dpAll_len hvs; rwa [List.length_map] at this
      rw [hvl, List.take_length] at eD
      have sx : Same H Hx := fx.same s2 (fun q mq => by rw [List.mem_singleton.mp mq]; exact nD)
      rw [hrows] at q
      refine ⟨_, rfl, D, _, rfl, rfl, SqL.of eD, fun e0 => ?_, fun m hm hy => ?_⟩
      · have := q Hx sx
        rw [e0] at this
        exact this
      · have := q Hx sx
        rw [minO_of hm hy] at this
        exact this
end
/-! ### first_inside -/
theorem ints_get {ns : List Int} {i : Nat} {x : V} (h : (ns.map V.int)[i]? = some x) : ∃ n, ns[i]? = some n ∧ x = .int n := by
  rw [List.getElem?_map] at h
  cases e : ns[i]? with
  | none => rw [e] at h; cases h
  | some n => rw [e] at h; exact ⟨n, rfl, by injection h with h; exact h.symm⟩
def fiL (L : LP) (ms : List Int) : List (Int × Int) := ms.filterMap fun z => (fstO L z).map fun s => (s, z)
def IsMinP (l : List (Int × Int)) : Option (Int × Int) → Prop
  | none => l = []
  | some r => r ∈ l ∧ ∀ u ∈ l, pLt u r = false
theorem pLt_tri {a b : Int × Int} (h1 : pLt a b = false) (h2 : pLt b a = false) : a = b := by
  unfold pLt at h1 h2
  simp only [decide_eq_false_iff_not] at h1 h2
  obtain ⟨a1, a2⟩ := a
  obtain ⟨b1, b2⟩ := b
  dsimp only at h1 h2
  have e1 : a1 = b1 := by omega
  have e2 : a2 = b2 := by omega
  rw [e1, e2]
theorem pLt_trans {a b c : Int × Int} (h1 : pLt b a = false) (h2 : pLt c b = false) : pLt c a = false := by
  unfold pLt at h1 h2 ⊢
  simp only [decide_eq_false_iff_not] at h1 h2 ⊢
  omega
theorem minP_same {l m : List (Int × Int)} {o p : Option (Int × Int)} (ho : IsMinP l o) (hp : IsMinP m p) (h1 : ∀ a ∈ l, a ∈ m) (h2 : ∀ b ∈ m, ∃ a ∈ l, pLt b a = false) : o = p := by
  cases o with
  | none =>
    have el : l = [] := ho
    cases p with
    | none => rfl
    | some r =>
      obtain ⟨a, ma, _⟩ := h2 r hp.1
      rw [el] at ma
      cases ma
  | some r =>
    cases p with
    | none =>
      have em : m = [] := hp
      have := h1 r ho.1
      rw [em] at this
      cases this
    | some t =>
      have hA := hp.2 r (h1 r ho.1)
      obtain ⟨a, ma, ha⟩ := h2 t hp.1
      have hB := pLt_trans (ho.2 a ma) ha
      exact congrArg some (pLt_tri hA hB)
/-- what the first comprehension makes -/
inductive OptAt (L : LP) (H0 H : Hp) : List V → List Int → Prop
  | nil : OptAt L H0 H [] []
  | cons {t : Addr} {z : Int} {vs : List V} {zs : List Int} : H0 t = none → H t = some (.tup [optV (fstO L z), .int z]) → OptAt L H0 H vs zs → OptAt L H0 H (.ref t :: vs) (z :: zs)
theorem OptAt.len {L : LP} {H0 H : Hp} : ∀ {vs : List V} {zs : List Int}, OptAt L H0 H vs zs → vs.length = zs.length
  | _, _, .nil => rfl
  | _, _, .cons _ _ h => by rw [List.length_cons, List.length_cons, h.len]
theorem OptAt.keep {L : LP} {H0 H H' : Hp} (k : KeepT H H') : ∀ {vs : List V} {zs : List Int}, OptAt L H0 H vs zs → OptAt L H0 H' vs zs
  | _, _, .nil => .nil
  | _, _, .cons n e h => .cons n (k.1 _ _ e) (h.keep k)
theorem OptAt.snoc {L : LP} {H0 H : Hp} {t : Addr} {z : Int} (n : H0 t = none) (e : H t = some (.tup [optV (fstO L z), .int z])) : ∀ {vs : List V} {zs : List Int}, OptAt L H0 H vs zs → OptAt L H0 H (vs ++ [.ref t]) (zs ++ [z])
  | _, _, .nil => .cons n e .nil
  | _, _, .cons n' e' h => .cons n' e' (h.snoc n e)
theorem OptAt.get {L : LP} {H0 H : Hp} : ∀ {vs : List V} {zs : List Int} {i : Nat} {v : V}, OptAt L H0 H vs zs → vs[i]? = some v → ∃ t z, v = .ref t ∧ zs[i]? = some z ∧ H0 t = none ∧ H t = some (.tup [optV (fstO L z), .int z])
  | _, _, _, _, .nil, h => by simp at h
  | _, _, 0, _, .cons n e _, h => by simp at h; exact ⟨_, _, h.symm, rfl, n, e⟩
  | _, _, i + 1, _, .cons _ _ r, h => by
    rw [List.getElem?_cons_succ] at h
    obtain ⟨t, z, h1, h2, h3⟩ := r.get h
    exact ⟨t, z, h1, by rw [List.getElem?_cons_succ]; exact h2, h3⟩
theorem fiL_snoc {L : LP} {ms : List Int} {i : Nat} {z : Int} (h : ms[i]? = some z) : fiL L (ms.take (i + 1)) = fiL L (ms.take i) ++ fiL L [z] := by
  unfold fiL
  rw [take_snoc h, List.filterMap_append]
def spFI (K : PySem.W.Frag) (C : Addr) : Sp := fun vs H Q _ => ∃ (ls m : Addr) (H0 : Hp) (L : LP) (ms : List Int), vs = [.ref ls, .ref m] ∧ LsO K H0 H C ls L ∧ LpOk L ∧ SqL K H m (ms.map V.int) ∧ ms.length ≤ 100000 ∧ (∀ z ∈ ms, z.natAbs < 2 ^ 300) ∧
  ∀ H' v o, Same H H' → IsMinP (fiL L ms) o → rowV H H' v o → Q v H'
section
variable {P : Program} {w : World} {K : PySem.W.Frag} {mg : Str → Option Value} {base : Heap}
theorem scFI : FnScope nsFI ["self", "members"] (defScope sFI) := ⟨rfl, rfl, rfl, by decide +kernel, rfl, by decide +kernel, by decide +kernel⟩
theorem ok_FI {f C : Addr} {fd : FuncData} (F : Fun K "first_inside" "Listing.first_inside" sFI f fd) (mm : mg "min" = none) (N : LNo K C) (MS : MCal P w K mg base 2 C "first_step" ["self", "integer"] (spFSt K C)) : FnOk P w K mg base CX0 3 f fd ["self", "members"] (spFI K C) := by
  refine F.ok scFI (fun vs H Q E h => ?_) (fun cdv A outer s H vs Q E hr h => ?_)
  · obtain ⟨ls, m, H0, L, ms, rfl, _⟩ := h
    rfl
  obtain ⟨ls, m, H0, L, ms, rfl, hls, hL, hm, hml, hzb, q⟩ := h
  have hu := hu_of hr
  refine ⟨_, pss_cons (ps_setLc (i := 2) (own := [("member", 3)]) (g := gName 3) (tt := tYes) rfl scFI.nd rfl rfl (sw_true rfl rfl rfl (by decide +kernel)) (pi_list (pv 1)) (blkOk_by (N := nsFI) (sc := defScope sFI) (by decide +kernel))
      (fun _ _ _ _ _ => pg_name (i := 3) scFI.nd rfl (.inl rfl)) (fun _ _ _ _ _ => pts_nil)
      (fun _ _ _ _ _ => pe_tup (pa_cons (pe_meth (pv 0) N.cl MS.m MS.G hr MS.b .nil pass0 (pa_cons (pv 3) pa_nil)) (pa_cons (pv 3) pa_nil))))
    (pss_one (ps_ret (pe_callBK (cr_minP rfl hu) (by rfl) mm (by decide +kernel) (pa_cons
      (pe_lc (own := [("row", 4)]) (g := gName 4) rfl scFI.nd (pi_list (pv 2)) (blkOk_by (N := nsFI) (sc := defScope sFI) (by decide +kernel))
        (fun _ _ _ _ _ => pg_name (i := 4) scFI.nd rfl (.inl rfl)) (fun _ _ _ _ _ => pts_one (pt_cmpR op_notN (pe_ix (r := rIxT K) ix_tup (pv 4) pe_int (fun _ _ => rfl)) pe_non (nomark _))) (fun _ _ _ _ _ => pv 4)) pa_nil) (pk_cons pe_non pk_nil)))), ?_⟩
  obtain ⟨dx, hd, cy, kh, kc, hs, cs, fm, xs, ys, kvs, la, ho, _⟩ := hls.ex
  refine ⟨_, rfl, m, rfl, ⟨_, hm⟩, fun D nD => lc_list (K := K) (a := m) (xs := ms.map V.int) (fun i H' => Same H H' ∧ ∃ vs, H' D = some (.lst vs) ∧ OptAt L H H' vs (ms.take i)) ⟨same_new nD _, [], upd_same, .nil⟩ (fun i H' _ ⟨s1, _⟩ => s1.seq hm) ?_ ?_⟩
  · rintro i y H1 hy ⟨s1, vs, eD, ov⟩
    obtain ⟨z, hz, rfl⟩ := ints_get hy
    have hi : i < ms.length := (List.getElem?_eq_some_iff.mp hz).1
    refine ⟨rfl, ?_⟩
    dsimp only [tYes]
    rw [if_pos rfl]
    refine ⟨_, rfl, ls, dx, _, rfl, s1 _ _ ho, rfl, _, rfl, ls, _, L, z, rfl, hls.same s1, hL, hzb z (List.mem_of_getElem? hz), fun H2 u2 => ⟨_, rfl, (by show 2 ≤ sizeLine; decide), fun t nt => ?_⟩⟩
    have u3 := same_new nt (.tup [optV (fstO L z), .int z])
    have e3 : (upd H2 t (.tup [optV (fstO L z), .int z])) t = some (.tup [optV (fstO L z), .int z]) := upd_same
    generalize upd H2 t (.tup [optV (fstO L z), .int z]) = H3 at u3 e3 ⊢
    have s3 := s1.trans (u2.trans u3)
    have hlv := ov.len
    rw [List.length_take] at hlv
    have k4 : KeepT H3 (upd H3 D (.lst (vs ++ [.ref t]))) := KeepT.upd ⟨_, (u2.trans u3) _ _ eD⟩
    refine ⟨vs, (u2.trans u3) _ _ eD, Nat.lt_of_le_of_lt (by omega : _ ≤ 100000) (by decide), same_upd s3 nD _, _, upd_same, ?_⟩
    rw [take_snoc hz]
    exact ((ov.keep (KeepT.of (u2.trans u3))).keep k4).snoc ((s1.trans u2).free nt) (k4.1 _ _ e3)
  rintro H1 ⟨s1, vs, eD, ov⟩
  rw [List.length_map, List.take_length] at ov
  refine ⟨_, rfl, D, rfl, ⟨_, SqL.of eD⟩, fun G nG => lc_list (K := K) (a := D) (xs := vs) (fun i H' => Same H1 H' ∧ ∃ us, H' G = some (.lst us) ∧ us.length ≤ i ∧ RowsAt H' us (fiL L (ms.take i)) ∧ ∀ u ∈ us, ∃ t, u = .ref t ∧ H t = none) ⟨same_new nG _, [], upd_same, Nat.le_refl _, .nil, fun u m => nomatch m⟩ (fun i H' _ ⟨s2, _⟩ => SqL.of (s2 _ _ eD)) ?_ ?_⟩
  · rintro i v H2 hv ⟨s2, us, eG, hul, ru, nu⟩
    obtain ⟨t, z, rfl, hz, nt, et⟩ := ov.get hv
    have hi : i < ms.length := (List.getElem?_eq_some_iff.mp hz).1
    have et2 := s2 _ _ et
    refine ⟨rfl, ?_⟩
    refine ⟨_, rfl, t, _, _, _, rfl, rfl, SqT.of et2, atI_nat (j := 0) rfl, ?_⟩
    cases ef : fstO L z with
    | none =>
      have e1 : fiL L [z] = [] := by unfold fiL; simp [ef]
      refine ⟨rfl, _, rfl, ite2 (fun c => absurd c (by rw [show optV none = V.non from rfl, decide_eq_true rfl]; decide)) (fun _ => ?_)⟩
      refine ⟨s2, us, eG, by omega, ?_, nu⟩
      rw [fiL_snoc hz, e1, List.append_nil]
      exact ru
    | some sp =>
      have e1 : fiL L [z] = [(sp, z)] := by unfold fiL; simp [ef]
      rw [ef] at et2
      refine ⟨rfl, _, rfl, ite2 (fun _ => ?_) (fun c => absurd (by rw [show optV (some sp) = V.int sp from rfl, decide_eq_false (fun e => nomatch e)]; rfl) c)⟩
      have k4 : KeepT H2 (upd H2 G (.lst (us ++ [.ref t]))) := KeepT.upd ⟨_, eG⟩
      refine ⟨_, rfl, us, eG, Nat.lt_of_le_of_lt (by omega : _ ≤ 100000) (by decide), same_upd s2 nG _, _, upd_same, ?_, ?_, ?_⟩
      · rw [List.length_append]; show us.length + 1 ≤ i + 1; omega
      · rw [fiL_snoc hz, e1]
        exact (ru.keep k4).app (.one (k4.1 _ _ et2))
      · intro u mu
        rcases List.mem_append.mp mu with m | m
        · exact nu u m
        · exact ⟨t, List.mem_singleton.mp m, nt⟩
  rintro H2 ⟨s2, us, eG, hul, ru, nu⟩
  rw [ov.len, List.take_length] at ru
  have hk := ru.keys
  refine ⟨G, us, keyV H2, rfl, rfl, SqL.of eG, ru.tups, fun e0 => ?_, fun v mv hv => ?_⟩
  · refine q _ _ none (s1.trans s2) ?_ rfl
    show fiL L ms = []
    rw [← hk, e0]
    rfl
  · obtain ⟨t, rfl, nt⟩ := nu v mv
    obtain ⟨t', et, ht⟩ := ru.tups _ mv
    cases et
    refine q _ _ (some (keyV H2 (.ref t))) (s1.trans s2) ⟨?_, fun u mu => ?_⟩ ⟨t, rfl, nt, ht⟩
    · rw [← hk]; exact List.mem_map_of_mem mv
    · rw [← hk] at mu
      obtain ⟨x, mx, rfl⟩ := List.mem_map.mp mu
      exact hv x mx
end
end My

namespace My
open PySem PySem.Spec PyProof.Rows L2
/-! ### two readings of one expression: the heap decides which of them holds -/
def tTwo (t u : TE) : TE := fun σ H Q => t σ H Q ∨ u σ H Q
theorem pe_two {X : Cx} {e : Expr} {t u : TE} (h1 : PE X e t) (h2 : PE X e u) : PE X e (tTwo t u) :=
  ⟨fun pins s σ H Q I h => h.elim (h1.run pins s σ H Q I) (h2.run pins s σ H Q I)⟩
/-! ### {e for .. in .. if ..}, e a whole number -/
section
variable {X : Cx}
/-- one more member -/
def setPut (w : World) (D : Addr) (S : Int → Bool) (n : Nat) (k : Int) : HO := SetO w D (fun j => S j || decide (j = k)) (if S k = true then n else n + 1)
def set0 (w : World) (D : Addr) : HO := SetO w D (fun _ => false) 0
/-- what a turn of the comprehension is to reach: Nx -/
def scTurn (w : World) (D : Addr) (g : TG) (tt : TT) (te : TE) (vs : List Nat) (σ : L2.St) (Nx : Hp → Prop) (x : V) (H' : Hp) : Prop :=
  g x (wipe σ vs) H' fun σ2 H2 => wipe σ2 vs = wipe σ vs ∧ tt σ2 H2 fun b H3 => if b = true then te σ2 H3 fun y H4 => ∃ (k : Int) (S : Int → Bool) (n : Nat), y = .int k ∧ H4 D = some (SetO w D S n) ∧ n + 1 < scanBound ∧ Nx (upd H4 D (setPut w D S n k)) else Nx H3
def scWalk (w : World) (D : Addr) (J : It) (g : TG) (tt : TT) (te : TE) (vs : List Nat) (σ : L2.St) (Q : Hp → Prop) (H1 : Hp) : Prop :=
  ∃ W : Nat → Nat → Hp → Prop, (∃ m, W 0 m (upd H1 D (set0 w D))) ∧ ∀ i m H, W i m H → (J.stop i H ∧ Q H) ∨ (J.go i H ∧ ∃ Nx : Hp → Prop, (∀ H', Nx H' → ∃ m', m' < m ∧ W (i + 1) m' H') ∧ ∀ x H', J.yld i H x H' → scTurn w D g tt te vs σ Nx x H')
def tScI (w : World) (wi : TI) (g : TG) (tt : TT) (te : TE) (vs : List Nat) : TE := fun σ H Q => wi σ H fun J H1 => ∀ D, H1 D = none → scWalk w D J g tt te vs σ (Q (.ref D)) H1
theorem set_laid {pins : List (Addr × Obj)} {σ : L2.St} {H : Hp} {s : Shared} (I : Inv X pins σ H s) : Inv X pins σ (upd H s.heap.objs.size (set0 X.w s.heap.objs.size)) { s with heap := s.heap.push { cls := .type "set", dict := none, data := .set #[] 0 (.fresh 0 0 (!X.w.params.followText "set-order")) } } :=
  I.laid (t' := s.toks) (fun _ _ e => Heap.get?_push_of_some _ e) (Nat.le_refl _) (setO_new (setR_fresh X.w))
theorem pe_scI {elt tg iter : Expr} {ifs : List Expr} {scope : Scope} {own : List (PySem.Str × Nat)} {pos : Pos} {wi : TI} {g : TG} {tt : TT} {te : TE} (calm : X.calm = true) (nd : X.N.Nodup) (hi : PI X tg iter wi) (ok : BlkOk X.N X.env.scope scope own)
    (hg : ∀ (s : Shared) (H : Hp) (C : Addr) (cl : List (PySem.Str × Addr)) (fp : List Addr), PG (X.blk s H scope (compEnvC scope cl C X.env) fp) tg g)
    (ht : ∀ (s : Shared) (H : Hp) (C : Addr) (cl : List (PySem.Str × Addr)) (fp : List Addr), PTs (X.blk s H scope (compEnvC scope cl C X.env) fp) ifs tt)
    (he : ∀ (s : Shared) (H : Hp) (C : Addr) (cl : List (PySem.Str × Addr)) (fp : List Addr), PE (X.blk s H scope (compEnvC scope cl C X.env) fp) elt te)
    (fold : ∀ x, foldedSetIterable iter X.env x = pure x := by intro _; rfl) : PE X (.SetComp elt [⟨tg, iter, ifs, 0⟩] scope pos) (tScI X.w wi g tt te (own.map (·.2))) := by
  constructor
  intro pins s0 σ H0 Q J0 want
  rw [PpSet.eval_SetComp]
  have clo : ∀ y ∈ scope.names, y.2 = .free → ∃ c, X.env.cells.lookup y.1 = some c := by
    intro y my ey
    rcases ok.free y my ey with q | q
    · exact J0.ok.has _ (.inl q)
    · exact J0.ok.has _ (.inr q)
  refine wpAny_comprehension_free rfl fold (closure_ok clo) ok.kind (fun y my ey => by rw [ok.uniq y my, ey]) (thn (hi.run pins s0 σ H0 _ J0 want) fun _ _ first => thn first fun _ s1 made => ?_)
  obtain ⟨it, fp, tn, J, H1, rfl, J1, T, at0, seen, walk⟩ := made
  refine PpSet.newSet_ok (newEnv_comp ?_)
  have J2 := set_laid J1
  have free1 : H1 s1.heap.objs.size = none := J1.hok.fresh (Nat.le_refl _)
  obtain ⟨W, ⟨m0, w0⟩, turn⟩ := walk _ free1
  have low : ∀ b ∈ fp, b < s1.heap.objs.size := fun b mb => by obtain ⟨o, e, _⟩ := T.obj _ _ at0 b mb; exact Heap.lt_size e
  -- the state behind the new set: s2, its abstract heap: H2, the set's place: D
  generalize es : ({ s1 with heap := s1.heap.push { cls := .type "set", dict := none, data := .set #[] 0 (.fresh 0 0 (!X.w.params.followText "set-order")) } } : Shared) = s2 at J2 ⊢
  have hs2 : ∀ b o, s1.heap.get? b = some o → s2.heap.get? b = some o := fun b o e => by rw [← es]; exact Heap.get?_push_of_some _ e
  have sz2 : s1.heap.objs.size < s2.heap.objs.size := by rw [← es, show ({ s1 with heap := s1.heap.push { cls := .type "set", dict := none, data := .set #[] 0 (.fresh 0 0 (!X.w.params.followText "set-order")) } } : Shared).heap.objs.size = s1.heap.objs.size + 1 from Heap.size_push ..]; exact Nat.lt_succ_self _
  have fps : ∀ b ∈ fp, FpOk X pins (upd H1 s1.heap.objs.size (set0 X.w s1.heap.objs.size)) b ∧ b < s2.heap.objs.size := by
    intro b mb
    refine ⟨⟨?_, (seen b mb).2⟩, Nat.lt_trans (low b mb) sz2⟩
    rw [upd_ne (Nat.ne_of_lt (low b mb))]
    exact (seen b mb).1
  generalize ed : s1.heap.objs.size = D at *
  generalize eh : upd H1 D (set0 X.w D) = H2 at *
  have at2 : tn 0 s2.heap := T.keep _ _ _ at0 fun b _ o e => hs2 b o e
  have JB := block_start J2 ok nd fps
  have PGb := hg s2 H2 s2.heap.objs.size (cellsFrom (s2.heap.objs.size + 1) scope.names (cloFrom X.env.cells scope.names [])) fp
  have PTb := ht s2 H2 s2.heap.objs.size (cellsFrom (s2.heap.objs.size + 1) scope.names (cloFrom X.env.cells scope.names [])) fp
  have PEb := he s2 H2 s2.heap.objs.size (cellsFrom (s2.heap.objs.size + 1) scope.names (cloFrom X.env.cells scope.names [])) fp
  show codeAny _ _ (.compStart _ 0 (.ref it) (.ref D) (compEnvC scope (cellsFrom (s2.heap.objs.size + 1) scope.names (cloFrom X.env.cells scope.names [])) s2.heap.objs.size X.env)) (compPost (model X.prog X.w) X.A X.xe none _ (.ref D) s2.heap.objs.size) { s2 with heap := pushCells (s2.heap.push { cls := .type "dict", data := .dict #[] }) scope.names }
  generalize ec : compEnvC scope (cellsFrom (s2.heap.objs.size + 1) scope.names (cloFrom X.env.cells scope.names [])) s2.heap.objs.size X.env = ce at JB PGb PTb PEb ⊢
  have ceL : ce.locals = s2.heap.objs.size := by rw [← ec]; rfl
  generalize e3 : ({ s2 with heap := pushCells (s2.heap.push { cls := .type "dict", data := .dict #[] }) scope.names } : Shared) = s3 at JB ⊢
  have at3 : tn 0 s3.heap := T.keep _ _ _ at2 fun b _ o e => by rw [← e3]; exact pushCells_keeps _ _ _ _ (Heap.get?_push_of_some _ e)
  have off : ∀ b ∈ fp, H2 b = none := fun b mb => (fps b mb).1.1
  have stat : ∀ {σ' : L2.St} {H' : Hp} {s' : Shared}, Inv (X.blk s2 H2 scope ce fp) [] σ' H' s' → (∀ b ∈ fp, H' b = none) → ∀ b ∈ fp, FpOk (X.blk s2 H2 scope ce fp) [] H' b := by
    intro σ' H' s' J' n' b mb
    exact ⟨n' b mb, (J'.ok.exf b mb).1, J'.ok.exfs b mb, .inl mb, fun x c e => (J'.ok.exf b mb).2 x c e, fun p mp => absurd (show p ∈ ([] : List (Addr × Obj)) ++ [] from mp) (by simp)⟩
  let Iv : Nat → Shared → Prop := fun n s' => ∃ i H', Inv (X.blk s2 H2 scope ce fp) [] (wipe σ (own.map (·.2))) H' s' ∧ tn i s'.heap ∧ (∀ b ∈ fp, H' b = none) ∧ W i n H'
  have loop : codeAny (model X.prog X.w) X.A (.compLoop (.SetComp elt [⟨tg, iter, ifs, 0⟩] scope pos) 0 (.ref it) (.ref D) ce) (compPost (model X.prog X.w) X.A X.xe none (EP X pins σ Q) (.ref D) s2.heap.objs.size) s3 := by
    refine PpSet.compLoopS_any Iv ?_ m0 ⟨0, H2, JB, at3, off, w0⟩
    rintro n s4 ⟨i, H4, J4, at4, n4, w4⟩
    rcases turn i n H4 w4 with ⟨stop, fin⟩ | ⟨go, Nx, hNx, step⟩
    · refine thnF (T.done (X.blk s2 H2 scope ce fp) rfl rfl rfl calm i [] s4 _ H4 (fun _ _ => False) J4 (stat J4 n4) at4 stop) fun r s5 ⟨hr, J5⟩ => ?_
      subst hr
      have back : Inv X pins σ H4 s5 := J2.call' (ch := fp) J5.os J5.base J5.hok J5.bare fun b mb => ⟨(fps b mb).1.2.2.2.1, (fps b mb).1.2.1, (fps b mb).1.2.2.2.2.1, (fps b mb).1.2.2.2.2.2⟩
      have nC : H4 s2.heap.objs.size = none := by rw [← ceL]; exact J5.free
      obtain ⟨mm, hmm, _⟩ := J5.loc
      have hmm' : s5.heap.Ns s2.heap.objs.size mm := by rw [← ceL]; exact hmm
      obtain ⟨f0, f1, f2, f3, f4, f5⟩ := J2.fpOk (Nat.le_refl _) nC
      exact ⟨mm, hmm', fun h'' sb => ⟨.ref D, H4, back.turned (t' := s5.toks) (fun b o hb e => (sb.2 b hb).trans e) f0 f1 f3 f4 f5, rfl, fin⟩⟩
    · refine thnF (T.item (X.blk s2 H2 scope ce fp) rfl rfl rfl calm i [] s4 _ H4 (fun _ _ => False) J4 (stat J4 n4) at4 go) fun r s5 ⟨u, hr, h5⟩ => ?_
      subst hr
      refine thnF h5 fun _ s6 ⟨x, H6, J6, r6, y6, at6, n6⟩ => ?_
      have J6' := J6.pinned (stat J6 n6) (T.obj _ _ at6)
      refine thnF (PGb.run _ s6 _ H6 x u _ J6' r6 (step x H6 y6)) fun _ s7 ⟨σ7, H7, J7, w7, q7⟩ => ?_
      refine thnF (PTb.run _ s7 σ7 H7 _ J7 q7) fun b s8 ⟨H8, J8, q8⟩ => ?_
      have next : ∀ {s' : Shared} {H' : Hp}, Inv (X.blk s2 H2 scope ce fp) ([] ++ pinsAt fp s6.heap) σ7 H' s' → Nx H' → ∃ m, m < n ∧ Iv m s' := by
        intro s' H' J' nx
        obtain ⟨m', lt, w'⟩ := hNx H' nx
        have still : ∀ b ∈ fp, ∀ o, s6.heap.get? b = some o → s'.heap.get? b = some o ∧ H' b = none := fun b mb o e => by
          have z := J'.pin (b, o) (List.mem_append_right _ (List.mem_append_right _ (mem_pinsAt mb e)))
          exact ⟨z.1, z.2.1⟩
        refine ⟨m', lt, i + 1, H', (J'.unpinned (pins := [])).weak (by rw [← w7, wipe_length]) (fun j v e => ?_), T.keep _ _ _ at6 fun b mb o e => (still b mb o e).1, fun b mb => ?_, w'⟩
        · rw [← w7] at e
          exact (wipe_some e).1
        · obtain ⟨o, e, _⟩ := T.obj _ _ at6 b mb
          exact (still b mb o e).2
      cases b with
      | false =>
        rw [if_neg (by decide)] at q8 ⊢
        exact next J8 q8
      | true =>
        rw [if_pos rfl] at q8 ⊢
        refine thnF (PEb.run _ s8 σ7 H8 _ J8 q8) fun v s9 ⟨y, H9, J9, r9, k, S, c, ey, eD, room, nx⟩ => ?_
        subst ey
        obtain ⟨tk, rfl⟩ := r9
        exact thnF (mt_sadd (X := X.blk s2 H2 scope ce fp) _ s9 σ7 H9 (.ref D) [.int k] (.ref D) [.int k tk] (fun v' H' => Nx H') J9 rfl (.cons ⟨tk, rfl⟩ .nil) ⟨D, k, S, c, rfl, rfl, eD, room, nx⟩) fun _ s' ⟨_, H', J', _, nx'⟩ => next J' nx'
  exact PpSet.codeAny_compStart_set loop (T.self X.A 0 _ _ _ at3 loop)
end
/-- the comprehension over anything that Walk serves -/
theorem sc_it {w : World} {K : PySem.W.Frag} {g : TG} {tt : TT} {te : TE} {vs : List Nat} {σ : L2.St} {H1 : Hp} {D : Addr} {Qd : Hp → Prop} {a : Addr} {xs : List V} (Pv : Nat → Hp → Prop) (h0 : Pv 0 (upd H1 D (set0 w D))) (hl : ∀ i H, i ≤ xs.length → Pv i H → SqL K H a xs)
    (hs : ∀ i x H, xs[i]? = some x → Pv i H → scTurn w D g tt te vs σ (Pv (i + 1)) x H) (hd : ∀ H, Pv xs.length H → Qd H) : scWalk w D (Itl K a) g tt te vs σ Qd H1 := by
  refine ⟨fun i m H => m = xs.length - i ∧ i ≤ xs.length ∧ Pv i H, ⟨_, rfl, Nat.zero_le _, h0⟩, ?_⟩
  rintro i m H ⟨rfl, le, p⟩
  have q := hl i H le p
  rcases Nat.lt_or_ge i xs.length with lt | ge
  · refine .inr ⟨⟨xs, xs[i], q, by simp [lt]⟩, Pv (i + 1), fun H' p' => ⟨xs.length - (i + 1), by omega, rfl, lt, p'⟩, fun x H' y => ?_⟩
    obtain ⟨e, y⟩ := y
    rw [e]
    exact hs i x H (y xs q) p
  · have e : i = xs.length := Nat.le_antisymm le ge
    subst e
    exact .inl ⟨⟨xs, q, Nat.le_refl _⟩, hd H p⟩
end My

namespace My
open PySem PySem.Spec PyProof.Rows L2
/-! ### sorted(a set of whole numbers), any number of them -/
theorem entry_ints {es : List (Int × Value)} (g : ∀ e ∈ es, GoodE e) {vs : List Value} (pm : vs.Perm (es.map (·.2))) : (∀ v ∈ vs, ∃ i t, v = Value.int i t) ∧ (vs.map SrtO.iv).Perm (es.map L2.keyOf) := by
  refine ⟨fun v mv => ?_, ?_⟩
  · obtain ⟨e, me, q⟩ := List.mem_map.mp (pm.mem_iff.mp mv)
    obtain ⟨k, tk, h, _⟩ := g e me
    exact ⟨k, tk, by rw [← q]; exact h⟩
  · refine (pm.map SrtO.iv).trans (List.Perm.of_eq ?_)
    rw [List.map_map]
    refine List.map_congr_left fun e me => ?_
    obtain ⟨k, tk, h, _⟩ := g e me
    show SrtO.iv e.2 = L2.keyOf e
    unfold L2.keyOf
    rw [h]
    rfl
def rSortedSetI (w : World) : List V → Hp → VK → Prop := fun vs H Q => ∃ (a : Addr) (S : Int → Bool) (n : Nat), vs = [V.ref a] ∧ H a = some (SetO w a S n) ∧
  ∀ (ns : List Int) (p : Addr), ns.Pairwise (· < ·) → (∀ k : Int, k ∈ ns ↔ S k = true) → H p = none → Q (.ref p) (upd H p (.lst (ns.map V.int)))
theorem cr_sortedSetI {X : Cx} (calm : X.calm = true) : CallR X (.builtin "sorted") (rSortedSetI X.w) := by
  intro pins s σ H vs us Q I rv want
  obtain ⟨a, S, n, rfl, ea, q⟩ := want
  rw [Vals.ref1 rv]
  obtain ⟨o, es, ep, t, ho, hex, hd, g, nd, hm, hb, hf, hn, hr, hl⟩ := setO_get I ea
  refine Calls.call_function_entry kind_sorted plain_sorted entry_sorted (args_sorted1 _) ?_
  unfold Builtin.«sorted»
  refine wpAny_bind (m := checkCount "sorted" 1 1 _) (wpAny_pure ?_)
  refine wpAny_bind (collect_set (A := X.A.in1) (I.ok.hd calm) ⟨o, ho, hex.1, hd⟩ hf hb hr hl fun s1 out keep1 size1 gens1 os1 pm => ?_)
  obtain ⟨hints, hperm⟩ := entry_ints g pm
  have hI := SrtO.ints_iv hints
  have hlen : out.length ≤ sizeLine := by
    rw [pm.length_eq, List.length_map, Array.length_toList]
    exact Nat.le_trans (Nat.le_of_lt hb) (by rw [sizeLine_eq]; decide)
  refine wpAny_bind (wpAny_newList ?_ hlen)
  have atL : (s1.heap.push (seqObj "list" out.toArray 0)).get? s1.heap.objs.size = some (seqObj "list" out.toArray 0) := Heap.get?_push_size _ rfl
  refine wpAny_bind (wpAny_holding (wpAny_call_entry slot_list_sort ⟨_, atL, rfl⟩ entry_list_sort (SrtO.list_sort_ord SrtO.swo_int atL hlen (fun two => SrtO.ints_sortable hI two) fun fin srt stb => ⟨_, rfl, ?_⟩) (args_list_sort _)))
  obtain ⟨k1, k2, k3⟩ := SrtO.ints_out hI srt stb
  obtain ⟨c, hc⟩ := sortedHeap_at (vs := out) (out := fin.toArray) atL
  have pn : (fin.map SrtO.iv).Perm (es.toList.map L2.keyOf) := k2.trans hperm
  have up : (fin.map SrtO.iv).Pairwise (· < ·) := by
    have dis : (fin.map SrtO.iv).Nodup := pn.nodup_iff.mpr nd
    exact (k3.and dis).imp fun {x y} h => by have h1 := h.1; have h2 := h.2; omega
  have hz : ((fin.map SrtO.iv).map V.int).length ≤ sizeLine := by
    rw [List.length_map, pn.length_eq, List.length_map, Array.length_toList]
    exact Nat.le_trans (Nat.le_of_lt hb) (by rw [sizeLine_eq]; decide)
  have free : H s1.heap.objs.size = none := I.hok.fresh size1
  have keep : ∀ b u, s.heap.get? b = some u → (sortedHeap (s1.heap.push (seqObj "list" out.toArray 0)) s1.heap.objs.size out fin.toArray).get? b = some u := fun b u e => by
    have e1 := keep1 b u e
    have lt := Heap.lt_size e1
    rw [sortedHeap_old (Nat.ne_of_lt lt) (by rw [size_push']; exact Nat.lt_succ_of_lt lt)]
    exact Heap.get?_push_of_some _ e1
  refine wpAny_pure ⟨_, rfl, ?_⟩
  have J : L2.Inv X pins σ (upd H s1.heap.objs.size (.lst ((fin.map SrtO.iv).map V.int))) { s with heap := sortedHeap (s1.heap.push (seqObj "list" out.toArray 0)) s1.heap.objs.size out fin.toArray, gens := s1.gens, drawn := s1.drawn, toks := s1.toks } :=
    I.call (ch := []) (Un.laid keep size1 free) (I.hok.laid keep size1 ⟨hz, fin, c, vals_of_ints k1, hc⟩) (by rw [gens1]; exact I.bare) (fun _ m => nomatch m)
  refine ⟨.ref s1.heap.objs.size, upd H s1.heap.objs.size (.lst ((fin.map SrtO.iv).map V.int)), ?_, rfl, q _ _ up (fun k => (pn.mem_iff.trans (hm k).symm)) free⟩
  obtain ⟨h1, g1, d1, t1, o1⟩ := s1
  have eo : o1 = s.os := os1
  subst eo
  exact J
/-! ### a part F of the heap H that never changes: it holds all tuples, and no place that may be written -/
structure Fz (F H : Hp) : Prop where
  sm : Same F H
  kt : KeepT H F
def extF (F H H' : Hp) : Hp := fun a => match H a with
  | none => H' a
  | some _ => F a
theorem extF_new {F H H' : Hp} {a : Addr} (h : H a = none) : extF F H H' a = H' a := by unfold extF; rw [h]
theorem extF_old {F H H' : Hp} {a : Addr} (h : H a ≠ none) : extF F H H' a = F a := by
  unfold extF
  cases e : H a with
  | none => exact absurd e h
  | some o => rfl
theorem some_ne {H : Hp} {a : Addr} {o : HO} (h : H a = some o) : H a ≠ none := fun z => by rw [h] at z; cases z
theorem ne_some {H : Hp} {a : Addr} (h : H a ≠ none) : ∃ o, H a = some o := by
  cases e : H a with
  | none => exact absurd e h
  | some o => exact ⟨o, rfl⟩
/-- from (F, H) to (F', H'): only the places of M were written, what was no part of F is none of F' -/
structure Adv (M : List Addr) (F H F' H' : Hp) : Prop where
  fz : Fz F' H'
  kf : ∀ a, H a ≠ none → F' a = F a
  kh : ∀ a o, a ∉ M → H a = some o → H' a = some o
  lv : ∀ a, H a ≠ none → H' a ≠ none
theorem Fz.data {K : PySem.W.Frag} {F H : Hp} (z : Fz F H) {v : V} {d : PyData} (h : Dt K H v d) : Dp K F v d := dp_mono (fun a o e => by
  unfold tupH at e
  split at e
  · rename_i xs e1; cases e; exact z.kt.1 _ _ e1
  · rename_i o1 u e1; cases e; exact z.kt.2 _ _ _ e1
  · cases e) _ _ h
theorem Fz.dataAll {K : PySem.W.Frag} {F H : Hp} (z : Fz F H) {vs : List V} {ds : List PyData} (h : DpAll K (tupH H) vs ds) : DpAll K F vs ds := dpAll_mono (fun a o e => by
  unfold tupH at e
  split at e
  · rename_i xs e1; cases e; exact z.kt.1 _ _ e1
  · rename_i o1 u e1; cases e; exact z.kt.2 _ _ _ e1
  · cases e) _ _ h
theorem Fz.out {F H : Hp} (z : Fz F H) {a : Addr} (h : H a = none) : F a = none := z.sm.free h
theorem Adv.refl {M : List Addr} {F H : Hp} (z : Fz F H) : Adv M F H F H := ⟨z, fun _ _ => rfl, fun _ _ _ e => e, fun _ e => e⟩
theorem Adv.trans {M : List Addr} {F H F1 H1 F2 H2 : Hp} (a : Adv M F H F1 H1) (b : Adv M F1 H1 F2 H2) : Adv M F H F2 H2 :=
  ⟨b.fz, fun p e => (b.kf p (a.lv p e)).trans (a.kf p e), fun p o n e => b.kh p o n (a.kh p o n e), fun p e => b.lv p (a.lv p e)⟩
theorem Adv.mono {M M' : List Addr} {F H F' H' : Hp} (a : Adv M F H F' H') (h : ∀ p ∈ M, p ∈ M') : Adv M' F H F' H' := ⟨a.fz, a.kf, fun p o n e => a.kh p o (fun m => n (h p m)) e, a.lv⟩
theorem Adv.same {M : List Addr} {F H F' H' : Hp} (a : Adv M F H F' H') (z : Fz F H) : Same F F' := fun p o e => by
  rw [a.kf p (some_ne (z.sm _ _ e))]
  exact e
theorem Adv.sm {F H F' H' : Hp} (a : Adv [] F H F' H') : Same H H' := fun p o e => a.kh p o (by simp) e
theorem Adv.any {M : List Addr} {F H F' H' : Hp} (a : Adv [] F H F' H') : Adv M F H F' H' := a.mono fun p m => nomatch m
theorem Adv.fx {M : List Addr} {F H F' H' : Hp} (a : Adv M F H F' H') : Fx M H H' := fun p o n e => a.kh p o n e
/-- a place that is free behind was free before -/
theorem Adv.free {M : List Addr} {F H F' H' : Hp} (a : Adv M F H F' H') {p : Addr} (h : H' p = none) : H p = none := by
  cases e : H p with
  | none => rfl
  | some o => exact absurd h (a.lv p (some_ne e))
theorem Adv.off {M : List Addr} {F H F' H' : Hp} (a : Adv M F H F' H') {p : Addr} (h : H p ≠ none) (n : F p = none) : F' p = none := (a.kf p h).trans n
/-- a callee has only laid new objects: all of them are taken into F -/
theorem Adv.of {F H H' : Hp} (z : Fz F H) (s : Same H H') : Adv [] F H (extF F H H') H' := by
  refine ⟨⟨fun p o e => ?_, fun p xs e => ?_, fun p o u e => ?_⟩, fun p e => extF_old e, fun p o _ e => s _ _ e, fun p e => ?_⟩
  · cases h : H p with
    | none => rw [extF_new h] at e; exact e
    | some q => rw [extF_old (some_ne h)] at e; exact s _ _ (z.sm _ _ e)
  · cases h : H p with
    | none => rw [extF_new h]; exact e
    | some q =>
      rw [extF_old (some_ne h)]
      rw [s _ _ h] at e
      exact z.kt.1 _ _ (by rw [h]; exact e)
  · cases h : H p with
    | none => rw [extF_new h]; exact e
    | some q =>
      rw [extF_old (some_ne h)]
      rw [s _ _ h] at e
      exact z.kt.2 _ _ _ (by rw [h]; exact e)
  · obtain ⟨o, h⟩ := ne_some e
    exact some_ne (s _ _ h)
/-- one new object, taken into F -/
theorem Adv.new {F H : Hp} (z : Fz F H) {p : Addr} (np : H p = none) (o : HO) : Adv [] F H (upd F p o) (upd H p o) := by
  refine ⟨⟨fun q u e => ?_, fun q xs e => ?_, fun q b u e => ?_⟩, fun q e => ?_, fun q u _ e => ?_, fun q e => ?_⟩
  · by_cases c : q = p
    · subst c; rw [upd_same] at e ⊢; exact e
    · rw [upd_ne c] at e ⊢; exact z.sm _ _ e
  · by_cases c : q = p
    · subst c; rw [upd_same] at e ⊢; exact e
    · rw [upd_ne c] at e ⊢; exact z.kt.1 _ _ e
  · by_cases c : q = p
    · subst c; rw [upd_same] at e ⊢; exact e
    · rw [upd_ne c] at e ⊢; exact z.kt.2 _ _ _ e
  · rw [upd_ne (fun c => e (by rw [c]; exact np))]
  · rw [upd_ne (ne_of_none e np)]; exact e
  · rw [upd_ne (fun c => e (by rw [c]; exact np))]; exact e
/-- no tuple, not locked -/
def soft : HO → Prop
  | .tup _ => False
  | .frz _ _ => False
  | _ => True
/-- one new object that may be written later: it stays out of F -/
theorem Adv.put {M : List Addr} {F H : Hp} (z : Fz F H) {p : Addr} (np : H p = none) {o : HO} (ho : soft o) : Adv M F H F (upd H p o) := by
  refine ⟨⟨fun q u e => ?_, fun q xs e => ?_, fun q b u e => ?_⟩, fun q e => rfl, fun q u _ e => ?_, fun q e => ?_⟩
  · rw [upd_ne (ne_of_none (z.sm _ _ e) np)]; exact z.sm _ _ e
  · by_cases c : q = p
    · subst c; rw [upd_same] at e; cases e; exact ho.elim
    · rw [upd_ne c] at e; exact z.kt.1 _ _ e
  · by_cases c : q = p
    · subst c; rw [upd_same] at e; cases e; exact ho.elim
    · rw [upd_ne c] at e; exact z.kt.2 _ _ _ e
  · rw [upd_ne (ne_of_none e np)]; exact e
  · rw [upd_ne (fun c => e (by rw [c]; exact np))]; exact e
/-- a place that is no part of F is written -/
theorem Adv.write {M : List Addr} {F H : Hp} (z : Fz F H) {p : Addr} (m : p ∈ M) (n : F p = none) {o : HO} (ho : soft o) : Adv M F H F (upd H p o) := by
  refine ⟨⟨fun q u e => ?_, fun q xs e => ?_, fun q b u e => ?_⟩, fun q e => rfl, fun q u nm e => ?_, fun q e => ?_⟩
  · rw [upd_ne (fun c => by rw [c, n] at e; cases e)]; exact z.sm _ _ e
  · by_cases c : q = p
    · subst c; rw [upd_same] at e; cases e; exact ho.elim
    · rw [upd_ne c] at e; exact z.kt.1 _ _ e
  · by_cases c : q = p
    · subst c; rw [upd_same] at e; cases e; exact ho.elim
    · rw [upd_ne c] at e; exact z.kt.2 _ _ _ e
  · rw [upd_ne (fun c => nm (by rw [c]; exact m))]; exact e
  · by_cases c : q = p
    · subst c; rw [upd_same]; exact fun z => nomatch z
    · rw [upd_ne c]; exact e
/-- a place taken out of F again: a new object that may be written later -/
def wo (p : Addr) (F : Hp) : Hp := fun a => if a = p then none else F a
theorem wo_same {p : Addr} {F : Hp} : wo p F p = none := by unfold wo; rw [if_pos rfl]
theorem wo_ne {p a : Addr} {F : Hp} (h : a ≠ p) : wo p F a = F a := by unfold wo; rw [if_neg h]
theorem Adv.drop {M : List Addr} {F H F' H' : Hp} (a : Adv M F H F' H') {p : Addr} (np : H p = none) {o : HO} (e1 : H' p = some o) (ho : soft o) : Adv M F H (wo p F') H' := by
  refine ⟨⟨fun q u e => ?_, fun q xs e => ?_, fun q b u e => ?_⟩, fun q e => ?_, a.kh, a.lv⟩
  · by_cases c : q = p
    · subst c; rw [wo_same] at e; cases e
    · rw [wo_ne c] at e; exact a.fz.sm _ _ e
  · rw [wo_ne (fun c => by subst c; rw [e1] at e; cases e; exact ho.elim)]; exact a.fz.kt.1 _ _ e
  · rw [wo_ne (fun c => by subst c; rw [e1] at e; cases e; exact ho.elim)]; exact a.fz.kt.2 _ _ _ e
  · rw [wo_ne (fun c => e (by rw [c]; exact np))]; exact a.kf q e
theorem wo_below {p : Addr} {F F' : Hp} (s : Same F F') (n : F p = none) : Same F (wo p F') := fun q o e => by
  rw [wo_ne (ne_of_none e n)]
  exact s _ _ e
/-- an object that is being made stays out of F -/
theorem Fz.made {F H : Hp} (z : Fz F H) {x dx C : Addr} (nx : H x = none) (nd : H dx = none) : Adv [] F H F (upd (upd H dx (.own x)) x (.ins C dx [])) := by
  by_cases c : x = dx
  · subst c
    have a := Adv.put (M := []) z nx (o := .ins C x []) trivial
    have e : upd (upd H x (.own x)) x (.ins C x []) = upd H x (.ins C x []) := by
      funext q
      by_cases c : q = x
      · rw [c, upd_same, upd_same]
      · rw [upd_ne c, upd_ne c, upd_ne c]
    rw [e]
    exact a
  · have a := Adv.put (M := []) z nd (o := .own x) trivial
    exact a.trans (Adv.put a.fz (by rw [upd_ne c]; exact nx) trivial)
/-- it is made: now it is a part -/
theorem Adv.finish {F H : Hp} (z : Fz F H) {x dx C : Addr} {fs : List (Str × V)} {F' H' : Hp} (nx : H x = none) (nd : H dx = none) (a : Adv [x] F (upd (upd H dx (.own x)) x (.ins C dx [])) F' H') (e : H' x = some (.ins C dx fs)) :
    Adv [] F H (upd F' x (.ins C dx fs)) H' := by
  have m := z.made (C := C) nx nd
  have fx : F' x = none := a.off (some_ne upd_same) (z.out nx)
  refine ⟨⟨fun q u h => ?_, fun q xs h => ?_, fun q b u h => ?_⟩, fun q h => ?_, fun q o _ h => ?_, fun q h => a.lv q (m.lv q h)⟩
  · by_cases c : q = x
    · subst c; rw [upd_same] at h; cases h; exact e
    · rw [upd_ne c] at h; exact a.fz.sm _ _ h
  · rw [upd_ne (fun c => by subst c; rw [e] at h; cases h)]; exact a.fz.kt.1 _ _ h
  · rw [upd_ne (fun c => by subst c; rw [e] at h; cases h)]; exact a.fz.kt.2 _ _ _ h
  · rw [upd_ne (fun c => h (by rw [c]; exact nx))]
    exact a.kf q (m.lv q h)
  · exact a.kh q o (by simp; exact ne_of_none h nx) (m.kh q o (by simp) h)
theorem below_upd {F F' : Hp} {x : Addr} (s : Same F F') (n : F x = none) (o : HO) : Same F (upd F' x o) := fun q u e => by
  rw [upd_ne (ne_of_none e n)]
  exact s _ _ e
/-! ### lists of numbers and of pairs, sorted -/
def pLe (a b : Int × Int) : Bool := decide (a.1 < b.1 ∨ (a.1 = b.1 ∧ a.2 ≤ b.2))
theorem pLe_iff {a b : Int × Int} : pLe a b = true ↔ a.1 < b.1 ∨ (a.1 = b.1 ∧ a.2 ≤ b.2) := by unfold pLe; exact decide_eq_true_iff
def sort2 (l : List (Int × Int)) : List (Int × Int) := l.mergeSort pLe
theorem sort2_perm (l : List (Int × Int)) : (sort2 l).Perm l := List.mergeSort_perm _ _
theorem sort2_sorted (l : List (Int × Int)) : (sort2 l).Pairwise (fun a b => pLe a b = true) := by
  refine List.pairwise_mergeSort (le := pLe) (fun a b c h1 h2 => ?_) (fun a b => ?_) l
  · rw [pLe_iff] at h1 h2 ⊢; omega
  · rw [Bool.or_eq_true, pLe_iff, pLe_iff]; omega
theorem pLe_anti {a b : Int × Int} (h1 : pLe a b = true) (h2 : pLe b a = true) : a = b := by
  rw [pLe_iff] at h1 h2
  exact Prod.ext (by omega) (by omega)
theorem sort2_unique {l m : List (Int × Int)} (hp : m.Perm l) (hs : m.Pairwise fun a b => pLe a b = true) : m = sort2 l :=
  List.Perm.eq_of_pairwise (le := fun a b => pLe a b = true) (fun a b _ _ h1 h2 => pLe_anti h1 h2) hs (sort2_sorted l) (hp.trans (sort2_perm l).symm)
def nub : List Int → List Int
  | [] => []
  | x :: t => if x ∈ nub t then nub t else x :: nub t
theorem mem_nub {x : Int} : ∀ {l : List Int}, x ∈ nub l ↔ x ∈ l
  | [] => Iff.rfl
  | y :: t => by
    have ih := mem_nub (x := x) (l := t)
    unfold nub
    split
    · rename_i h
      rw [ih, List.mem_cons]
      constructor
      · exact .inr
      · rintro (rfl | m)
        · exact mem_nub.mp h
        · exact m
    · rw [List.mem_cons, List.mem_cons, ih]
theorem nub_nodup : ∀ l : List Int, (nub l).Nodup
  | [] => List.nodup_nil
  | y :: t => by
    have ih := nub_nodup t
    unfold nub
    split
    · exact ih
    · rename_i h
      exact List.nodup_cons.mpr ⟨h, ih⟩
def uset (l : List Int) : List Int := isort (nub l)
theorem mem_uset {x : Int} {l : List Int} : x ∈ uset l ↔ x ∈ l := by
  unfold uset
  rw [(isort_perm _).mem_iff, mem_nub]
theorem uset_nodup (l : List Int) : (uset l).Nodup := (isort_perm _).nodup_iff.mpr (nub_nodup l)
theorem lt_of_le_nd : ∀ {l : List Int}, l.Pairwise (· ≤ ·) → l.Nodup → l.Pairwise (· < ·)
  | [], _, _ => .nil
  | x :: t, h, n => by
    obtain ⟨h1, h2⟩ := List.pairwise_cons.mp h
    obtain ⟨n1, n2⟩ := List.nodup_cons.mp n
    exact List.pairwise_cons.mpr ⟨fun y m => by
      have a := h1 y m
      have b : x ≠ y := fun e => n1 (by rw [e]; exact m)
      omega, lt_of_le_nd h2 n2⟩
theorem uset_sorted (l : List Int) : (uset l).Pairwise (· < ·) := lt_of_le_nd (isort_sorted _) (uset_nodup l)
theorem uset_unique {ns l : List Int} (hs : ns.Pairwise (· < ·)) (hm : ∀ k, k ∈ ns ↔ k ∈ l) : ns = uset l := by
  have nd : ns.Nodup := hs.imp fun h => Int.ne_of_lt h
  have hp : ns.Perm (nub l) := (List.perm_ext_iff_of_nodup nd (nub_nodup l)).mpr fun k => (hm k).trans mem_nub.symm
  exact isort_unique hp (hs.imp Int.le_of_lt)
theorem uset_len (l : List Int) : (uset l).length ≤ l.length := by
  have := sub_len (uset_nodup l) (l := l) (fun x m => mem_uset.mp m)
  exact this
def sdS (b : Bool) : Str := if b = true then "right" else "left"
/-! ### machines -/
structure Bdg where
  num : Int
  sd : Bool
  lvl : Int
structure TelM where
  b : Bdg
  d : PyData
  code : List Ins
  beg : List (Int × Option Int)
  don : List (Int × Int)
  pos : Int
  tr : Res
  srv : Bool
structure ColM where
  b : Bdg
  d : PyData
  L : LP
  beg : List (Int × Option Int)
  don : List (Int × Int)
  met : Option Int
inductive MacM where
  | tel (t : TelM)
  | col (c : ColM)
def MacM.b : MacM → Bdg
  | .tel t => t.b
  | .col c => c.b
def MacM.d : MacM → PyData
  | .tel t => t.d
  | .col c => c.d
def MacM.beg : MacM → List (Int × Option Int)
  | .tel t => t.beg
  | .col c => c.beg
def MacM.don : MacM → List (Int × Int)
  | .tel t => t.don
  | .col c => c.don
def MacM.isT : MacM → Bool
  | .tel _ => true
  | .col _ => false
abbrev MacM.num (m : MacM) : Int := m.b.num
abbrev MacM.sd (m : MacM) : Bool := m.b.sd
def MacM.kind (m : MacM) : Str := if m.isT = true then "teller" else "collector"
def MacM.prog (m : MacM) : PyData := .tuple [.str m.kind, m.d]
def resAnsO : Res → Option Int
  | .ans v _ _ => some v
  | _ => none
def resLenI : Res → Int
  | .ans _ t _ => t
  | .ended t _ => t
  | _ => 0
def begFst (l : List (Int × Option Int)) : Int := ((l.head?).map (·.1)).getD 0
def begLast (l : List (Int × Option Int)) : Int := ((l.getLast?).map (·.1)).getD 0
def runT (code : List Ins) (pos : Int) (ms : List Int) : Res := runF code pos (fun z => decide (z ∈ ms)) none
def guardT (t : TelM) (s : Bool) : List Int := if t.srv = true then (if s = t.b.sd then resPs t.tr else []) else (if s = t.b.sd then [] else [t.pos])
def guardM (m : MacM) (s : Bool) : List Int := match m with
  | .tel t => guardT t s
  | .col _ => []
def goalM : MacM → Bool
  | .tel t => !t.b.sd
  | .col c => c.b.sd
def satC (c : ColM) (now : Int) : Bool := match c.met with
  | none => false
  | some k => decide (begFst c.beg + k ≤ now)
def satM (m : MacM) (now : Int) : Bool := match m with
  | .tel t => t.srv
  | .col c => satC c now
def imax (a b : Int) : Int := if b > a then b else a
def readyT (now : Int) (t : TelM) : Option (Int × Int) := if t.srv = true ∨ resAnsO t.tr ≠ some 0 then none else some (imax (now + 1) (begLast t.beg + resLenI t.tr), t.pos)
def readyC (now : Int) (bar : List Int) (c : ColM) : Option (Int × Int) := match foL c.L bar with
  | none => none
  | some r => if satC c (imax (now + 1) (begFst c.beg + r.1)) = true then none else some (imax (now + 1) (begFst c.beg + r.1), r.2)
def readyM (now : Int) (bar : List Int) (m : MacM) : Option (Int × Int) := match m with
  | .tel t => readyT now t
  | .col c => readyC now bar c
def actedT (t : TelM) (now z : Int) : TelM := { t with don := t.don ++ [(now, z)], srv := true }
def actedC (c : ColM) (now z : Int) : ColM := { c with don := c.don ++ [(now, z)] }
def actedM (m : MacM) (now z : Int) : MacM := match m with
  | .tel t => .tel (actedT t now z)
  | .col c => .col (actedC c now z)
def startedT (t : TelM) (now cause pos : Int) (ms : List Int) : TelM := { t with beg := t.beg ++ [(now, some cause)], pos := pos, tr := runT t.code pos ms, srv := false }
def toldT (t : TelM) (s : Bool) (z : Int) (ms : List Int) : TelM := if t.srv = true ∨ s ≠ t.b.sd ∨ z ∉ resPs t.tr then t else { t with tr := runT t.code t.pos ms, srv := false }
def lessO (o : Option Int) (st : Int) : Bool := match o with
  | none => false
  | some k => decide (k ≤ st)
def toldC (c : ColM) (s : Bool) (z : Int) : ColM := if s = c.b.sd then (match fstO c.L z with
  | none => c
  | some st => if lessO c.met st = true then c else { c with met := some st }) else c
def toldM (m : MacM) (s : Bool) (z : Int) (ms : List Int) : MacM := match m with
  | .tel t => .tel (toldT t s z ms)
  | .col c => .col (toldC c s z)
def newT (b : Bdg) (d : PyData) (code : List Ins) (now pos : Int) (ms : List Int) : TelM := ⟨b, d, code, [(now, none)], [], pos, runT code pos ms, false⟩
def newC (b : Bdg) (d : PyData) (code : List Ins) (now : Int) (ms : List Int) : ColM := ⟨b, d, runL code, [(now, none)], [], minO (ms.filterMap fun z => fstO (runL code) z)⟩
/-! ### how a house stands -/
structure StM where
  now : Int
  l : List Int
  r : List Int
  ms : List MacM
  ahead : Int
  mark : Int
def StM.set (S : StM) (s : Bool) : List Int := if s = true then S.r else S.l
def setsPut (S : StM) (s : Bool) (z : Int) : List Int × List Int := if s = true then (S.l, isort (S.r ++ [z])) else (isort (S.l ++ [z]), S.r)
def pickS (p : List Int × List Int) (s : Bool) : List Int := if s = true then p.2 else p.1
def guardRows (ms : List MacM) (s : Bool) : List (Int × Int) := ms.flatMap fun m => (guardM m s).map fun z => (z, m.num)
def guardsM (S : StM) (s : Bool) : List (Int × Int) := sort2 (guardRows S.ms s)
def barM (S : StM) (m : MacM) : List Int := uset (((guardsM S m.sd).filter fun r => decide (r.2 < m.num)).map (·.1))
def bestM (S : StM) (best : Option (Int × Int × Int)) (m : MacM) : Option (Int × Int × Int) := match readyM S.now (barM S m) m with
  | none => best
  | some r => match best with
    | none => some (r.1, m.num, r.2)
    | some b => if r.1 < b.1 then some (r.1, m.num, r.2) else some b
def nextM (S : StM) : Option (Int × Int × Int) := S.ms.foldl (bestM S) none
def lmax (x : Int) (l : List Int) : Int := l.foldl (fun a b => if b > a then b else a) x
/-- one machine behind an act: what becomes of it, and the mark -/
def turnM (now num z : Int) (s : Bool) (p : List Int × List Int) (act : MacM) (mk : Int) (m : MacM) : MacM × Int :=
  if num < m.num ∧ m.isT = true then (match m with
    | .tel t => (.tel (startedT t now num (mk + 1) (pickS p t.b.sd)), mk + 1)
    | .col c => (.col c, mk))
  else if m.num = num then (toldM act s z (pickS p s), mk) else (toldM m s z (pickS p s), mk)
def turnsM (now num z : Int) (s : Bool) (p : List Int × List Int) (act : MacM) : Int → List MacM → List MacM × Int
  | mk, [] => ([], mk)
  | mk, m :: r => ((turnM now num z s p act mk m).1 :: (turnsM now num z s p act (turnM now num z s p act mk m).2 r).1, (turnsM now num z s p act (turnM now num z s p act mk m).2 r).2)
def actorM (S : StM) (num : Int) : Option MacM := S.ms.find? fun m => decide (m.num = num)
def afterW (S : StM) (now num z : Int) (a : MacM) : StM :=
  let s := goalM a
  let p := setsPut S s z
  let a' := actedM a now z
  let mk := lmax S.mark (z :: guardM a' a.sd)
  let q := turnsM now num z s p a' mk S.ms
  ⟨now, p.1, p.2, q.1, S.ahead, q.2⟩
def afterM (S : StM) (act : Int × Int × Int) : StM := match actorM S act.2.1 with
  | none => S
  | some a => afterW S act.1 act.2.1 act.2.2 a
def atM (S : StM) (now : Int) : StM := { S with now := now }
def withoutM (S : StM) (num : Int) : StM := { S with ms := S.ms.filter fun m => decide (m.num ≠ num) }
def emptyM : StM := ⟨0, [], [], [], 0, -1⟩
def arrT (S : StM) (d : PyData) (code : List Ins) (s : Bool) : StM := { S with ms := S.ms ++ [.tel (newT ⟨S.ahead, s, (S.ms.length : Nat)⟩ d code S.now (S.mark + 1) (S.set s))], ahead := S.ahead + 1, mark := S.mark + 1 }
def arrC (S : StM) (d : PyData) (code : List Ins) (s : Bool) : StM := { S with ms := S.ms ++ [.col (newC ⟨S.ahead, s, (S.ms.length : Nat)⟩ d code S.now (S.set s))], ahead := S.ahead + 1 }
/-- the acts up to a clock (none: all), by so many acts at most -/
def goM (e : Option Int) : Nat → StM → List (Int × Int × Int) × StM
  | 0, S => ([], S)
  | n + 1, S => match nextM S with
    | none => ([], S)
    | some a => if (match e with | none => true | some k => decide (a.1 ≤ k)) = true then (a :: (goM e n (afterM S a)).1, (goM e n (afterM S a)).2) else ([], S)
/-! ### members as a tuple: a teller's walk, its run, the first integer inside -/
def spTIT (K : PySem.W.Frag) (C : Addr) : Sp := fun vs H Q _ => ∃ (wk dx cd m : Addr) (x : Int) (ns : List Int), vs = [.ref wk, .ref cd, .int x, .ref m] ∧ H wk = some (.ins C dx []) ∧ SqT K H m (ns.map V.int) ∧ ns.length ≤ 1000000 ∧
  ∀ H' hd sn pr qs, Fx [wk] H H' → H hd = none → H sn = none → H pr = none → H qs = none → TkA K H' C wk dx cd hd sn pr qs 0 0 0 0 x (fun z => decide (z ∈ ns)) [] → H' sn = some (.dT []) → Q .non H'
def spTRT (K : PySem.W.Frag) (CR : Addr) : Sp := fun vs H Q _ => ∃ (cd m : Addr) (x : Int) (lim : Option Int) (xs : List V) (code : List Ins) (ns : List Int), vs = [.ref cd, .int x, .ref m, limV lim] ∧ SqL K H cd xs ∧ DpAll K H xs (code.map Ins.toD) ∧ (∀ i ∈ code, i.ok "teller") ∧ code.length ≤ 100 ∧ SqT K H m (ns.map V.int) ∧ ns.length ≤ 1000000 ∧
  ∀ H' r, Same H H' → H r = none → RunN H H' CR r (runF code x (fun z => decide (z ∈ ns)) lim) → Q (.ref r) H'
def spFIT (K : PySem.W.Frag) (C : Addr) : Sp := fun vs H Q _ => ∃ (ls m : Addr) (H0 : Hp) (L : LP) (ms : List Int), vs = [.ref ls, .ref m] ∧ LsO K H0 H C ls L ∧ LpOk L ∧ SqT K H m (ms.map V.int) ∧ ms.length ≤ 1000000 ∧ (∀ z ∈ ms, z.natAbs < 2 ^ 300) ∧
  ∀ H' v o, Same H H' → IsMinP (fiL L ms) o → rowV H H' v o → Q v H'
section
variable {P : Program} {w : World} {K : PySem.W.Frag} {mg : Str → Option Value} {base : Heap}
theorem ok_TIT {f C cW fW : Addr} {fd dW : FuncData} {mc : Value} (F : Fun K "__init__" "TellerWalk.__init__" sTI f fd) (W : TC K C) (gW : mg "Walk" = some (.ref cW)) (r : ClX.CRead K cW mc) (c : PySem.W.findCls K (.ref cW) mc "__init__" = some (.val (.ref fW))) (kW : PySem.W.keepIn K (.ref fW) = true)
    (GW : FnOk P w K mg base CX0 1 fW dW ["self", "code"] (spWI K C)) (bW : Binds K dW ["self", "code"] []) : FnOk P w K mg base CX0 2 f fd ["self", "code", "position", "members"] (spTIT K C) := by
  refine F.ok scTI (fun vs H Q E h => ?_) (fun cdv A outer s H vs Q E hr h => ?_)
  · obtain ⟨wk, dx, cd, m, x, ns, rfl, _⟩ := h
    rfl
  obtain ⟨wk, dx, cd, m, x, ns, rfl, hw, hm, hl, q⟩ := h
  have T := W.wc
  refine ⟨_, pss_cons (ps_expr (pe_cfun (pe_gref rfl gW) r c kW GW hr bW .nil pass0 (pa_cons (pv 0) (pa_cons (pv 1) pa_nil))))
    (pss_cons (ps_fld (pv 0) (pv 2) rfl)
    (pss_cons (ps_fld (pv 0) (pe_dc (own := [("member", 4)]) (g := gName 4) (tt := tYes) rfl scTI.nd (pi_tup (pv 3)) (blkOk_by (N := ["self", "code", "position", "members", "member"]) (sc := defScope sTI) (by decide +kernel))
      (fun _ _ _ _ _ => pg_name (i := 4) scTI.nd rfl (.inl rfl)) (fun _ _ _ _ _ => pts_nil) (fun _ _ _ _ _ => pv 4) (fun _ _ _ _ _ => pe_bl)) rfl)
    (pss_one (ps_fld (pv 0) pe_dnewK rfl)))), ?_⟩
  refine ⟨rfl, _, rfl, _, rfl, wk, dx, cd, rfl, hw, fun H1 hd sn f1 nhd nsn nhs w1 e1 => ?_⟩
  have hm1 : SqT K H1 m (ns.map V.int) := KeepS.tup (fun a o ho e => f1 a o (by
    intro z
    rw [List.mem_singleton.mp z, hw] at e
    cases e
    exact ho) e) hm
  refine ⟨_, rfl, _, rfl, wk, C, dx, _, rfl, w1.ob, T.cl, W.nPos, (by show 6 < 1000; decide), ?_⟩
  have nwh : wk ≠ hd := fun z => by have := w1.hl; rw [← z, w1.ob] at this; cases this
  have nws : wk ≠ sn := fun z => by rw [← z, w1.ob] at e1; cases e1
  have e2 : (upd H1 wk (.ins C dx (putF "position" (.int x) (wf cd hd sn 0 0 0 [])))) wk = some (.ins C dx (wf cd hd sn 0 0 0 [("position", .int x)])) := upd_same
  have f2 : Fx [wk] H (upd H1 wk (.ins C dx (putF "position" (.int x) (wf cd hd sn 0 0 0 [])))) := f1.trans (Fx.upd (by simp))
  have k2 : KeepS H1 (upd H1 wk (.ins C dx (putF "position" (.int x) (wf cd hd sn 0 0 0 [])))) := KeepS.upd w1.ob (fun z => z)
  have h2 : (upd H1 wk (.ins C dx (putF "position" (.int x) (wf cd hd sn 0 0 0 [])))) hd = some (.dK (hv 0 0)) := by rw [upd_ne nwh.symm]; exact w1.hl
  have n2 : (upd H1 wk (.ins C dx (putF "position" (.int x) (wf cd hd sn 0 0 0 [])))) sn = some (.dT []) := by rw [upd_ne nws.symm]; exact e1
  generalize upd H1 wk (.ins C dx (putF "position" (.int x) (wf cd hd sn 0 0 0 []))) = H2 at e2 f2 k2 h2 n2 ⊢
  have hm2 := k2.tup hm1
  refine ⟨_, rfl, m, rfl, ⟨_, hm2⟩, fun D nD => dc_tup (K := K) (a := m) (xs := ns.map V.int) (fun i H' => Same H2 H' ∧ ∃ kvs, H' D = some (.dK kvs) ∧ kvs.length ≤ i ∧ ∀ z : Int, (valV kvs (Sum.inl z : Key)).isSome = decide (z ∈ ns.take i)) ⟨same_new nD _, [], upd_same, by decide, fun z => by simp [valV]⟩ (fun i H' _ ⟨s1, _⟩ => Same.tup s1 hm2) ?_ ?_⟩
  · rintro i y H3 hy ⟨s3, kvs, hk, hkl, hkv⟩
    have hi : i < ns.length := by
      have := (List.getElem?_eq_some_iff.mp hy).1
      rwa [List.length_map] at this
    obtain ⟨n, hn, rfl⟩ : ∃ n, ns[i]? = some n ∧ y = .int n := by
      rw [List.getElem?_map] at hy
      cases e : ns[i]? with
      | none => rw [e] at hy; cases hy
      | some n => rw [e] at hy; exact ⟨n, rfl, by injection hy with hy; exact hy.symm⟩
    refine ⟨rfl, ?_⟩
    dsimp only [tYes]
    rw [if_pos rfl]
    refine ⟨_, rfl, kvs, Sum.inl n, rfl, hk, Nat.lt_of_le_of_lt (Nat.le_trans hkl (Nat.le_trans (Nat.le_of_lt hi) hl)) (by decide), same_upd s3 nD _, _, upd_same, ?_, fun z => ?_⟩
    · unfold putK
      split
      · rw [List.length_map]; omega
      · rw [List.length_append]; show kvs.length + 1 ≤ i + 1; omega
    · rw [valV_put, take_snoc hn]
      by_cases e : z = n
      · subst e
        rw [if_pos rfl]
        simp
      · rw [if_neg (by intro c; injection c with c; exact e c), hkv z]
        simp [e]
  · rintro H3 ⟨s3, kvs, hk, hkl, hkv⟩
    rw [List.length_map, List.take_length] at hkv
    have nwD : wk ≠ D := ne_of_none e2 nD
    refine ⟨_, rfl, wk, C, dx, _, rfl, s3 _ _ e2, T.cl, W.nPre, (by show 7 < 1000; decide), ?_⟩
    have h3 := s3 _ _ h2
    have n3 := s3 _ _ n2
    have f4 : Fx [wk] H (upd H3 wk (.ins C dx (putF "present" (.ref D) (wf cd hd sn 0 0 0 [("position", .int x)])))) := (f2.trans (Fx.of s3)).trans (Fx.upd (by simp))
    have e4 : (upd H3 wk (.ins C dx (putF "present" (.ref D) (wf cd hd sn 0 0 0 [("position", .int x)])))) wk = some (.ins C dx (wf cd hd sn 0 0 0 [("position", .int x), ("present", .ref D)])) := upd_same
    have h4 : (upd H3 wk (.ins C dx (putF "present" (.ref D) (wf cd hd sn 0 0 0 [("position", .int x)])))) hd = some (.dK (hv 0 0)) := by rw [upd_ne nwh.symm]; exact h3
    have n4 : (upd H3 wk (.ins C dx (putF "present" (.ref D) (wf cd hd sn 0 0 0 [("position", .int x)])))) sn = some (.dT []) := by rw [upd_ne nws.symm]; exact n3
    have d4 : (upd H3 wk (.ins C dx (putF "present" (.ref D) (wf cd hd sn 0 0 0 [("position", .int x)])))) D = some (.dK kvs) := by rw [upd_ne nwD.symm]; exact hk
    generalize upd H3 wk (.ins C dx (putF "present" (.ref D) (wf cd hd sn 0 0 0 [("position", .int x)]))) = H4 at e4 f4 h4 n4 d4 ⊢
    intro qs nqs
    have nwq : wk ≠ qs := ne_of_none e4 nqs
    have s5 : Same H4 (upd H4 qs (.dK [])) := same_new nqs _
    have q5 : (upd H4 qs (.dK [])) qs = some (.dK []) := upd_same
    generalize upd H4 qs (.dK []) = H5 at s5 q5 ⊢
    refine ⟨_, rfl, wk, C, dx, _, rfl, s5 _ _ e4, T.cl, W.nQue, (by show 8 < 1000; decide), ?_⟩
    have free : ∀ p, p ≠ wk → H4 p = none → H p = none := fun p n e => by
      cases z : H p with
      | none => rfl
      | some o =>
        have := f4 p o (by simp; exact n) z
        rw [e] at this
        cases this
    have freeD : H D = none := by
      cases z : H D with
      | none => rfl
      | some o =>
        have := f2 D o (by simp; exact fun e => nwD e.symm) z
        rw [nD] at this
        cases this
    have nwh' : hd ≠ wk := nwh.symm
    refine q _ hd sn D qs ((f4.trans (Fx.of s5)).trans (Fx.upd (by simp))) nhd nsn freeD (free qs (fun e => nwq e.symm) nqs) ⟨⟨upd_same, ?_⟩, ⟨kvs, ?_, hkv⟩, ?_, fun e => ?_, fun e => ?_⟩ ?_
    · rw [upd_ne nwh']; exact s5 _ _ h4
    · rw [upd_ne nwD.symm]; exact s5 _ _ d4
    · rw [upd_ne nwq.symm]; exact q5
    · rw [e, nqs] at d4; cases d4
    · rw [e, nD] at h2; cases h2
    · rw [upd_ne nws.symm]; exact s5 _ _ n4
theorem ok_TRT {f C fI : Addr} {fd dI : FuncData} {dvs : List V} {kws : List (Str × V)} (F : FunD K "teller_run" "teller_run" (defArgs sTR) (defBody sTR) (defScope sTR) dvs kws f fd) (W : TC K C) (gC : mg "TellerWalk" = some (.ref C)) (M : Mk K C fI) (GI : FnOk P w K mg base CX0 2 fI dI ["self", "code", "position", "members"] (spTIT K C)) (bI : Binds K dI ["self", "code", "position", "members"] [])
    (RC : RCl P w K mg base) (CC : Cal P w K mg base 1 "cost" ["instruction"] (spCost K)) (CR : Cal P w K mg base 3 "repeated" ["walk", "first", "limit"] (spRep K C RC.C))
    (ME : MCal P w K mg base 1 C "earlier" ["self"] (spEar K C)) (MU : MCal P w K mg base 1 C "upcoming" ["self"] (spUp K C)) (MT : MCal P w K mg base 4 C "take" ["self", "instruction"] (spTake K C)) (MK : MCal P w K mg base 3 C "ask" ["self", "instruction"] (spAsk K C)) (MA : MCal P w K mg base 1 C "asked_places" ["self"] (spAP K C)) :
    FnOk P w K mg base CX0 5 f fd ["code", "position", "members", "limit"] (spTRT K RC.C) := by
  refine F.ok scTR (fun vs H Q E h => ?_) (fun cdv A outer s H vs Q E hr h => ?_)
  · obtain ⟨cd, m, x, lim, xs, code, ns, rfl, _⟩ := h
    rfl
  obtain ⟨cd, m, x, lim, xs, code, ns, rfl, hcd, hxs, hok, hcl, hm, hnl, q⟩ := h
  have T := W.wc
  have hr1 : Room 1 _ := hr.mono (by decide)
  have hr2 : Room 2 _ := hr.mono (by decide)
  have hr3 : Room 3 _ := hr.mono (by decide)
  obtain ⟨gE, kE⟩ := RC.kE
  obtain ⟨gA, kA⟩ := RC.kA
  obtain ⟨dsR, vR, bR⟩ := RC.kR
  refine ⟨_, PSs.nox (pss_cons (ps_set (i := 4) scTR.nd rfl (.inl rfl) (pe_make M GI hr3 rfl gC bI .nil pass0 (pa_cons (pv 0) (pa_cons (pv 1) (pa_cons (pv 2) pa_nil)))))
    (pss_one (ps_while PassesOwn.never (pt_val pe_bl)
      (pss_cons (ps_set (i := 5) scTR.nd rfl (.inl rfl) (pe_meth0 (pv 4) T.cl ME.m ME.G hr1 ME.b .nil pass0))
      (pss_cons (ps_if (pt_cmpR op_notN (pv 5) pe_non (nomark _)) (pss_one (ps_ret (pe_call CR.G hr3 rfl CR.m CR.kp CR.b .nil pass0 (pa_cons (pv 4) (pa_cons (pe_ix ix_tup (pv 5) pe_int (fun _ _ => rfl)) (pa_cons (pv 3) pa_nil)))))) pss_nil)
      (pss_cons (ps_set (i := 6) scTR.nd rfl (.inl rfl) (pe_meth0 (pv 4) T.cl MU.m MU.G hr1 MU.b .nil pass0))
      (pss_cons (ps_if (pt_cmpR op_isN (pv 6) pe_non (nomark _)) (pss_one (ps_ret (pe_makeN RC.M RC.G hr2 rfl RC.g kE pass0 (pa_cons pe_str (pa_cons (pe_meth0 (pv 4) T.cl MA.m MA.G hr1 MA.b .nil pass0) pa_nil)) (pk_cons (pe_fld (pv 4) rfl) pk_nil)))) pss_nil)
      (pss_cons (ps_if (PW.pt (pw_and (pt_cmpR op_notN (pv 3) pe_non (nomark _)) (pw_and1 (pt_cmpR op_gt (pe_op op_add (pe_fld (pv 4) rfl) (pe_call CC.G hr1 rfl CC.m CC.kp CC.b .nil pass0 (pa_cons (pv 6) pa_nil))) (pv 3) (nomark _))))) (pss_one (ps_ret (pe_make RC.M RC.G hr2 rfl RC.g bR vR pass0 (pa_cons pe_str (pa_cons (pe_meth0 (pv 4) T.cl MA.m MA.G hr1 MA.b .nil pass0) pa_nil))))) pss_nil)
      (pss_cons (ps_expr (pe_meth (pv 4) T.cl MT.m MT.G hr MT.b .nil pass0 (pa_cons (pv 6) pa_nil)))
      (pss_cons (ps_if (pt_cmpR op_eq (pe_ix ix_tup (pv 6) pe_int (fun _ _ => rfl)) pe_str (nomark _)) (pss_one (ps_ret (pe_makeN RC.M RC.G hr2 rfl RC.g kA pass0 (pa_cons pe_str (pa_cons (pe_meth0 (pv 4) T.cl MA.m MA.G hr1 MA.b .nil pass0) pa_nil)) (pk_cons (pe_ix ix_tup (pv 6) pe_int (fun _ _ => rfl)) (pk_cons (pe_fld (pv 4) rfl) pk_nil))))) pss_nil)
      (pss_one (ps_if (pt_cmpR op_eq (pe_ix ix_tup (pv 6) pe_int (fun _ _ => rfl)) pe_str (nomark _)) (pss_one (ps_expr (pe_meth (pv 4) T.cl MK.m MK.G hr3 MK.b .nil pass0 (pa_cons (pv 6) pa_nil)))) pss_nil)))))))))))), ?_⟩
  -- walk = TellerWalk(code, position, members)
  refine ⟨_, rfl, _, rfl, _, rfl, fun wk dx nw ndx nxd => ?_⟩
  have sm0 := made_same0 (C := C) nw ndx
  refine ⟨wk, dx, cd, m, x, ns, rfl, upd_same, Same.tup sm0 hm, hnl, fun H1 hd sn pr qs f1 nhd nsn npr nqs tk1 e1 => ⟨rfl, ?_⟩⟩
  have s1 : Same H H1 := made_same nw ndx f1
  have fr : ∀ p, (upd (upd H dx (.own wk)) wk (.ins C dx [])) p = none → H p = none := fun p e => sm0.free e
  dsimp only [gName]
  refine while_m (fun k σ H' => ∃ (s : S3) (t : Int) (seen : List (S3 × Int)) (ps : List Int) (s5 s6 : Option V), σ = [some (.ref cd), some (.int x), some (.ref m), some (limV lim), some (.ref wk), s5, s6] ∧ LoopI K H H' C wk dx cd hd sn pr qs code x (fun z => decide (z ∈ ns)) lim (runF code x (fun z => decide (z ∈ ns)) lim) k s t seen ps) (m0 := fuel code)
    ⟨⟨0, 0, 0⟩, 0, [], [], none, none, rfl, ⟨s1, nw, fr hd nhd, fr sn nsn, fr qs nqs, tk1, ⟨[], e1, .nil⟩, List.nodup_nil, (fun e m => nomatch m), ⟨⟨by decide, by decide⟩, by decide, by decide⟩, Nat.le_refl _, rfl, rfl⟩⟩ ?_ (fun σ H Q Q' h ⟨b, e, z⟩ => ⟨b, e, h _ _ z⟩)
  rintro k σ H' ⟨s, t, seen, ps, s5, s6, rfl, L⟩
  refine ⟨_, rfl, iteT ?_⟩
  obtain ⟨kvs, hsn, hse⟩ := L.se
  have few := few_states L.nd (fun s0 m0 => by obtain ⟨e, me, rfl⟩ := List.mem_map.mp m0; exact L.ok e me)
  rw [List.length_map] at few
  obtain ⟨k', rfl⟩ : ∃ k', k = k' + 1 := ⟨k - 1, by have := L.fu; unfold fuel at this; omega⟩
  have hEq := L.eq
  rw [loopF_eq] at hEq
  have hlen := hse.len
  have bigN : code.length * 256 ≤ 25600 := by omega
  have obW := L.tk.wa.ob
  refine ⟨_, rfl, wk, dx, _, rfl, obW, rfl, wk, dx, cd, hd, sn, s.pc, s.a, s.b, 0, t, _, kvs, rfl, L.tk.wa, hsn, by omega, hse.refs, fun r hv H2 s2 => ?_, fun hv H2 r f2 e2 nr er => ?_⟩
  · -- the state was met before
    rcases hse.look s with ⟨hv', _⟩ | ⟨r', t0, hv', hl0, er'⟩
    · rw [show valV kvs (keyS s.pc s.a s.b) = none from hv'] at hv; cases hv
    · have er0 : r' = r := by
        rw [show valV kvs (keyS s.pc s.a s.b) = some (.ref r') from hv'] at hv
        injection hv with hv; injection hv
      subst er0
      rw [hl0] at hEq
      have tk2 : TkA K H2 C wk dx cd hd sn pr qs s.pc s.a s.b t x (fun z => decide (z ∈ ns)) ps := ⟨⟨s2 _ _ obW, s2 _ _ L.tk.wa.hl⟩, (by obtain ⟨kv, h1, h2⟩ := L.tk.pre; exact ⟨kv, s2 _ _ h1, h2⟩), s2 _ _ L.tk.que, L.tk.apart⟩
      refine ⟨_, rfl, rfl, _, rfl, ite2 (fun _ => ?_) (fun c => absurd (by rw [decide_eq_false (fun z => nomatch z)]; rfl) c)⟩
      refine ⟨_, rfl, _, rfl, r', _, _, _, rfl, rfl, SqT.of (s2 _ _ er'), atI_nat (j := 0) rfl, _, rfl, ?_⟩
      refine ⟨wk, dx, cd, hd, sn, pr, qs, s.pc, s.a, s.b, t, x, _, ps, t0, lim, rfl, tk2, fun H3 rr s3 nrr ra => ?_⟩
      have hEq' : repS lim t0 t ps = runF code x (fun z => decide (z ∈ ns)) lim := hEq
      rw [hEq'] at ra
      exact q _ rr ((L.sm.trans s2).trans s3) ((L.sm.trans s2).free nrr) (RunN.back (L.sm.trans s2) ra)
  · -- a new state
    have hv0 : valV kvs (keyOf s) = none := hv
    have hl0 : lookS s seen = none := by
      rcases hse.look s with ⟨_, h⟩ | ⟨r', t0, hv', _, _⟩
      · exact h
      · rw [hv0] at hv'; cases hv'
    rw [hl0] at hEq
    have sm2 : Same H H2 := f2.same L.sm (by intro p mp; rw [List.mem_singleton.mp mp]; exact L.ns)
    have nws : wk ≠ sn := fun z => by rw [z, hsn] at obW; cases obW
    have nhs : hd ≠ sn := fun z => by have := L.tk.wa.hl; rw [z, hsn] at this; cases this
    have nqs' : qs ≠ sn := fun z => by have := L.tk.que; rw [z, hsn] at this; cases this
    have k2 : KeepS H' H2 := fun p o hp e => f2 p o (by intro z; rw [List.mem_singleton.mp z, hsn] at e; cases e; exact hp) e
    obtain ⟨kvp, hp1, hp2⟩ := L.tk.pre
    have nps : pr ≠ sn := fun z => by rw [z, hsn] at hp1; cases hp1
    have get2 : ∀ p o, p ≠ sn → H' p = some o → H2 p = some o := fun p o n e => f2 p o (by simp; exact n) e
    have tk2 : TkA K H2 C wk dx cd hd sn pr qs s.pc s.a s.b t x (fun z => decide (z ∈ ns)) ps := ⟨⟨get2 _ _ nws obW, get2 _ _ nhs L.tk.wa.hl⟩, ⟨kvp, get2 _ _ nps hp1, hp2⟩, get2 _ _ nqs' L.tk.que, L.tk.apart⟩
    have se2 : SeenR H2 (kvs ++ [(keyOf s, .ref r)]) (seen ++ [(s, t)]) := (hse.keep k2).snoc er
    have ob2 := tk2.wa.ob
    refine ⟨_, rfl, rfl, _, rfl, ite2 (fun c => absurd c (by rw [decide_eq_true rfl]; decide)) (fun _ => ?_)⟩
    refine ⟨_, rfl, wk, dx, _, rfl, ob2, rfl, wk, dx, cd, hd, sn, s.pc, s.a, s.b, 0, t, _, xs, rfl, tk2.wa, sm2.seq hcd, ?_⟩
    rcases dpAll_at hxs s.pc with ⟨ec, ex⟩ | ⟨i, v, ec, ex, hdv⟩
    · -- ended
      rw [ec] at hEq
      rw [ex]
      refine ⟨_, rfl, rfl, _, rfl, ite2 (fun _ => ?_) (fun c => absurd (decide_eq_true rfl) c)⟩
      refine ⟨_, rfl, wk, dx, _, rfl, ob2, rfl, wk, dx, cd, hd, sn, pr, qs, s.pc, s.a, s.b, t, x, _, ps, rfl, tk2, fun H3 p s3 np e3 => ?_⟩
      refine ⟨_, rfl, wk, C, dx, _, _, rfl, s3 _ _ ob2, T.cl, T.nTak, rfl, rfl, rfl, ?_⟩
      refine mk_run e3 fun H4 rr s4 nrr rv => q _ rr (sm2.trans (s3.trans s4)) ((sm2.trans s3).free nrr) ?_
      rw [← hEq]
      exact RunN.back (sm2.trans s3) rv
    · rw [ec] at hEq
      dsimp only at hEq
      rw [ex]
      have hi : i.ok "teller" := hok i (List.mem_of_getElem? ec)
      have hpc : s.pc < code.length := (List.getElem?_eq_some_iff.mp ec).1
      obtain ⟨p, xr, rfl, hsp, hap⟩ := ins_inv hdv
      have hdv2 := dp_mono sm2 _ _ hdv
      refine ⟨_, rfl, rfl, _, rfl, ite2 (fun c => absurd (of_decide_eq_true c) (fun z => nomatch z)) (fun _ => ?_)⟩
      have nhq : hd ≠ qs := tk2.hq
      have nwh : wk ≠ hd := fun z => by have := tk2.wa.hl; rw [← z, ob2] at this; cases this
      have nwq : wk ≠ qs := fun z => by have := tk2.que; rw [← z, ob2] at this; cases this
      have nwp : wk ≠ pr := fun z => by obtain ⟨kv, h1, _⟩ := tk2.pre; rw [← z, ob2] at h1; cases h1
      cases hov : over lim (t + i.cost) with
      | true =>
        rw [hov, if_pos rfl] at hEq
        cases lim with
        | none => cases hov
        | some Lm =>
          have hlt : Lm < t + i.cost := of_decide_eq_true hov
          refine ⟨_, rfl, rfl, _, rfl, ite2 (fun _ => ?_) (fun c => absurd (by rw [show decide (limV (some Lm) = V.non) = false from decide_eq_false (fun z => nomatch z)]; rfl) c)⟩
          refine ⟨_, rfl, wk, C, dx, _, _, rfl, ob2, T.cl, T.nTak, rfl, _, rfl, .ref p, i, rfl, hdv2, _, _, rfl, rfl, _, rfl, _, _, rfl, rfl, _, rfl, ite2 (fun _ => ?_) (fun c => absurd (decide_eq_true hlt) c)⟩
          refine ⟨_, rfl, wk, dx, _, rfl, ob2, rfl, wk, dx, cd, hd, sn, pr, qs, s.pc, s.a, s.b, t, x, _, ps, rfl, tk2, fun H3 p3 s3 np e3 => ?_⟩
          refine mk_run e3 fun H4 rr s4 nrr rv => q _ rr (sm2.trans (s3.trans s4)) ((sm2.trans s3).free nrr) ?_
          rw [← hEq]
          exact RunN.back (sm2.trans s3) rv
      | false =>
        rw [hov, if_neg (by decide)] at hEq
        have nxt : ∀ (H4 : Hp) (s6' : V), Same H H4 → ansOf i = none → TkA K H4 C wk dx cd hd sn pr qs (nextS x (fun z => decide (z ∈ ns)) s i).pc (nextS x (fun z => decide (z ∈ ns)) s i).a (nextS x (fun z => decide (z ∈ ns)) s i).b (t + i.cost) x (fun z => decide (z ∈ ns)) (askQ x s i ps) → KeepS H2 H4 → H4 sn = some (.dT (kvs ++ [(keyOf s, .ref r)])) →
            ∃ m', m' < k' + 1 ∧ ∃ (s0 : S3) (t0 : Int) (seen0 : List (S3 × Int)) (ps0 : List Int) (s5 s6 : Option V), [some (V.ref cd), some (.int x), some (.ref m), some (limV lim), some (.ref wk), some .non, some s6'] = [some (V.ref cd), some (.int x), some (.ref m), some (limV lim), some (.ref wk), s5, s6] ∧ LoopI K H H4 C wk dx cd hd sn pr qs code x (fun z => decide (z ∈ ns)) lim (runF code x (fun z => decide (z ∈ ns)) lim) m' s0 t0 seen0 ps0 := by
          intro H4 s6' sm4 han tk4 k4 e4
          rw [han] at hEq
          refine ⟨k', Nat.lt_succ_self _, nextS x _ s i, t + i.cost, seen ++ [(s, t)], askQ x s i ps, _, _, rfl, ⟨sm4, L.nw, L.nh, L.ns, L.nq, tk4, ⟨_, e4, se2.keep k4⟩, ?_, ?_, heldS16 hi L.i16, ?_, hEq, ?_⟩⟩
          · rw [List.map_append, List.nodup_append]
            refine ⟨L.nd, List.nodup_cons.mpr ⟨(fun z => nomatch z), List.nodup_nil⟩, fun a1 h1 b1 h2 e => ?_⟩
            have e2 : b1 = s := by simpa using h2
            rw [e, e2] at h1
            exact lookS_none hl0 h1
          · intro e me
            rcases List.mem_append.mp me with me | me
            · exact L.ok e me
            · rw [List.mem_singleton.mp me]
              exact ⟨hpc, L.i16⟩
          · have := askQ_len x s i ps
            have := L.pl
            rw [List.length_append]
            show _ ≤ seen.length + 1
            omega
          · have := L.fu
            rw [List.length_append]
            show k' + (seen.length + 1) = _
            omega
        have rest : ∀ H3, Fx [wk, hd] H2 H3 → WkA K H3 C wk dx cd hd sn (i.next s.pc s.a s.b) (i.held s.a s.b).1 (i.held s.a s.b).2 (0 + i.grown s.a s.b) (t + i.cost) (exT x pr qs) → Same H H3 ∧ KeepS H2 H3 ∧ H3 sn = some (.dT (kvs ++ [(keyOf s, .ref r)])) ∧ TkA K H3 C wk dx cd hd sn pr qs (i.next s.pc s.a s.b) (i.held s.a s.b).1 (i.held s.a s.b).2 (t + i.cost) x (fun z => decide (z ∈ ns)) ps := by
          intro H3 f3 w3
          rw [grown0 hi, Int.add_zero] at w3
          have get3 : ∀ p o, p ≠ wk → p ≠ hd → H2 p = some o → H3 p = some o := fun p o n1 n2 e => f3 p o (by simp; exact ⟨n1, n2⟩) e
          obtain ⟨kv, h1, h2⟩ := tk2.pre
          refine ⟨f3.same sm2 (by intro p mp; simp at mp; rcases mp with rfl | rfl; exact L.nw; exact L.nh), ?_, get3 _ _ (fun z => nws z.symm) (fun z => nhs z.symm) e2, ⟨w3, ⟨kv, get3 _ _ (fun z => nwp z.symm) (fun z => tk2.apart.2 z.symm) h1, h2⟩, get3 _ _ (fun z => nwq z.symm) (fun z => nhq z.symm) tk2.que, tk2.apart⟩⟩
          intro p o ho e
          refine get3 p o (fun z => ?_) (fun z => ?_) e
          · rw [z, ob2] at e; cases e; exact ho
          · rw [z, tk2.wa.hl] at e; cases e; exact ho
        cases lim with
        | none =>
          refine ⟨_, rfl, rfl, _, rfl, ite2 (fun c => absurd c (by rw [show decide (limV none = V.non) = true from decide_eq_true rfl]; decide)) (fun _ => iteF ?_)⟩
          refine ⟨_, rfl, wk, dx, _, rfl, ob2, rfl, _, rfl, wk, dx, cd, hd, sn, s.pc, s.a, s.b, 0, t, _, .ref p, i, "teller", rfl, tk2.wa, noM_T _ _ _, hdv2, hi, fun H3 f3 w3 => ?_⟩
          obtain ⟨sm3, k3, e3, tk3⟩ := rest H3 f3 w3
          have ob3 := tk3.wa.ob
          refine ⟨_, rfl, p, _, _, _, rfl, rfl, Same.tup sm3 hsp, atI_nat (j := 0) rfl, rfl, _, rfl, ?_⟩
          cases i with
          | ans n =>
            obtain ⟨y, rfl, hy⟩ := dp_solo hap
            cases hy
            refine strT ⟨_, rfl, wk, dx, _, rfl, ob3, rfl, wk, dx, cd, hd, sn, pr, qs, _, _, _, _, x, _, ps, rfl, tk3, fun H4 p4 s4 np4 e4 => ?_⟩
            refine ⟨_, rfl, p, _, _, _, rfl, rfl, Same.tup (sm3.trans s4) hsp, atI_nat (j := 1) rfl, _, rfl, wk, C, dx, _, _, rfl, s4 _ _ ob3, T.cl, T.nTak, rfl, rfl, rfl, ?_⟩
            refine mk_run e4 fun H5 rr s5' nrr rv => q _ rr (sm3.trans (s4.trans s5')) ((sm3.trans s4).free nrr) ?_
            rw [← hEq]
            exact RunN.back (sm3.trans s4) rv
          | ask g d z =>
            refine strF (by simp only [Ins.word]; decide +kernel) ⟨_, rfl, p, _, _, _, rfl, rfl, Same.tup sm3 hsp, atI_nat (j := 0) rfl, rfl, _, rfl, strT ?_⟩
            refine ⟨_, rfl, wk, dx, _, rfl, ob3, rfl, _, rfl, wk, dx, cd, hd, sn, pr, qs, _, _, _, _, x, _, ps, .ref p, g, z, d, rfl, tk3, dp_mono sm3 _ _ hdv, hi, by have := L.pl; omega, fun H4 f4 tk4 => ?_⟩
            have get4 : ∀ p o, p ≠ hd → p ≠ qs → H3 p = some o → H4 p = some o := fun p o n1 n2 e => f4 p o (by simp; exact ⟨n1, n2⟩) e
            refine nxt H4 _ (f4.same sm3 (by intro p mp; simp at mp; rcases mp with rfl | rfl; exact L.nh; exact L.nq)) rfl tk4 (k3.trans fun p o ho e => get4 p o (fun z => by rw [z, tk3.wa.hl] at e; cases e; exact ho) (fun z => by rw [z, tk3.que] at e; cases e; exact ho) e) (get4 _ _ (fun z => nhs z.symm) (fun z => nqs' z.symm) e3)
          | set z n => exact strF (by simp only [Ins.word]; decide +kernel) ⟨_, rfl, p, _, _, _, rfl, rfl, Same.tup sm3 hsp, atI_nat (j := 0) rfl, rfl, _, rfl, strF (by simp only [Ins.word]; decide +kernel) (nxt H3 _ sm3 rfl tk3 k3 e3)⟩
          | add z n => exact strF (by simp only [Ins.word]; decide +kernel) ⟨_, rfl, p, _, _, _, rfl, rfl, Same.tup sm3 hsp, atI_nat (j := 0) rfl, rfl, _, rfl, strF (by simp only [Ins.word]; decide +kernel) (nxt H3 _ sm3 rfl tk3 k3 e3)⟩
          | wait n => exact strF (by simp only [Ins.word]; decide +kernel) ⟨_, rfl, p, _, _, _, rfl, rfl, Same.tup sm3 hsp, atI_nat (j := 0) rfl, rfl, _, rfl, strF (by simp only [Ins.word]; decide +kernel) (nxt H3 _ sm3 rfl tk3 k3 e3)⟩
          | grow n => exact absurd rfl hi.1
          | lst n => exact absurd rfl hi.1
          | test n u => exact strF (by simp only [Ins.word]; decide +kernel) ⟨_, rfl, p, _, _, _, rfl, rfl, Same.tup sm3 hsp, atI_nat (j := 0) rfl, rfl, _, rfl, strF (by simp only [Ins.word]; decide +kernel) (nxt H3 _ sm3 rfl tk3 k3 e3)⟩
          | jump n => exact strF (by simp only [Ins.word]; decide +kernel) ⟨_, rfl, p, _, _, _, rfl, rfl, Same.tup sm3 hsp, atI_nat (j := 0) rfl, rfl, _, rfl, strF (by simp only [Ins.word]; decide +kernel) (nxt H3 _ sm3 rfl tk3 k3 e3)⟩
        | some Lm =>
          have hge : ¬ Lm < t + i.cost := of_decide_eq_false hov
          refine ⟨_, rfl, rfl, _, rfl, ite2 (fun _ => ?_) (fun c => absurd (by rw [show decide (limV (some Lm) = V.non) = false from decide_eq_false (fun z => nomatch z)]; rfl) c)⟩
          refine ⟨_, rfl, wk, C, dx, _, _, rfl, ob2, T.cl, T.nTak, rfl, _, rfl, .ref p, i, rfl, hdv2, _, _, rfl, rfl, _, rfl, _, _, rfl, rfl, _, rfl, ite2 (fun c => absurd (of_decide_eq_true c) hge) (fun _ => ?_)⟩
          refine ⟨_, rfl, wk, dx, _, rfl, ob2, rfl, _, rfl, wk, dx, cd, hd, sn, s.pc, s.a, s.b, 0, t, _, .ref p, i, "teller", rfl, tk2.wa, noM_T _ _ _, hdv2, hi, fun H3 f3 w3 => ?_⟩
          obtain ⟨sm3, k3, e3, tk3⟩ := rest H3 f3 w3
          have ob3 := tk3.wa.ob
          refine ⟨_, rfl, p, _, _, _, rfl, rfl, Same.tup sm3 hsp, atI_nat (j := 0) rfl, rfl, _, rfl, ?_⟩
          cases i with
          | ans n =>
            obtain ⟨y, rfl, hy⟩ := dp_solo hap
            cases hy
            refine strT ⟨_, rfl, wk, dx, _, rfl, ob3, rfl, wk, dx, cd, hd, sn, pr, qs, _, _, _, _, x, _, ps, rfl, tk3, fun H4 p4 s4 np4 e4 => ?_⟩
            refine ⟨_, rfl, p, _, _, _, rfl, rfl, Same.tup (sm3.trans s4) hsp, atI_nat (j := 1) rfl, _, rfl, wk, C, dx, _, _, rfl, s4 _ _ ob3, T.cl, T.nTak, rfl, rfl, rfl, ?_⟩
            refine mk_run e4 fun H5 rr s5' nrr rv => q _ rr (sm3.trans (s4.trans s5')) ((sm3.trans s4).free nrr) ?_
            rw [← hEq]
            exact RunN.back (sm3.trans s4) rv
          | ask g d z =>
            refine strF (by simp only [Ins.word]; decide +kernel) ⟨_, rfl, p, _, _, _, rfl, rfl, Same.tup sm3 hsp, atI_nat (j := 0) rfl, rfl, _, rfl, strT ?_⟩
            refine ⟨_, rfl, wk, dx, _, rfl, ob3, rfl, _, rfl, wk, dx, cd, hd, sn, pr, qs, _, _, _, _, x, _, ps, .ref p, g, z, d, rfl, tk3, dp_mono sm3 _ _ hdv, hi, by have := L.pl; omega, fun H4 f4 tk4 => ?_⟩
            have get4 : ∀ p o, p ≠ hd → p ≠ qs → H3 p = some o → H4 p = some o := fun p o n1 n2 e => f4 p o (by simp; exact ⟨n1, n2⟩) e
            refine nxt H4 _ (f4.same sm3 (by intro p mp; simp at mp; rcases mp with rfl | rfl; exact L.nh; exact L.nq)) rfl tk4 (k3.trans fun p o ho e => get4 p o (fun z => by rw [z, tk3.wa.hl] at e; cases e; exact ho) (fun z => by rw [z, tk3.que] at e; cases e; exact ho) e) (get4 _ _ (fun z => nhs z.symm) (fun z => nqs' z.symm) e3)
          | set z n => exact strF (by simp only [Ins.word]; decide +kernel) ⟨_, rfl, p, _, _, _, rfl, rfl, Same.tup sm3 hsp, atI_nat (j := 0) rfl, rfl, _, rfl, strF (by simp only [Ins.word]; decide +kernel) (nxt H3 _ sm3 rfl tk3 k3 e3)⟩
          | add z n => exact strF (by simp only [Ins.word]; decide +kernel) ⟨_, rfl, p, _, _, _, rfl, rfl, Same.tup sm3 hsp, atI_nat (j := 0) rfl, rfl, _, rfl, strF (by simp only [Ins.word]; decide +kernel) (nxt H3 _ sm3 rfl tk3 k3 e3)⟩
          | wait n => exact strF (by simp only [Ins.word]; decide +kernel) ⟨_, rfl, p, _, _, _, rfl, rfl, Same.tup sm3 hsp, atI_nat (j := 0) rfl, rfl, _, rfl, strF (by simp only [Ins.word]; decide +kernel) (nxt H3 _ sm3 rfl tk3 k3 e3)⟩
          | grow n => exact absurd rfl hi.1
          | lst n => exact absurd rfl hi.1
          | test n u => exact strF (by simp only [Ins.word]; decide +kernel) ⟨_, rfl, p, _, _, _, rfl, rfl, Same.tup sm3 hsp, atI_nat (j := 0) rfl, rfl, _, rfl, strF (by simp only [Ins.word]; decide +kernel) (nxt H3 _ sm3 rfl tk3 k3 e3)⟩
          | jump n => exact strF (by simp only [Ins.word]; decide +kernel) ⟨_, rfl, p, _, _, _, rfl, rfl, Same.tup sm3 hsp, atI_nat (j := 0) rfl, rfl, _, rfl, strF (by simp only [Ins.word]; decide +kernel) (nxt H3 _ sm3 rfl tk3 k3 e3)⟩
theorem ok_FIT {f C : Addr} {fd : FuncData} (F : Fun K "first_inside" "Listing.first_inside" sFI f fd) (mm : mg "min" = none) (N : LNo K C) (MS : MCal P w K mg base 2 C "first_step" ["self", "integer"] (spFSt K C)) : FnOk P w K mg base CX0 3 f fd ["self", "members"] (spFIT K C) := by
  refine F.ok scFI (fun vs H Q E h => ?_) (fun cdv A outer s H vs Q E hr h => ?_)
  · obtain ⟨ls, m, H0, L, ms, rfl, _⟩ := h
    rfl
  obtain ⟨ls, m, H0, L, ms, rfl, hls, hL, hm, hml, hzb, q⟩ := h
  have hu := hu_of hr
  refine ⟨_, pss_cons (ps_setLc (i := 2) (own := [("member", 3)]) (g := gName 3) (tt := tYes) rfl scFI.nd rfl rfl (sw_true rfl rfl rfl (by decide +kernel)) (pi_tup (pv 1)) (blkOk_by (N := nsFI) (sc := defScope sFI) (by decide +kernel))
      (fun _ _ _ _ _ => pg_name (i := 3) scFI.nd rfl (.inl rfl)) (fun _ _ _ _ _ => pts_nil)
      (fun _ _ _ _ _ => pe_tup (pa_cons (pe_meth (pv 0) N.cl MS.m MS.G hr MS.b .nil pass0 (pa_cons (pv 3) pa_nil)) (pa_cons (pv 3) pa_nil))))
    (pss_one (ps_ret (pe_callBK (cr_minP rfl hu) (by rfl) mm (by decide +kernel) (pa_cons
      (pe_lc (own := [("row", 4)]) (g := gName 4) rfl scFI.nd (pi_list (pv 2)) (blkOk_by (N := nsFI) (sc := defScope sFI) (by decide +kernel))
        (fun _ _ _ _ _ => pg_name (i := 4) scFI.nd rfl (.inl rfl)) (fun _ _ _ _ _ => pts_one (pt_cmpR op_notN (pe_ix (r := rIxT K) ix_tup (pv 4) pe_int (fun _ _ => rfl)) pe_non (nomark _))) (fun _ _ _ _ _ => pv 4)) pa_nil) (pk_cons pe_non pk_nil)))), ?_⟩
  obtain ⟨dx, hd, cy, kh, kc, hs, cs, fm, xs, ys, kvs, la, ho, _⟩ := hls.ex
  refine ⟨_, rfl, m, rfl, ⟨_, hm⟩, fun D nD => lc_tup (K := K) (a := m) (xs := ms.map V.int) (fun i H' => Same H H' ∧ ∃ vs, H' D = some (.lst vs) ∧ OptAt L H H' vs (ms.take i)) ⟨same_new nD _, [], upd_same, .nil⟩ (fun i H' _ ⟨s1, _⟩ => Same.tup s1 hm) ?_ ?_⟩
  · rintro i y H1 hy ⟨s1, vs, eD, ov⟩
    obtain ⟨z, hz, rfl⟩ := ints_get hy
    have hi : i < ms.length := (List.getElem?_eq_some_iff.mp hz).1
    refine ⟨rfl, ?_⟩
    dsimp only [tYes]
    rw [if_pos rfl]
    refine ⟨_, rfl, ls, dx, _, rfl, s1 _ _ ho, rfl, _, rfl, ls, _, L, z, rfl, hls.same s1, hL, hzb z (List.mem_of_getElem? hz), fun H2 u2 => ⟨_, rfl, (by show 2 ≤ sizeLine; decide), fun t nt => ?_⟩⟩
    have u3 := same_new nt (.tup [optV (fstO L z), .int z])
    have e3 : (upd H2 t (.tup [optV (fstO L z), .int z])) t = some (.tup [optV (fstO L z), .int z]) := upd_same
    generalize upd H2 t (.tup [optV (fstO L z), .int z]) = H3 at u3 e3 ⊢
    have s3 := s1.trans (u2.trans u3)
    have hlv := ov.len
    rw [List.length_take] at hlv
    have k4 : KeepT H3 (upd H3 D (.lst (vs ++ [.ref t]))) := KeepT.upd ⟨_, (u2.trans u3) _ _ eD⟩
    refine ⟨vs, (u2.trans u3) _ _ eD, Nat.lt_of_le_of_lt (by omega : _ ≤ 1000000) (by decide), same_upd s3 nD _, _, upd_same, ?_⟩
    rw [take_snoc hz]
    exact ((ov.keep (KeepT.of (u2.trans u3))).keep k4).snoc ((s1.trans u2).free nt) (k4.1 _ _ e3)
  rintro H1 ⟨s1, vs, eD, ov⟩
  rw [List.length_map, List.take_length] at ov
  refine ⟨_, rfl, D, rfl, ⟨_, SqL.of eD⟩, fun G nG => lc_list (K := K) (a := D) (xs := vs) (fun i H' => Same H1 H' ∧ ∃ us, H' G = some (.lst us) ∧ us.length ≤ i ∧ RowsAt H' us (fiL L (ms.take i)) ∧ ∀ u ∈ us, ∃ t, u = .ref t ∧ H t = none) ⟨same_new nG _, [], upd_same, Nat.le_refl _, .nil, fun u m => nomatch m⟩ (fun i H' _ ⟨s2, _⟩ => SqL.of (s2 _ _ eD)) ?_ ?_⟩
  · rintro i v H2 hv ⟨s2, us, eG, hul, ru, nu⟩
    obtain ⟨t, z, rfl, hz, nt, et⟩ := ov.get hv
    have hi : i < ms.length := (List.getElem?_eq_some_iff.mp hz).1
    have et2 := s2 _ _ et
    refine ⟨rfl, ?_⟩
    refine ⟨_, rfl, t, _, _, _, rfl, rfl, SqT.of et2, atI_nat (j := 0) rfl, ?_⟩
    cases ef : fstO L z with
    | none =>
      have e1 : fiL L [z] = [] := by unfold fiL; simp [ef]
      refine ⟨rfl, _, rfl, ite2 (fun c => absurd c (by rw [show optV none = V.non from rfl, decide_eq_true rfl]; decide)) (fun _ => ?_)⟩
      refine ⟨s2, us, eG, by omega, ?_, nu⟩
      rw [fiL_snoc hz, e1, List.append_nil]
      exact ru
    | some sp =>
      have e1 : fiL L [z] = [(sp, z)] := by unfold fiL; simp [ef]
      rw [ef] at et2
      refine ⟨rfl, _, rfl, ite2 (fun _ => ?_) (fun c => absurd (by rw [show optV (some sp) = V.int sp from rfl, decide_eq_false (fun e => nomatch e)]; rfl) c)⟩
      have k4 : KeepT H2 (upd H2 G (.lst (us ++ [.ref t]))) := KeepT.upd ⟨_, eG⟩
      refine ⟨_, rfl, us, eG, Nat.lt_of_le_of_lt (by omega : _ ≤ 1000000) (by decide), same_upd s2 nG _, _, upd_same, ?_, ?_, ?_⟩
      · rw [List.length_append]; show us.length + 1 ≤ i + 1; omega
      · rw [fiL_snoc hz, e1]
        exact (ru.keep k4).app (.one (k4.1 _ _ et2))
      · intro u mu
        rcases List.mem_append.mp mu with m | m
        · exact nu u m
        · exact ⟨t, List.mem_singleton.mp m, nt⟩
  rintro H2 ⟨s2, us, eG, hul, ru, nu⟩
  rw [ov.len, List.take_length] at ru
  have hk := ru.keys
  refine ⟨G, us, keyV H2, rfl, rfl, SqL.of eG, ru.tups, fun e0 => ?_, fun v mv hv => ?_⟩
  · refine q _ _ none (s1.trans s2) ?_ rfl
    show fiL L ms = []
    rw [← hk, e0]
    rfl
  · obtain ⟨t, rfl, nt⟩ := nu v mv
    obtain ⟨t', et, ht⟩ := ru.tups _ mv
    cases et
    refine q _ _ (some (keyV H2 (.ref t))) (s1.trans s2) ⟨?_, fun u mu => ?_⟩ ⟨t, rfl, nt, ht⟩
    · rw [← hk]; exact List.mem_map_of_mem mv
    · rw [← hk] at mu
      obtain ⟨x, mx, rfl⟩ := List.mem_map.mp mu
      exact hv x mx
end
/-! ### a listing that is made: all that it is made of is new -/
structure LsN (K : PySem.W.Frag) (H0 H : Hp) (C ls : Addr) (L : LP) : Prop where
  ex : ∃ (dx hd cy kh kc hs cs fm : Addr) (xs ys : List V) (kvs : List (Key × V)) (la : List Addr), H ls = some (.ins C dx (lsF hd cy (lpPer L) (lpShift L) kh kc hs cs fm)) ∧ H hd = some (.lst xs) ∧ H cy = some (.lst ys) ∧ RowsAt H xs (lpHead L) ∧ RowsAt H ys (lpCycle L) ∧
    H kh = some (.tup xs) ∧ H kc = some (.tup ys) ∧ H hs = some (.dK (fsD (firstS (lpHead L)))) ∧ H cs = some (.dK (fsD (firstS (lpCycle L)))) ∧ H fm = some (.dK kvs) ∧ FamR K H kvs (famS (lpShift L) (firstS (lpCycle L))) la ∧ H0 hd = none ∧ H0 cy = none ∧ hd ≠ cy ∧ hd ∉ la ∧ cy ∉ la ∧ (lpRows L).length ≤ 100000 ∧
    H0 hs = none ∧ H0 cs = none ∧ H0 fm = none ∧ ∀ a ∈ la, H0 a = none
def spLIF (K : PySem.W.Frag) (C : Addr) : Sp := fun vs H Q _ => ∃ (ls dx : Addr) (v : V) (d : PyData) (code : List Ins), vs = [.ref ls, v] ∧ H ls = some (.ins C dx []) ∧ Dp K H v (.tuple [.str "collector", d]) ∧ Lay (.tuple [.str "collector", d]) ∧ noL d = true ∧ isProg (.tuple [.str "collector", d]) = true ∧ bodyC 4 0 d = code.map Ins.toD ∧ (∀ i ∈ code, i.ok "collector") ∧
  ∀ H', Fx [ls] H H' → LsN K H H' C ls (runL code) → Q .non H'
def noH : Hp := fun _ => none
theorem LsO.weak {K : PySem.W.Frag} {H0 H : Hp} {C ls : Addr} {L : LP} (h : LsO K H0 H C ls L) : LsO K noH H C ls L := by
  obtain ⟨dx, hd, cy, kh, kc, hs, cs, fm, xs, ys, kvs, la, h1, h2, h3, h4, h5, h6, h7, h8, h9, h10, h11, _, _, n3, n4, n5, hl⟩ := h.ex
  exact ⟨dx, hd, cy, kh, kc, hs, cs, fm, xs, ys, kvs, la, h1, h2, h3, h4, h5, h6, h7, h8, h9, h10, h11, rfl, rfl, n3, n4, n5, hl⟩
section
variable {P : Program} {w : World} {K : PySem.W.Frag} {mg : Str → Option Value} {base : Heap}
theorem ok_LIF {f C : Addr} {fd : FuncData} (F : Fun K "__init__" "Listing.__init__" sLI f fd) (N : LNo K C) (mt : mg "tuple" = none) (CP : Cal P w K mg base 7 "is_program" ["thing"] (spProg K)) (CA : Cal P w K mg base 15 "assemble" ["program"] (spAsm K)) (CL : Cal P w K mg base 5 "list_parts" ["code"] (spLPt K)) (CF : Cal P w K mg base 1 "first_steps" ["rows"] (spFS K)) (MF : MCal P w K mg base 1 C "family" ["self", "integer"] (spFam K C)) :
    FnOk P w K mg base CX0 16 f fd ["self", "program"] (spLIF K C) := by
  refine F.ok scLI (fun vs H Q E h => ?_) (fun cdv A outer s H vs Q E hr h => ?_)
  · obtain ⟨ls, dx, v, d, code, rfl, _⟩ := h
    rfl
  obtain ⟨ls, dx, v, d, code, rfl, ho, hd0, ld, nd, hp, hcode, hok, q⟩ := h
  have hr1 : Room 1 _ := hr.mono (by decide)
  have hr2 : Room 2 _ := hr.mono (by decide)
  have hr5 : Room 5 _ := hr.mono (by decide)
  have hr7 : Room 7 _ := hr.mono (by decide)
  have hu := hu_of hr
  refine ⟨_, PSs.nox (pss_cons (ps_if (PW.pt (pw_or (pt_not (pt_val (pe_call CP.G hr7 rfl CP.m CP.kp CP.b .nil pass0 (pa_cons (pv 1) pa_nil)))) (pw_or1 (pt_cmpR op_ne (pe_ix ix_tup (pv 1) pe_int (fun _ _ => rfl)) pe_str (nomark _))))) (pss_one ps_never) pss_nil)
    (pss_cons (ps_asg (pe_call CL.G hr5 rfl CL.m CL.kp CL.b .nil pass0 (pa_cons (pe_call CA.G hr rfl CA.m CA.kp CA.b .nil pass0 (pa_cons (pv 1) pa_nil)) pa_nil)) (pg_tup (by rfl) (pgs_cons (pg_name (i := 2) scLI.nd rfl (.inl rfl)) (pgs_cons (pg_name (i := 3) scLI.nd rfl (.inl rfl)) (pgs_cons (pg_name (i := 4) scLI.nd rfl (.inl rfl)) (pgs_cons (pg_name (i := 5) scLI.nd rfl (.inl rfl)) pgs_nil))))))
    (pss_cons (ps_fld (pv 0) (pv 2) rfl) (pss_cons (ps_fld (pv 0) (pv 3) rfl) (pss_cons (ps_fld (pv 0) (pv 4) rfl) (pss_cons (ps_fld (pv 0) (pv 5) rfl)
    (pss_cons (ps_fld (pv 0) (pe_callTy call_tuple_of (by rfl) mt (by decide +kernel) (pa_cons (pv 2) pa_nil)) rfl)
    (pss_cons (ps_fld (pv 0) (pe_callTy call_tuple_of (by rfl) mt (by decide +kernel) (pa_cons (pv 3) pa_nil)) rfl)
    (pss_cons (ps_fld (pv 0) (pe_call CF.G hr1 rfl CF.m CF.kp CF.b .nil pass0 (pa_cons (pv 2) pa_nil)) rfl)
    (pss_cons (ps_fld (pv 0) (pe_call CF.G hr1 rfl CF.m CF.kp CF.b .nil pass0 (pa_cons (pv 3) pa_nil)) rfl)
    (pss_cons (ps_fld (pv 0) pe_dnewK rfl)
    (pss_one (ps_lock (ps_for PassesOwn.never rfl (pi_items (pe_fld (pv 0) rfl)) (pg_tup (by rfl) (pgs_cons (pg_name (i := 6) scLI.nd rfl (.inl rfl)) (pgs_cons (pg_name (i := 7) scLI.nd rfl (.inl rfl)) pgs_nil)))
      (pss_one (ps_expr (pe_bm PySem.F.plainAttrs_list PySem.F.slot_list_append PySem.F.type_list_append mt_append (pe_dsetd (pe_fld (pv 0) rfl) (pe_meth (pv 0) N.cl MF.m MF.G hr1 MF.b .nil pass0 (pa_cons (pv 6) pa_nil)) (pe_lst pa_nil) ⟨rfl, rfl, rfl, rfl⟩) (pa_cons (pe_tup (pa_cons (pv 7) (pa_cons (pv 6) pa_nil))) pa_nil)))))))))))))))))), ?_⟩
  refine ⟨_, rfl, v, _, rfl, hd0, ld, fun H1 s1 => ⟨_, rfl, ?_⟩⟩
  rw [hp]
  obtain ⟨a, xsP, rfl, hs0, ha⟩ := dp_tup_inv hd0
  obtain ⟨x0, x1, rfl, hx0, hx1⟩ := dp_pair ha
  cases hx0
  refine iteF ⟨_, rfl, a, _, _, _, rfl, rfl, Same.tup s1 hs0, atI_nat (j := 0) rfl, rfl, _, rfl, ?_⟩
  refine ite2 (fun c => absurd c (by rw [decide_eq_true rfl]; decide)) (fun _ => ?_)
  refine ⟨_, rfl, .ref a, "collector", d, rfl, dp_mono s1 _ _ hd0, ld, nd, hp, fun H2 p ys0 s2 np ep hys0 => ?_⟩
  obtain ⟨c, hbc, hc⟩ := prog_bodyC hp
  obtain ⟨_, hcl⟩ := body_code_ok 0 (lay_mem (lay_tup ld) d (by simp)) hbc
  rw [hcode] at hys0 hcl
  rw [List.length_map] at hcl
  have hcl1 : code.length ≤ 100 := by omega
  have hlen := runL_len hcl1
  refine ⟨p, ys0, code, rfl, SqL.of ep, hys0, hok, hcl1, fun H3 t s3 nt tl => ?_⟩
  obtain ⟨hd, cy, xs, ys, et, eh, ec, dh, dc, nh3, nc3, nhc⟩ := tl
  have s13 : Same H H3 := (s1.trans s2).trans s3
  refine ⟨t, _, rfl, SqT.of et, rfl, _, _, rfl, _, _, rfl, _, _, rfl, _, _, rfl, rfl, ?_⟩
  have oH3 := s13 _ _ ho
  have fH3 : Fx [ls] H H3 := Fx.of s13
  refine ⟨_, rfl, _, rfl, ls, C, dx, _, rfl, oH3, N.cl, N.nHd, (by show 0 < 1000; decide), ?_⟩
  have fA1 : Fx [ls] H (upd H3 ls (.ins C dx (putF "head" (.ref hd) []))) := fH3.trans (Fx.upd (by simp))
  have gA1 : Fx [ls] H3 (upd H3 ls (.ins C dx (putF "head" (.ref hd) []))) := Fx.upd (by simp)
  have oA1 : (upd H3 ls (.ins C dx (putF "head" (.ref hd) []))) ls = some (.ins C dx [("head", .ref hd)]) := upd_same
  generalize upd H3 ls (.ins C dx (putF "head" (.ref hd) [])) = A1 at fA1 gA1 oA1 ⊢
  refine ⟨_, rfl, _, rfl, ls, C, dx, _, rfl, oA1, N.cl, N.nCy, (by show 1 < 1000; decide), ?_⟩
  have fA2 : Fx [ls] H (upd A1 ls (.ins C dx (putF "cycle" (.ref cy) [("head", .ref hd)]))) := fA1.trans (Fx.upd (by simp))
  have gA2 : Fx [ls] A1 (upd A1 ls (.ins C dx (putF "cycle" (.ref cy) [("head", .ref hd)]))) := Fx.upd (by simp)
  have oA2 : (upd A1 ls (.ins C dx (putF "cycle" (.ref cy) [("head", .ref hd)]))) ls = some (.ins C dx [("head", .ref hd), ("cycle", .ref cy)]) := upd_same
  generalize upd A1 ls (.ins C dx (putF "cycle" (.ref cy) [("head", .ref hd)])) = A2 at fA2 gA2 oA2 ⊢
  refine ⟨_, rfl, _, rfl, ls, C, dx, _, rfl, oA2, N.cl, N.nPe, (by show 2 < 1000; decide), ?_⟩
  have fA3 : Fx [ls] H (upd A2 ls (.ins C dx (putF "period" (.int (lpPer (runL code))) [("head", .ref hd), ("cycle", .ref cy)]))) := fA2.trans (Fx.upd (by simp))
  have gA3 : Fx [ls] A2 (upd A2 ls (.ins C dx (putF "period" (.int (lpPer (runL code))) [("head", .ref hd), ("cycle", .ref cy)]))) := Fx.upd (by simp)
  have oA3 : (upd A2 ls (.ins C dx (putF "period" (.int (lpPer (runL code))) [("head", .ref hd), ("cycle", .ref cy)]))) ls = some (.ins C dx [("head", .ref hd), ("cycle", .ref cy), ("period", .int (lpPer (runL code)))]) := upd_same
  generalize upd A2 ls (.ins C dx (putF "period" (.int (lpPer (runL code))) [("head", .ref hd), ("cycle", .ref cy)])) = A3 at fA3 gA3 oA3 ⊢
  refine ⟨_, rfl, _, rfl, ls, C, dx, _, rfl, oA3, N.cl, N.nSh, (by show 3 < 1000; decide), ?_⟩
  have fA4 : Fx [ls] H (upd A3 ls (.ins C dx (putF "shift" (.int (lpShift (runL code))) [("head", .ref hd), ("cycle", .ref cy), ("period", .int (lpPer (runL code)))]))) := fA3.trans (Fx.upd (by simp))
  have gA4 : Fx [ls] A3 (upd A3 ls (.ins C dx (putF "shift" (.int (lpShift (runL code))) [("head", .ref hd), ("cycle", .ref cy), ("period", .int (lpPer (runL code)))]))) := Fx.upd (by simp)
  have oA4 : (upd A3 ls (.ins C dx (putF "shift" (.int (lpShift (runL code))) [("head", .ref hd), ("cycle", .ref cy), ("period", .int (lpPer (runL code)))]))) ls = some (.ins C dx [("head", .ref hd), ("cycle", .ref cy), ("period", .int (lpPer (runL code))), ("shift", .int (lpShift (runL code)))]) := upd_same
  generalize upd A3 ls (.ins C dx (putF "shift" (.int (lpShift (runL code))) [("head", .ref hd), ("cycle", .ref cy), ("period", .int (lpPer (runL code)))])) = A4 at fA4 gA4 oA4 ⊢
  have keep : ∀ {Hx Hy : Hp} {p : Addr} {o : HO} {fs : List (Str × V)}, Fx [ls] Hx Hy → Hx ls = some (.ins C dx fs) → Hx p = some o → (∀ c d f, o ≠ .ins c d f) → Hy p = some o := fun {Hx Hy p o fs} fx ox e n => fx p o (fun z => by
    rw [List.mem_singleton.mp z, ox] at e
    injection e with e
    exact n _ _ _ e.symm) e
  have kT : ∀ {Hx Hy : Hp} {fs : List (Str × V)}, Fx [ls] Hx Hy → Hx ls = some (.ins C dx fs) → KeepT Hx Hy := fun {Hx Hy fs} fx ox => ⟨fun x l e => keep fx ox e (fun _ _ _ z => nomatch z), fun x o u e => keep fx ox e (fun _ _ _ z => nomatch z)⟩
  have g4 : Fx [ls] H3 A4 := ((gA1.trans gA2).trans gA3).trans gA4
  have eh4 := keep g4 oH3 eh (fun _ _ _ z => nomatch z)
  have ec4 := keep g4 oH3 ec (fun _ _ _ z => nomatch z)
  have dh4 := dh.keep (kT g4 oH3)
  have dc4 := dc.keep (kT g4 oH3)
  refine ⟨_, rfl, hd, xs, rfl, .inl ⟨SqL.of eh4, fun kh nkh => ?_⟩⟩
  have u5 := same_new nkh (.tup xs)
  have ekh : (upd A4 kh (.tup xs)) kh = some (.tup xs) := upd_same
  generalize upd A4 kh (.tup xs) = B5 at u5 ekh ⊢
  have oB5 := u5 _ _ oA4
  have fB5 : Fx [ls] H B5 := fA4.trans (Fx.of u5)
  refine ⟨_, rfl, ls, C, dx, _, rfl, oB5, N.cl, N.nKh, (by show 4 < 1000; decide), ?_⟩
  have fA5 : Fx [ls] H (upd B5 ls (.ins C dx (putF "kept_head" (.ref kh) [("head", .ref hd), ("cycle", .ref cy), ("period", .int (lpPer (runL code))), ("shift", .int (lpShift (runL code)))]))) := fB5.trans (Fx.upd (by simp))
  have gA5 : Fx [ls] B5 (upd B5 ls (.ins C dx (putF "kept_head" (.ref kh) [("head", .ref hd), ("cycle", .ref cy), ("period", .int (lpPer (runL code))), ("shift", .int (lpShift (runL code)))]))) := Fx.upd (by simp)
  have oA5 : (upd B5 ls (.ins C dx (putF "kept_head" (.ref kh) [("head", .ref hd), ("cycle", .ref cy), ("period", .int (lpPer (runL code))), ("shift", .int (lpShift (runL code)))]))) ls = some (.ins C dx [("head", .ref hd), ("cycle", .ref cy), ("period", .int (lpPer (runL code))), ("shift", .int (lpShift (runL code))), ("kept_head", .ref kh)]) := upd_same
  generalize upd B5 ls (.ins C dx (putF "kept_head" (.ref kh) [("head", .ref hd), ("cycle", .ref cy), ("period", .int (lpPer (runL code))), ("shift", .int (lpShift (runL code)))])) = A5 at fA5 gA5 oA5 ⊢
  have ec5 := keep gA5 oB5 (u5 _ _ ec4) (fun _ _ _ z => nomatch z)
  have ekh5 := keep gA5 oB5 ekh (fun _ _ _ z => nomatch z)
  refine ⟨_, rfl, cy, ys, rfl, .inl ⟨SqL.of ec5, fun kc nkc => ?_⟩⟩
  have u6 := same_new nkc (.tup ys)
  have ekc : (upd A5 kc (.tup ys)) kc = some (.tup ys) := upd_same
  generalize upd A5 kc (.tup ys) = B6 at u6 ekc ⊢
  have oB6 := u6 _ _ oA5
  have fB6 : Fx [ls] H B6 := fA5.trans (Fx.of u6)
  refine ⟨_, rfl, ls, C, dx, _, rfl, oB6, N.cl, N.nKc, (by show 5 < 1000; decide), ?_⟩
  have fA6 : Fx [ls] H (upd B6 ls (.ins C dx (putF "kept_cycle" (.ref kc) [("head", .ref hd), ("cycle", .ref cy), ("period", .int (lpPer (runL code))), ("shift", .int (lpShift (runL code))), ("kept_head", .ref kh)]))) := fB6.trans (Fx.upd (by simp))
  have gA6 : Fx [ls] B6 (upd B6 ls (.ins C dx (putF "kept_cycle" (.ref kc) [("head", .ref hd), ("cycle", .ref cy), ("period", .int (lpPer (runL code))), ("shift", .int (lpShift (runL code))), ("kept_head", .ref kh)]))) := Fx.upd (by simp)
  have oA6 : (upd B6 ls (.ins C dx (putF "kept_cycle" (.ref kc) [("head", .ref hd), ("cycle", .ref cy), ("period", .int (lpPer (runL code))), ("shift", .int (lpShift (runL code))), ("kept_head", .ref kh)]))) ls = some (.ins C dx [("head", .ref hd), ("cycle", .ref cy), ("period", .int (lpPer (runL code))), ("shift", .int (lpShift (runL code))), ("kept_head", .ref kh), ("kept_cycle", .ref kc)]) := upd_same
  generalize upd B6 ls (.ins C dx (putF "kept_cycle" (.ref kc) [("head", .ref hd), ("cycle", .ref cy), ("period", .int (lpPer (runL code))), ("shift", .int (lpShift (runL code))), ("kept_head", .ref kh)])) = A6 at fA6 gA6 oA6 ⊢
  have g46 : Fx [ls] A4 A6 := (((Fx.of u5).trans gA5).trans (Fx.of u6)).trans gA6
  have eh6 := keep g46 oA4 eh4 (fun _ _ _ z => nomatch z)
  have ec6 := keep g46 oA4 ec4 (fun _ _ _ z => nomatch z)
  have dh6 := dh4.keep (kT g46 oA4)
  have dc6 := dc4.keep (kT g46 oA4)
  have ekh6 := keep ((Fx.of u6).trans gA6) oA5 ekh5 (fun _ _ _ z => nomatch z)
  have ekc6 := keep gA6 oB6 ekc (fun _ _ _ z => nomatch z)
  refine ⟨_, rfl, hd, xs, lpHead (runL code), rfl, eh6, dh6.dp, Nat.le_trans (lpHead_len _) hlen, fun B7 hs u7 nhs ehs => ?_⟩
  have oB7 := u7 _ _ oA6
  have fB7 : Fx [ls] H B7 := fA6.trans (Fx.of u7)
  refine ⟨_, rfl, ls, C, dx, _, rfl, oB7, N.cl, N.nHs, (by show 6 < 1000; decide), ?_⟩
  have fA7 : Fx [ls] H (upd B7 ls (.ins C dx (putF "head_steps" (.ref hs) [("head", .ref hd), ("cycle", .ref cy), ("period", .int (lpPer (runL code))), ("shift", .int (lpShift (runL code))), ("kept_head", .ref kh), ("kept_cycle", .ref kc)]))) := fB7.trans (Fx.upd (by simp))
  have gA7 : Fx [ls] B7 (upd B7 ls (.ins C dx (putF "head_steps" (.ref hs) [("head", .ref hd), ("cycle", .ref cy), ("period", .int (lpPer (runL code))), ("shift", .int (lpShift (runL code))), ("kept_head", .ref kh), ("kept_cycle", .ref kc)]))) := Fx.upd (by simp)
  have oA7 : (upd B7 ls (.ins C dx (putF "head_steps" (.ref hs) [("head", .ref hd), ("cycle", .ref cy), ("period", .int (lpPer (runL code))), ("shift", .int (lpShift (runL code))), ("kept_head", .ref kh), ("kept_cycle", .ref kc)]))) ls = some (.ins C dx [("head", .ref hd), ("cycle", .ref cy), ("period", .int (lpPer (runL code))), ("shift", .int (lpShift (runL code))), ("kept_head", .ref kh), ("kept_cycle", .ref kc), ("head_steps", .ref hs)]) := upd_same
  generalize upd B7 ls (.ins C dx (putF "head_steps" (.ref hs) [("head", .ref hd), ("cycle", .ref cy), ("period", .int (lpPer (runL code))), ("shift", .int (lpShift (runL code))), ("kept_head", .ref kh), ("kept_cycle", .ref kc)])) = A7 at fA7 gA7 oA7 ⊢
  have g67 : Fx [ls] A6 A7 := (Fx.of u7).trans gA7
  have ec7 := keep g67 oA6 ec6 (fun _ _ _ z => nomatch z)
  have dc7 := dc6.keep (kT g67 oA6)
  have ehs7 := keep gA7 oB7 ehs (fun _ _ _ z => nomatch z)
  refine ⟨_, rfl, cy, ys, lpCycle (runL code), rfl, ec7, dc7.dp, Nat.le_trans (lpCycle_len _) hlen, fun B8 cs u8 ncs ecs => ?_⟩
  have oB8 := u8 _ _ oA7
  have fB8 : Fx [ls] H B8 := fA7.trans (Fx.of u8)
  refine ⟨_, rfl, ls, C, dx, _, rfl, oB8, N.cl, N.nCs, (by show 7 < 1000; decide), ?_⟩
  have fA8 : Fx [ls] H (upd B8 ls (.ins C dx (putF "cycle_steps" (.ref cs) [("head", .ref hd), ("cycle", .ref cy), ("period", .int (lpPer (runL code))), ("shift", .int (lpShift (runL code))), ("kept_head", .ref kh), ("kept_cycle", .ref kc), ("head_steps", .ref hs)]))) := fB8.trans (Fx.upd (by simp))
  have gA8 : Fx [ls] B8 (upd B8 ls (.ins C dx (putF "cycle_steps" (.ref cs) [("head", .ref hd), ("cycle", .ref cy), ("period", .int (lpPer (runL code))), ("shift", .int (lpShift (runL code))), ("kept_head", .ref kh), ("kept_cycle", .ref kc), ("head_steps", .ref hs)]))) := Fx.upd (by simp)
  have oA8 : (upd B8 ls (.ins C dx (putF "cycle_steps" (.ref cs) [("head", .ref hd), ("cycle", .ref cy), ("period", .int (lpPer (runL code))), ("shift", .int (lpShift (runL code))), ("kept_head", .ref kh), ("kept_cycle", .ref kc), ("head_steps", .ref hs)]))) ls = some (.ins C dx [("head", .ref hd), ("cycle", .ref cy), ("period", .int (lpPer (runL code))), ("shift", .int (lpShift (runL code))), ("kept_head", .ref kh), ("kept_cycle", .ref kc), ("head_steps", .ref hs), ("cycle_steps", .ref cs)]) := upd_same
  generalize upd B8 ls (.ins C dx (putF "cycle_steps" (.ref cs) [("head", .ref hd), ("cycle", .ref cy), ("period", .int (lpPer (runL code))), ("shift", .int (lpShift (runL code))), ("kept_head", .ref kh), ("kept_cycle", .ref kc), ("head_steps", .ref hs)])) = A8 at fA8 gA8 oA8 ⊢
  have ehs8 := keep ((Fx.of u8).trans gA8) oA7 ehs7 (fun _ _ _ z => nomatch z)
  have ecs8 := keep gA8 oB8 ecs (fun _ _ _ z => nomatch z)
  refine fun fm nfm => ?_
  have u9 := same_new nfm (.dK [])
  have efm : (upd A8 fm (.dK [])) fm = some (.dK []) := upd_same
  generalize upd A8 fm (.dK []) = B9 at u9 efm ⊢
  have oB9 := u9 _ _ oA8
  have fB9 : Fx [ls] H B9 := fA8.trans (Fx.of u9)
  refine ⟨_, rfl, ls, C, dx, _, rfl, oB9, N.cl, N.nFm, (by show 8 < 1000; decide), ?_⟩
  have fA9 : Fx [ls] H (upd B9 ls (.ins C dx (putF "families" (.ref fm) [("head", .ref hd), ("cycle", .ref cy), ("period", .int (lpPer (runL code))), ("shift", .int (lpShift (runL code))), ("kept_head", .ref kh), ("kept_cycle", .ref kc), ("head_steps", .ref hs), ("cycle_steps", .ref cs)]))) := fB9.trans (Fx.upd (by simp))
  have gA9 : Fx [ls] B9 (upd B9 ls (.ins C dx (putF "families" (.ref fm) [("head", .ref hd), ("cycle", .ref cy), ("period", .int (lpPer (runL code))), ("shift", .int (lpShift (runL code))), ("kept_head", .ref kh), ("kept_cycle", .ref kc), ("head_steps", .ref hs), ("cycle_steps", .ref cs)]))) := Fx.upd (by simp)
  have oA9 : (upd B9 ls (.ins C dx (putF "families" (.ref fm) [("head", .ref hd), ("cycle", .ref cy), ("period", .int (lpPer (runL code))), ("shift", .int (lpShift (runL code))), ("kept_head", .ref kh), ("kept_cycle", .ref kc), ("head_steps", .ref hs), ("cycle_steps", .ref cs)]))) ls = some (.ins C dx [("head", .ref hd), ("cycle", .ref cy), ("period", .int (lpPer (runL code))), ("shift", .int (lpShift (runL code))), ("kept_head", .ref kh), ("kept_cycle", .ref kc), ("head_steps", .ref hs), ("cycle_steps", .ref cs), ("families", .ref fm)]) := upd_same
  generalize upd B9 ls (.ins C dx (putF "families" (.ref fm) [("head", .ref hd), ("cycle", .ref cy), ("period", .int (lpPer (runL code))), ("shift", .int (lpShift (runL code))), ("kept_head", .ref kh), ("kept_cycle", .ref kc), ("head_steps", .ref hs), ("cycle_steps", .ref cs)])) = A9 at fA9 gA9 oA9 ⊢
  have g69 : Fx [ls] A6 A9 := (((g67.trans (Fx.of u8)).trans gA8).trans (Fx.of u9)).trans gA9
  have eh9 := keep g69 oA6 eh6 (fun _ _ _ z => nomatch z)
  have ec9 := keep g69 oA6 ec6 (fun _ _ _ z => nomatch z)
  have dh9 := dh6.keep (kT g69 oA6)
  have dc9 := dc6.keep (kT g69 oA6)
  have ekh9 := keep g69 oA6 ekh6 (fun _ _ _ z => nomatch z)
  have ekc9 := keep g69 oA6 ekc6 (fun _ _ _ z => nomatch z)
  have ehs9 := keep ((Fx.of u9).trans gA9) oA8 ehs8 (fun _ _ _ z => nomatch z)
  have ecs9 := keep ((Fx.of u9).trans gA9) oA8 ecs8 (fun _ _ _ z => nomatch z)
  have efm9 := keep gA9 oB9 efm (fun _ _ _ z => nomatch z)
  have hclen : (firstS (lpCycle (runL code))).length ≤ 100000 := Nat.le_trans (firstS_len _) (Nat.le_trans (lpCycle_len _) hlen)
  have sl : (fsD (firstS (lpCycle (runL code)))).length = (firstS (lpCycle (runL code))).length := by unfold fsD; rw [List.length_map]
  refine ⟨cs, _, ecs9, trivial, fun od => ?_⟩
  -- the dict is locked
  have nlc : ls ≠ cs := fun z => by rw [← z, oA9] at ecs9; cases ecs9
  have nfc : fm ≠ cs := fun z => ne_of_none ecs8 nfm z.symm
  have oL : (upd A9 cs (.frz od (.dK (fsD (firstS (lpCycle (runL code))))))) ls = some (.ins C dx (lsF hd cy (lpPer (runL code)) (lpShift (runL code)) kh kc hs cs fm)) := by rw [upd_ne nlc]; exact oA9
  have eL : (upd A9 cs (.frz od (.dK (fsD (firstS (lpCycle (runL code))))))) cs = some (.frz od (.dK (fsD (firstS (lpCycle (runL code)))))) := upd_same
  have fL : (upd A9 cs (.frz od (.dK (fsD (firstS (lpCycle (runL code))))))) fm = some (.dK []) := by rw [upd_ne nfc]; exact efm9
  have kL : Fx [cs] A9 (upd A9 cs (.frz od (.dK (fsD (firstS (lpCycle (runL code))))))) := Fx.upd (by simp)
  generalize upd A9 cs (.frz od (.dK (fsD (firstS (lpCycle (runL code)))))) = L1 at oL eL fL kL ⊢
  refine ⟨_, rfl, ls, C, dx, _, _, rfl, oL, N.cl, N.nCs, rfl, cs, od, _, rfl, eL, ?_⟩
  refine for_it walk_items (fun i σ Hx => ∃ (s6 s7 : Option V) (kvs : List (Key × V)) (la : List Addr), σ = [some (.ref ls), some (.ref a), some (.ref hd), some (.ref cy), some (.int (lpPer (runL code))), some (.int (lpShift (runL code))), s6, s7] ∧ Fx [fm] L1 Hx ∧ Hx fm = some (.dK kvs) ∧ FamR K Hx kvs (famS (lpShift (runL code)) ((firstS (lpCycle (runL code))).take i)) la ∧ ∀ a ∈ la, L1 a = none)
    ⟨none, none, [], [], rfl, fun p o _ e => e, fL, .nil, fun a m => nomatch m⟩ (fun i σ Hx _ ⟨_, _, _, _, _, fx, _⟩ => fx _ _ (by simp; exact fun z => nfc z.symm) eL) ?_ ?_
  · rintro i x σ Hx Hy hi ⟨s6, s7, kvs, la, rfl, fx, efx, fam, nla⟩ ⟨T, y, z, rfl, nT, rfl, hy, hz⟩
    rw [sl] at hi
    have er : (firstS (lpCycle (runL code)))[i]? = some (firstS (lpCycle (runL code)))[i] := List.getElem?_eq_getElem hi
    generalize (firstS (lpCycle (runL code)))[i] = r at er
    have hkv : (fsD (firstS (lpCycle (runL code))))[i]? = some (Sum.inl r.1, .int r.2) := by unfold fsD; rw [List.getElem?_map, er]; rfl
    dsimp only at hy hz
    rw [hkv] at hy hz
    have ey : y = .int r.1 := by injection hy with hy; exact hy.symm
    have ez : z = .int r.2 := by injection hz with hz; exact hz.symm
    subst ey ez
    have uT := same_new nT (.tup [.int r.1, .int r.2])
    have eT : (upd Hx T (.tup [.int r.1, .int r.2])) T = some (.tup [.int r.1, .int r.2]) := upd_same
    generalize upd Hx T (.tup [.int r.1, .int r.2]) = Hy at uT eT ⊢
    have oy : Hy ls = some (.ins C dx (lsF hd cy (lpPer (runL code)) (lpShift (runL code)) kh kc hs cs fm)) := uT _ _ (fx _ _ (by simp; exact fun z => by rw [z] at oL; rw [fL] at oL; cases oL) oL)
    refine ⟨T, _, rfl, SqT.of eT, rfl, _, _, rfl, _, _, rfl, rfl, ?_⟩
    have fam1 := fam.keep (KeepR.of uT) (fun a _ o e => uT _ _ e)
    have efy := uT _ _ efx
    refine ⟨_, rfl, ls, C, dx, _, _, rfl, oy, N.cl, N.nFm, rfl, fm, rfl, .inl ⟨_, .inl efy⟩, _, rfl, ls, dx, _, rfl, oy, rfl, _, rfl, ls, dx, _, (lpShift (runL code)), r.1, rfl, oy, rfl, (by show 0 ≤ sizeLine; decide), fun l nl => ?_⟩
    have ul := same_new nl (.lst [])
    have el : (upd Hy l (.lst [])) l = some (.lst []) := upd_same
    have hkl : kvs.length < sizeLine := by
      have h1 := fam.len
      have h2 := famS_len (lpShift (runL code)) ((firstS (lpCycle (runL code))).take i)
      rw [List.length_take] at h2
      exact Nat.lt_of_le_of_lt (by omega : _ ≤ 100000) (by decide)
    generalize upd Hy l (.lst []) = Hz at ul el ⊢
    have efz := ul _ _ efy
    have fam2 := fam1.keep (KeepR.of ul) (fun a _ o e => ul _ _ e)
    have fxz : Fx [fm] L1 Hz := fx.trans (Fx.of (uT.trans ul))
    have hall := famS_all (lpShift (runL code)) ((firstS (lpCycle (runL code))).take i)
    rw [List.length_take] at hall
    have nLl : L1 l = none := by
      cases zz : L1 l with
      | none => rfl
      | some o =>
        by_cases c : l = fm
        · rw [c, efy] at nl; cases nl
        · have := uT _ _ (fx l o (by simp; exact c) zz)
          rw [nl] at this; cases this
    have nlla : l ∉ la := fun m => by
      obtain ⟨xs', e'⟩ := fam1.there l m
      rw [nl] at e'; cases e'
    refine ⟨kvs, Sum.inl (famZ (lpShift (runL code)) r.1), efz, rfl, hkl, fun v hv => ?_, fun hv => ?_⟩
    · rcases fam2.look (famZ (lpShift (runL code)) r.1) with ⟨h1, _⟩ | ⟨l', xs', rows', h1, h2, h3, h4, h5, h6⟩
      · rw [h1] at hv; cases hv
      rw [h1] at hv
      have ev : v = .ref l' := by injection hv with hv; exact hv.symm
      subst ev
      refine ⟨.inl ⟨rfl, _, SqL.of h4⟩, _, rfl, _, rfl, (by show 2 ≤ sizeLine; decide), fun rp nrp => ?_⟩
      have dr := new_tup (K := K) (xs := [.int r.2, .int r.1]) nrp (.cons (.int r.2) (.cons (.int r.1) .nil))
      have ur := same_new nrp (.tup [.int r.2, .int r.1])
      generalize upd Hz rp (.tup [.int r.2, .int r.1]) = Hw at dr ur ⊢
      have hl := dpAll_len h5
      rw [List.length_map] at hl
      refine ⟨l', xs', _, rfl, rfl, ur _ _ h4, ?_, ?_⟩
      · rw [hl]; exact Nat.lt_of_le_of_lt (by omega : _ ≤ 100000) (by decide)
      have fam3 := (fam2.keep (KeepR.of ur) (fun a _ o e => ur _ _ e)).app (r := (r.2, r.1)) dr h1 xs' (ur _ _ h4)
      have nlf : fm ≠ l' := fun z => by rw [← z, efz] at h4; cases h4
      refine ⟨_, _, kvs, la, rfl, ?_, ?_, ?_, nla⟩
      · intro p o np e
        have np' : p ≠ l' := fun z => by rw [z, nla _ h2] at e; cases e
        rw [upd_ne np']
        exact ur _ _ (fxz p o np e)
      · rw [upd_ne nlf]; exact ur _ _ efz
      · rw [take_snoc er, famS_snoc]
        exact fam3
    · have hfz : Fx [fm] Hz (upd Hz fm (.dK (putK kvs (Sum.inl (famZ (lpShift (runL code)) r.1)) (.ref l)))) := Fx.upd (by simp)
      have nlf : l ≠ fm := fun z => by rw [z, efz] at el; cases el
      have el2 : (upd Hz fm (.dK (putK kvs (Sum.inl (famZ (lpShift (runL code)) r.1)) (.ref l)))) l = some (.lst []) := by rw [upd_ne nlf]; exact el
      have ef2 : (upd Hz fm (.dK (putK kvs (Sum.inl (famZ (lpShift (runL code)) r.1)) (.ref l)))) fm = some (.dK (kvs ++ [(Sum.inl (famZ (lpShift (runL code)) r.1), .ref l)])) := by rw [upd_same, putK_new _ hv]
      have kr2 : KeepR Hz (upd Hz fm (.dK (putK kvs (Sum.inl (famZ (lpShift (runL code)) r.1)) (.ref l)))) := KeepR.upd efz (fun _ z => nomatch z) (fun _ _ z => nomatch z)
      generalize upd Hz fm (.dK (putK kvs (Sum.inl (famZ (lpShift (runL code)) r.1)) (.ref l))) = Hv at hfz el2 ef2 kr2 ⊢
      refine ⟨.inl ⟨rfl, _, SqL.of el2⟩, _, rfl, _, rfl, (by show 2 ≤ sizeLine; decide), fun rp nrp => ?_⟩
      have dr := new_tup (K := K) (xs := [.int r.2, .int r.1]) nrp (.cons (.int r.2) (.cons (.int r.1) .nil))
      have ur := same_new nrp (.tup [.int r.2, .int r.1])
      generalize upd Hv rp (.tup [.int r.2, .int r.1]) = Hw at dr ur ⊢
      refine ⟨l, [], _, rfl, rfl, ur _ _ el2, (by show 0 < sizeLine; decide), ?_⟩
      have kr3 : KeepR Hw (upd Hw l (.lst ([] ++ [.ref rp]))) := KeepR.t (KeepT.upd ⟨_, ur _ _ el2⟩)
      have fam3 : FamR K (upd Hw l (.lst ([] ++ [.ref rp]))) kvs (famS (lpShift (runL code)) ((firstS (lpCycle (runL code))).take i)) la := fam2.keep ((kr2.trans (KeepR.of ur)).trans kr3) (fun a ma o e => by
        rw [upd_ne (fun z => nlla (by rw [← z]; exact ma))]
        exact ur _ _ (hfz a o (by
          simp
          intro z
          obtain ⟨xs', e'⟩ := fam2.there a ma
          rw [z, efz] at e'
          cases e') e))
      refine ⟨_, _, kvs ++ [(Sum.inl (famZ (lpShift (runL code)) r.1), .ref l)], la ++ [l], rfl, ?_, ?_, ?_, ?_⟩
      · intro p o np e
        have np' : p ≠ l := fun z => by rw [z, nLl] at e; cases e
        rw [upd_ne np']
        exact ur _ _ (hfz p o np (fxz p o np e))
      · rw [upd_ne (fun z => nlf z.symm)]; exact ur _ _ ef2
      · rw [take_snoc er, famS_snoc]
        exact fam3.new (row_move kr3 dr) upd_same nlla hv
      · intro a ma
        rcases List.mem_append.mp ma with ma | ma
        · exact nla a ma
        · rw [List.mem_singleton.mp ma]; exact nLl
  · rintro σ Hx ⟨s6, s7, kvs, la, rfl, fx, efx, fam, nla⟩
    rw [sl, List.take_length] at fam
    have ecx := fx _ _ (by simp; exact fun z => nfc z.symm) eL
    refine ⟨ecx, ?_⟩
    have kr : KeepR Hx (upd Hx cs (.dK (fsD (firstS (lpCycle (runL code)))))) := KeepR.upd ecx (fun _ z => nomatch z) (fun _ _ z => nomatch z)
    have famU : FamR K (upd Hx cs (.dK (fsD (firstS (lpCycle (runL code)))))) kvs (famS (lpShift (runL code)) (firstS (lpCycle (runL code)))) la := fam.keep kr (fun a ma o e => by
      rw [upd_ne (fun z => by
        obtain ⟨xs', e'⟩ := fam.there a ma
        rw [z, ecx] at e'
        cases e')]
      exact e)
    -- what stood ahead of the loop stands behind it
    have back : ∀ {p : Addr} {o : HO}, A9 p = some o → p ≠ fm → (upd Hx cs (.dK (fsD (firstS (lpCycle (runL code)))))) p = some o := fun {p o} e n1 => by
      by_cases c : p = cs
      · subst c
        rw [upd_same, ← e, ecs9]
      · rw [upd_ne c]
        exact fx p o (by simp; exact n1) (kL p o (by simp; exact c) e)
    have efU : (upd Hx cs (.dK (fsD (firstS (lpCycle (runL code)))))) fm = some (.dK kvs) := by rw [upd_ne nfc]; exact efx
    have bk : ∀ {p : Addr} {o : HO}, A9 p = some o → (∀ kv, o ≠ .dK kv) → (upd Hx cs (.dK (fsD (firstS (lpCycle (runL code)))))) p = some o := fun {p o} e n => back e (fun z => by rw [z, efm9] at e; injection e with e; exact n _ e.symm)
    have kU : KeepT A9 (upd Hx cs (.dK (fsD (firstS (lpCycle (runL code)))))) := ⟨fun x l e => bk e (fun _ z => nomatch z), fun x o u e => bk e (fun _ z => nomatch z)⟩
    have nAf : H fm = none := by
      cases zz : H fm with
      | none => rfl
      | some o =>
        by_cases c : fm = ls
        · rw [c, oA8] at nfm; cases nfm
        · have := fA8 fm o (by simp; exact c) zz
          rw [nfm] at this; cases this
    have newL : ∀ {p : Addr} {o : HO}, A9 p = some o → p ≠ cs → p ∉ la := fun {p o} e n m => by
      have h1 := nla p m
      have h2 := kL p o (by simp; exact n) e
      rw [h1] at h2; cases h2
    have hcs : ∀ {p : Addr} {l : List V}, A9 p = some (.lst l) → p ≠ cs := fun {p l} e z => by rw [z, ecs9] at e; cases e
    have nOf : ∀ {Y : Hp} {fs : List (Str × V)} {p : Addr}, Fx [ls] H Y → Y ls = some (.ins C dx fs) → Y p = none → H p = none := fun {Y fs p} f o n => by
      cases zz : H p with
      | none => rfl
      | some u =>
        by_cases c : p = ls
        · rw [c, o] at n; cases n
        · have := f p u (by simp; exact c) zz
          rw [n] at this; cases this
    have nwHs := nOf fA6 oA6 nhs
    have nwCs := nOf fA7 oA7 ncs
    have nwLa : ∀ a ∈ la, H a = none := fun a ma => by
      have h1 := nla a ma
      have h2 : A9 a = none := by
        cases zz : A9 a with
        | none => rfl
        | some u =>
          by_cases c : a = cs
          · subst c; rw [eL] at h1; cases h1
          · have := kL a u (by simp; exact c) zz
            rw [h1] at this; cases this
      exact nOf fA9 oA9 h2
    refine q _ (fun p o np e => ?_) ⟨dx, hd, cy, kh, kc, hs, cs, fm, xs, ys, kvs, la, bk oA9 (fun _ z => nomatch z), bk eh9 (fun _ z => nomatch z), bk ec9 (fun _ z => nomatch z), dh9.keep kU, dc9.keep kU, bk ekh9 (fun _ z => nomatch z), bk ekc9 (fun _ z => nomatch z), back ehs9 ?_, upd_same, efU, famU, ?_, ?_, ?_, newL eh9 (hcs eh9), newL ec9 (hcs ec9), hlen, nwHs, nwCs, nAf, nwLa⟩
    · exact back (fA9 p o np e) (fun z => by rw [z, nAf] at e; cases e)
    · exact fun z => by
        have h := (Fx.of u8).trans gA8
        have h2 := keep h oA7 ehs7 (fun _ _ _ z => nomatch z)
        rw [z, nfm] at h2
        cases h2
    · exact (s1.trans s2).free nh3
    · exact (s1.trans s2).free nc3
    · exact nhc
end
/-! ### how the objects of a house lie in memory: over the part F that never changes -/
structure HCl where
  bg : Addr
  te : Addr
  co : Addr
  st : Addr
  ls : Addr
  ru : Addr
  ho : Addr
def optD : Option Int → PyData
  | none => .none
  | some i => .int i
def begD (l : List (Int × Option Int)) : PyData := .tuple (l.map fun e => .tuple [.int e.1, optD e.2])
def donD (l : List (Int × Int)) : PyData := .tuple (l.map rowD)
def bdF (b : Bdg) (pv : V) : List (Str × V) := [("number", .int b.num), ("program", pv), ("side", .str (sdS b.sd)), ("level", .int b.lvl)]
def BdgR (K : PySem.W.Frag) (F : Hp) (c : HCl) (a : Addr) (b : Bdg) (p : PyData) : Prop := ∃ dx pv, F a = some (.ins c.bg dx (bdF b pv)) ∧ Dp K F pv p
def teF (ab ac : Addr) (vb vd : V) (pos : Int) (r : Addr) (sv : Bool) : List (Str × V) := [("badge", .ref ab), ("code", .ref ac), ("begun", vb), ("done", vd), ("position", .int pos), ("trial", .ref r), ("served", .bl sv)]
def coF (ab al : Addr) (vb vd : V) (mt : Option Int) : List (Str × V) := [("badge", .ref ab), ("listing", .ref al), ("begun", vb), ("done", vd), ("met", optV mt)]
def TelR (K : PySem.W.Frag) (F : Hp) (c : HCl) (a : Addr) (t : TelM) : Prop := ∃ (dx ab ac : Addr) (vb vd : V) (r : Addr) (xs : List V), F a = some (.ins c.te dx (teF ab ac vb vd t.pos r t.srv)) ∧ BdgR K F c ab t.b (.tuple [.str "teller", t.d]) ∧ F ac = some (.lst xs) ∧ DpAll K F xs (t.code.map Ins.toD) ∧
  Dp K F vb (begD t.beg) ∧ Dp K F vd (donD t.don) ∧ RunA F c.ru r t.tr
def ColR (K : PySem.W.Frag) (F : Hp) (c : HCl) (a : Addr) (m : ColM) : Prop := ∃ (dx ab al : Addr) (vb vd : V), F a = some (.ins c.co dx (coF ab al vb vd m.met)) ∧ BdgR K F c ab m.b (.tuple [.str "collector", m.d]) ∧ LsO K noH F c.ls al m.L ∧ Dp K F vb (begD m.beg) ∧ Dp K F vd (donD m.don)
def MacR (K : PySem.W.Frag) (F : Hp) (c : HCl) (a : Addr) : MacM → Prop
  | .tel t => TelR K F c a t
  | .col m => ColR K F c a m
inductive MacsR (K : PySem.W.Frag) (F : Hp) (c : HCl) : List V → List MacM → Prop
  | nil : MacsR K F c [] []
  | cons {a : Addr} {m : MacM} {vs : List V} {ms : List MacM} : MacR K F c a m → MacsR K F c vs ms → MacsR K F c (.ref a :: vs) (m :: ms)
def setsD (tl tr : Addr) : List (Key × V) := [(Sum.inr "left", .ref tl), (Sum.inr "right", .ref tr)]
def StnR (K : PySem.W.Frag) (F : Hp) (c : HCl) (a : Addr) (S : StM) : Prop := ∃ (dx ad tl tr tm : Addr) (vs : List V), F a = some (.ins c.st dx [("now", .int S.now), ("sets", .ref ad), ("machines", .ref tm), ("ahead", .int S.ahead), ("mark", .int S.mark)]) ∧ F ad = some (.dK (setsD tl tr)) ∧
  F tl = some (.tup (S.l.map V.int)) ∧ F tr = some (.tup (S.r.map V.int)) ∧ F tm = some (.tup vs) ∧ MacsR K F c vs S.ms
theorem RunA.same {H H' : Hp} {C r : Addr} {R : Res} (s : Same H H') (h : RunA H C r R) : RunA H' C r R := by
  obtain ⟨dx, as, h1, h2⟩ := h
  exact ⟨dx, as, s _ _ h1, s _ _ h2⟩
section
variable {K : PySem.W.Frag} {F F' : Hp} {c : HCl} {a : Addr}
theorem BdgR.same (s : Same F F') {b : Bdg} {p : PyData} (h : BdgR K F c a b p) : BdgR K F' c a b p := by
  obtain ⟨dx, pv, h1, h2⟩ := h
  exact ⟨dx, pv, s _ _ h1, dp_mono s _ _ h2⟩
theorem TelR.same (s : Same F F') {t : TelM} (h : TelR K F c a t) : TelR K F' c a t := by
  obtain ⟨dx, ab, ac, vb, vd, r, xs, h1, h2, h3, h4, h5, h6, h7⟩ := h
  exact ⟨dx, ab, ac, vb, vd, r, xs, s _ _ h1, h2.same s, s _ _ h3, dpAll_mono s _ _ h4, dp_mono s _ _ h5, dp_mono s _ _ h6, RunA.same s h7⟩
theorem ColR.same (s : Same F F') {t : ColM} (h : ColR K F c a t) : ColR K F' c a t := by
  obtain ⟨dx, ab, al, vb, vd, h1, h2, h3, h4, h5⟩ := h
  exact ⟨dx, ab, al, vb, vd, s _ _ h1, h2.same s, h3.same s, dp_mono s _ _ h4, dp_mono s _ _ h5⟩
theorem MacR.same (s : Same F F') : ∀ {m : MacM}, MacR K F c a m → MacR K F' c a m
  | .tel _, h => TelR.same s h
  | .col _, h => ColR.same s h
theorem MacsR.same (s : Same F F') : ∀ {vs : List V} {ms : List MacM}, MacsR K F c vs ms → MacsR K F' c vs ms
  | _, _, .nil => .nil
  | _, _, .cons h t => .cons (h.same s) (t.same s)
theorem StnR.same (s : Same F F') {S : StM} (h : StnR K F c a S) : StnR K F' c a S := by
  obtain ⟨dx, ad, tl, tr, tm, vs, h1, h2, h3, h4, h5, h6⟩ := h
  exact ⟨dx, ad, tl, tr, tm, vs, s _ _ h1, s _ _ h2, s _ _ h3, s _ _ h4, s _ _ h5, h6.same s⟩
theorem MacsR.len : ∀ {vs : List V} {ms : List MacM}, MacsR K F c vs ms → vs.length = ms.length
  | _, _, .nil => rfl
  | _, _, .cons _ t => by rw [List.length_cons, List.length_cons, t.len]
theorem MacsR.app : ∀ {vs us : List V} {ms ns : List MacM}, MacsR K F c vs ms → MacsR K F c us ns → MacsR K F c (vs ++ us) (ms ++ ns)
  | _, _, _, _, .nil, h => h
  | _, _, _, _, .cons e h, g => .cons e (h.app g)
theorem MacsR.get : ∀ {vs : List V} {ms : List MacM} {i : Nat} {v : V}, MacsR K F c vs ms → vs[i]? = some v → ∃ a m, v = .ref a ∧ ms[i]? = some m ∧ MacR K F c a m
  | _, _, 0, _, .cons h _, e => by
    cases e
    exact ⟨_, _, rfl, rfl, h⟩
  | _, _, i + 1, _, .cons _ t, e => by
    rw [List.getElem?_cons_succ] at e
    obtain ⟨a, m, h1, h2, h3⟩ := t.get e
    exact ⟨a, m, h1, by rw [List.getElem?_cons_succ]; exact h2, h3⟩
theorem MacsR.one {m : MacM} (h : MacR K F c a m) : MacsR K F c [.ref a] [m] := .cons h .nil
end
/-! ### no attribute of a class hides a field -/
structure BdN (K : PySem.W.Frag) (C : Addr) : Prop where
  cl : Cls K C
  nu : NoAttr K C "number"
  pr : NoAttr K C "program"
  sd : NoAttr K C "side"
  lv : NoAttr K C "level"
structure TeN (K : PySem.W.Frag) (C : Addr) : Prop where
  cl : Cls K C
  bg : NoAttr K C "badge"
  cd : NoAttr K C "code"
  be : NoAttr K C "begun"
  dn : NoAttr K C "done"
  po : NoAttr K C "position"
  tr : NoAttr K C "trial"
  sv : NoAttr K C "served"
structure CoN (K : PySem.W.Frag) (C : Addr) : Prop where
  cl : Cls K C
  bg : NoAttr K C "badge"
  ls : NoAttr K C "listing"
  be : NoAttr K C "begun"
  dn : NoAttr K C "done"
  mt : NoAttr K C "met"
structure SnN (K : PySem.W.Frag) (C : Addr) : Prop where
  cl : Cls K C
  nw : NoAttr K C "now"
  se : NoAttr K C "sets"
  ms : NoAttr K C "machines"
  ah : NoAttr K C "ahead"
  mr : NoAttr K C "mark"
/-! ### an __init__ that keeps its arguments -/
def spIni (C : Addr) (ns : List Str) : Sp := fun vs H Q _ => ∃ (x dx : Addr) (as : List V), vs = .ref x :: as ∧ as.length = ns.length ∧ H x = some (.ins C dx []) ∧ ∀ H', (∀ a, a ≠ x → H' a = H a) → H' x = some (.ins C dx (ns.zip as)) → Q .non H'
abbrev nBd : List Str := ["number", "program", "side", "level"]
abbrev nTe : List Str := ["badge", "code", "begun", "done", "position", "trial", "served"]
abbrev nCo : List Str := ["badge", "listing", "begun", "done", "met"]
abbrev nSn : List Str := ["now", "sets", "machines", "ahead", "mark"]
abbrev sBdI : Stmt := inClass (top 61) 0
abbrev sTeI : Stmt := inClass (top 63) 0
abbrev sCoI : Stmt := inClass (top 64) 0
abbrev sSnI : Stmt := inClass (top 72) 0
theorem list4 {xs : List V} (h : xs.length = 4) : ∃ a b c d, xs = [a, b, c, d] := by
  match xs, h with | [a, b, c, d], _ => exact ⟨a, b, c, d, rfl⟩
theorem list5 {xs : List V} (h : xs.length = 5) : ∃ a b c d e, xs = [a, b, c, d, e] := by
  match xs, h with | [a, b, c, d, e], _ => exact ⟨a, b, c, d, e, rfl⟩
theorem list7 {xs : List V} (h : xs.length = 7) : ∃ a b c d e f g, xs = [a, b, c, d, e, f, g] := by
  match xs, h with | [a, b, c, d, e, f, g], _ => exact ⟨a, b, c, d, e, f, g, rfl⟩
section
variable {P : Program} {w : World} {K : PySem.W.Frag} {mg : Str → Option Value} {base : Heap}
theorem scBdI : FnScope ("self" :: nBd) ("self" :: nBd) (defScope sBdI) := ⟨rfl, rfl, rfl, by decide +kernel, rfl, by decide +kernel, by decide +kernel⟩
theorem ok_BdI {f C : Addr} {fd : FuncData} (F : Fun K "__init__" "Badge.__init__" sBdI f fd) (N : BdN K C) : FnOk P w K mg base CX0 1 f fd ("self" :: nBd) (spIni C nBd) := by
  refine F.ok scBdI (fun vs H Q E h => ?_) (fun cdv A outer s H vs Q E hr h => ?_)
  · obtain ⟨x, dx, as, rfl, hl, _⟩ := h
    rw [List.length_cons, hl]; rfl
  obtain ⟨x, dx, as, rfl, hl, hx, q⟩ := h
  obtain ⟨v1, v2, v3, v4, rfl⟩ := list4 hl
  refine ⟨_, (pss_cons (ps_fld (pv 0) (pv 1) rfl) (pss_cons (ps_fld (pv 0) (pv 2) rfl) (pss_cons (ps_fld (pv 0) (pv 3) rfl) (pss_one (ps_fld (pv 0) (pv 4) rfl))))), ?_⟩
  refine ⟨_, rfl, _, rfl, x, C, dx, _, rfl, hx, N.cl, N.nu, (by show 0 < 1000; decide), ?_⟩
  refine ⟨_, rfl, _, rfl, x, C, dx, _, rfl, upd_same, N.cl, N.pr, (by show 1 < 1000; decide), ?_⟩
  refine ⟨_, rfl, _, rfl, x, C, dx, _, rfl, upd_same, N.cl, N.sd, (by show 2 < 1000; decide), ?_⟩
  refine ⟨_, rfl, _, rfl, x, C, dx, _, rfl, upd_same, N.cl, N.lv, (by show 3 < 1000; decide), ?_⟩
  exact q _ (fun a n => by rw [upd_ne n, upd_ne n, upd_ne n, upd_ne n]) upd_same
theorem scTeI : FnScope ("self" :: nTe) ("self" :: nTe) (defScope sTeI) := ⟨rfl, rfl, rfl, by decide +kernel, rfl, by decide +kernel, by decide +kernel⟩
theorem ok_TeI {f C : Addr} {fd : FuncData} (F : Fun K "__init__" "Teller.__init__" sTeI f fd) (N : TeN K C) : FnOk P w K mg base CX0 1 f fd ("self" :: nTe) (spIni C nTe) := by
  refine F.ok scTeI (fun vs H Q E h => ?_) (fun cdv A outer s H vs Q E hr h => ?_)
  · obtain ⟨x, dx, as, rfl, hl, _⟩ := h
    rw [List.length_cons, hl]; rfl
  obtain ⟨x, dx, as, rfl, hl, hx, q⟩ := h
  obtain ⟨v1, v2, v3, v4, v5, v6, v7, rfl⟩ := list7 hl
  refine ⟨_, (pss_cons (ps_fld (pv 0) (pv 1) rfl) (pss_cons (ps_fld (pv 0) (pv 2) rfl) (pss_cons (ps_fld (pv 0) (pv 3) rfl) (pss_cons (ps_fld (pv 0) (pv 4) rfl) (pss_cons (ps_fld (pv 0) (pv 5) rfl) (pss_cons (ps_fld (pv 0) (pv 6) rfl) (pss_one (ps_fld (pv 0) (pv 7) rfl)))))))), ?_⟩
  refine ⟨_, rfl, _, rfl, x, C, dx, _, rfl, hx, N.cl, N.bg, (by show 0 < 1000; decide), ?_⟩
  refine ⟨_, rfl, _, rfl, x, C, dx, _, rfl, upd_same, N.cl, N.cd, (by show 1 < 1000; decide), ?_⟩
  refine ⟨_, rfl, _, rfl, x, C, dx, _, rfl, upd_same, N.cl, N.be, (by show 2 < 1000; decide), ?_⟩
  refine ⟨_, rfl, _, rfl, x, C, dx, _, rfl, upd_same, N.cl, N.dn, (by show 3 < 1000; decide), ?_⟩
  refine ⟨_, rfl, _, rfl, x, C, dx, _, rfl, upd_same, N.cl, N.po, (by show 4 < 1000; decide), ?_⟩
  refine ⟨_, rfl, _, rfl, x, C, dx, _, rfl, upd_same, N.cl, N.tr, (by show 5 < 1000; decide), ?_⟩
  refine ⟨_, rfl, _, rfl, x, C, dx, _, rfl, upd_same, N.cl, N.sv, (by show 6 < 1000; decide), ?_⟩
  exact q _ (fun a n => by rw [upd_ne n, upd_ne n, upd_ne n, upd_ne n, upd_ne n, upd_ne n, upd_ne n]) upd_same
theorem scCoI : FnScope ("self" :: nCo) ("self" :: nCo) (defScope sCoI) := ⟨rfl, rfl, rfl, by decide +kernel, rfl, by decide +kernel, by decide +kernel⟩
theorem ok_CoI {f C : Addr} {fd : FuncData} (F : Fun K "__init__" "Collector.__init__" sCoI f fd) (N : CoN K C) : FnOk P w K mg base CX0 1 f fd ("self" :: nCo) (spIni C nCo) := by
  refine F.ok scCoI (fun vs H Q E h => ?_) (fun cdv A outer s H vs Q E hr h => ?_)
  · obtain ⟨x, dx, as, rfl, hl, _⟩ := h
    rw [List.length_cons, hl]; rfl
  obtain ⟨x, dx, as, rfl, hl, hx, q⟩ := h
  obtain ⟨v1, v2, v3, v4, v5, rfl⟩ := list5 hl
  refine ⟨_, (pss_cons (ps_fld (pv 0) (pv 1) rfl) (pss_cons (ps_fld (pv 0) (pv 2) rfl) (pss_cons (ps_fld (pv 0) (pv 3) rfl) (pss_cons (ps_fld (pv 0) (pv 4) rfl) (pss_one (ps_fld (pv 0) (pv 5) rfl)))))), ?_⟩
  refine ⟨_, rfl, _, rfl, x, C, dx, _, rfl, hx, N.cl, N.bg, (by show 0 < 1000; decide), ?_⟩
  refine ⟨_, rfl, _, rfl, x, C, dx, _, rfl, upd_same, N.cl, N.ls, (by show 1 < 1000; decide), ?_⟩
  refine ⟨_, rfl, _, rfl, x, C, dx, _, rfl, upd_same, N.cl, N.be, (by show 2 < 1000; decide), ?_⟩
  refine ⟨_, rfl, _, rfl, x, C, dx, _, rfl, upd_same, N.cl, N.dn, (by show 3 < 1000; decide), ?_⟩
  refine ⟨_, rfl, _, rfl, x, C, dx, _, rfl, upd_same, N.cl, N.mt, (by show 4 < 1000; decide), ?_⟩
  exact q _ (fun a n => by rw [upd_ne n, upd_ne n, upd_ne n, upd_ne n, upd_ne n]) upd_same
theorem scSnI : FnScope ("self" :: nSn) ("self" :: nSn) (defScope sSnI) := ⟨rfl, rfl, rfl, by decide +kernel, rfl, by decide +kernel, by decide +kernel⟩
theorem ok_SnI {f C : Addr} {fd : FuncData} (F : Fun K "__init__" "Standing.__init__" sSnI f fd) (N : SnN K C) : FnOk P w K mg base CX0 1 f fd ("self" :: nSn) (spIni C nSn) := by
  refine F.ok scSnI (fun vs H Q E h => ?_) (fun cdv A outer s H vs Q E hr h => ?_)
  · obtain ⟨x, dx, as, rfl, hl, _⟩ := h
    rw [List.length_cons, hl]; rfl
  obtain ⟨x, dx, as, rfl, hl, hx, q⟩ := h
  obtain ⟨v1, v2, v3, v4, v5, rfl⟩ := list5 hl
  refine ⟨_, (pss_cons (ps_fld (pv 0) (pv 1) rfl) (pss_cons (ps_fld (pv 0) (pv 2) rfl) (pss_cons (ps_fld (pv 0) (pv 3) rfl) (pss_cons (ps_fld (pv 0) (pv 4) rfl) (pss_one (ps_fld (pv 0) (pv 5) rfl)))))), ?_⟩
  refine ⟨_, rfl, _, rfl, x, C, dx, _, rfl, hx, N.cl, N.nw, (by show 0 < 1000; decide), ?_⟩
  refine ⟨_, rfl, _, rfl, x, C, dx, _, rfl, upd_same, N.cl, N.se, (by show 1 < 1000; decide), ?_⟩
  refine ⟨_, rfl, _, rfl, x, C, dx, _, rfl, upd_same, N.cl, N.ms, (by show 2 < 1000; decide), ?_⟩
  refine ⟨_, rfl, _, rfl, x, C, dx, _, rfl, upd_same, N.cl, N.ah, (by show 3 < 1000; decide), ?_⟩
  refine ⟨_, rfl, _, rfl, x, C, dx, _, rfl, upd_same, N.cl, N.mr, (by show 4 < 1000; decide), ?_⟩
  exact q _ (fun a n => by rw [upd_ne n, upd_ne n, upd_ne n, upd_ne n, upd_ne n]) upd_same
/-- a class with such an __init__, its name and its call -/
structure Kl (P : Program) (w : World) (K : PySem.W.Frag) (mg : Str → Option Value) (base : Heap) (C : Addr) (x : Str) (ns : List Str) where
  fI : Addr
  dI : FuncData
  g : mg x = some (.ref C)
  M : Mk K C fI
  G : FnOk P w K mg base CX0 1 fI dI ("self" :: ns) (spIni C ns)
  b : Binds K dI ("self" :: ns) []
theorem mk_adv {C : Addr} {F H H' : Hp} {x dx : Addr} {fs : List (Str × V)} (z : Fz F H) (nx : H x = none) (nd : H dx = none) (keep : ∀ a, a ≠ x → H' a = (upd (upd H dx (.own x)) x (.ins C dx [])) a) (hx : H' x = some (.ins C dx fs)) : Adv [] F H (upd F x (.ins C dx fs)) H' := by
  have m := z.made (C := C) nx nd
  have fx : F x = none := z.out nx
  have a : Adv [x] F (upd (upd H dx (.own x)) x (.ins C dx [])) F H' := by
    have e : H' = upd (upd (upd H dx (.own x)) x (.ins C dx [])) x (.ins C dx fs) := by
      funext q
      by_cases c : q = x
      · rw [c, upd_same]; exact hx
      · rw [upd_ne c]; exact keep q c
    rw [e]
    exact Adv.write m.fz (by simp) fx trivial
  exact Adv.finish z nx nd a hx
/-- such an object is made: it is taken into F -/
theorem mk_new {C : Addr} {ns : List Str} {F H : Hp} (z : Fz F H) {as : List V} (hl : as.length = ns.length) {Q : VK} {E : XK} (k : ∀ x dx H', Adv [] F H (upd F x (.ins C dx (ns.zip as))) H' → H x = none → Q (.ref x) H') :
    ∀ x dx, H x = none → H dx = none → dx ≠ x → spIni C ns (.ref x :: (as ++ [])) (upd (upd H dx (.own x)) x (.ins C dx [])) (fun v H2 => v = .non ∧ Q (.ref x) H2) E := by
  intro x dx nx nd _
  rw [List.append_nil]
  exact ⟨x, dx, as, rfl, hl, upd_same, fun H' keep hx => ⟨rfl, k x dx H' (mk_adv z nx nd keep hx) nx⟩⟩
end
/-! ### data without lists, over a heap whose lists change -/
def tupO : HO → Prop
  | .tup _ => True
  | .frz _ _ => True
  | _ => False
theorem sqT_kT {K : PySem.W.Frag} {H H' : Hp} (k : ∀ a o, tupO o → H a = some o → H' a = some o) {a : Addr} {xs : List V} (h : SqT K H a xs) : SqT K H' a xs := by
  rcases h with (h | ⟨o, h⟩) | h
  · exact .inl (.inl (k _ _ trivial h))
  · exact .inl (.inr ⟨o, k _ _ trivial h⟩)
  · exact .inr h
mutual
theorem dp_kT {K : PySem.W.Frag} {H H' : Hp} (k : ∀ a o, tupO o → H a = some o → H' a = some o) : ∀ (d : PyData) (v : V), noL d = true → Dp K H v d → Dp K H' v d
  | .none, _, _, h => by cases h; exact .non
  | .bool b, _, _, h => by cases h; exact .bl b
  | .int i, _, _, h => by cases h; exact .int i
  | .str x, _, _, h => by cases h; exact .str x
  | .list ds, _, n, h => by simp [noL] at n
  | .tuple ds, _, n, h => by
    cases h with
    | tup hs ha => exact .tup (sqT_kT k hs) (dpAll_kT k ds _ (by simpa [noL] using n) ha)
  | .dict _, _, _, h => by cases h
theorem dpAll_kT {K : PySem.W.Frag} {H H' : Hp} (k : ∀ a o, tupO o → H a = some o → H' a = some o) : ∀ (ds : List PyData) (vs : List V), noLAll ds = true → DpAll K H vs ds → DpAll K H' vs ds
  | [], _, _, h => by cases h; exact .nil
  | d :: ds, _, n, h => by
    simp only [noLAll, Bool.and_eq_true] at n
    cases h with
    | cons hd ht => exact .cons (dp_kT k d _ n.1 hd) (dpAll_kT k ds _ n.2 ht)
end

theorem Fz.dp {K : PySem.W.Frag} {F H : Hp} (z : Fz F H) {v : V} {d : PyData} (n : noL d = true) (h : Dp K H v d) : Dp K F v d := dp_kT (fun a o ho e => by
  cases o with
  | tup xs => exact z.kt.1 _ _ e
  | frz o u => exact z.kt.2 _ _ _ e
  | _ => exact ho.elim) d v n h
theorem Fz.dpAll {K : PySem.W.Frag} {F H : Hp} (z : Fz F H) {vs : List V} {ds : List PyData} (n : noLAll ds = true) (h : DpAll K H vs ds) : DpAll K F vs ds := dpAll_kT (fun a o ho e => by
  cases o with
  | tup xs => exact z.kt.1 _ _ e
  | frz o u => exact z.kt.2 _ _ _ e
  | _ => exact ho.elim) ds vs n h
theorem ins_noL {k : Str} {i : Ins} (h : i.ok k) : noL i.toD = true := by
  cases i with
  | set v n => simp [Ins.toD, noL, noLAll]
  | add v t => simp [Ins.toD, noL, noLAll, term_noL h.2]
  | wait n => simp [Ins.toD, noL, noLAll]
  | ask g t v => simp [Ins.toD, noL, noLAll, term_noL h.2.2.1]
  | ans n => simp [Ins.toD, noL, noLAll]
  | grow t => simp [Ins.toD, noL, noLAll, term_noL h.2]
  | lst t => simp [Ins.toD, noL, noLAll, term_noL h.2]
  | test c t => simp [Ins.toD, insT, noL, noLAll, cond_noL (show isCond c = true from h)]
  | jump t => simp [Ins.toD, insJ, noL, noLAll]
theorem code_noL {k : Str} : ∀ {code : List Ins}, (∀ i ∈ code, i.ok k) → noLAll (code.map Ins.toD) = true
  | [], _ => rfl
  | i :: r, h => by
    rw [List.map_cons]
    simp only [noLAll, Bool.and_eq_true]
    exact ⟨ins_noL (h i (List.mem_cons_self ..)), code_noL fun j m => h j (List.mem_cons_of_mem _ m)⟩
theorem RunN.ext {F H H' : Hp} {C r : Addr} {R : Res} (nr : H r = none) (h : RunN H H' C r R) : RunA (extF F H H') C r R := by
  obtain ⟨dx, as, n, h1, h2⟩ := h
  exact ⟨dx, as, by rw [extF_new nr]; exact h1, by rw [extF_new n]; exact h2⟩
/-- a listing that was made, over the part that never changes -/
theorem LsN.take {K : PySem.W.Frag} {F H H' : Hp} {C x dx : Addr} {L : LP} (z : Fz F H) (nx : H x = none) (nd : H dx = none) (f : Fx [x] (upd (upd H dx (.own x)) x (.ins C dx [])) H') (h : LsN K (upd (upd H dx (.own x)) x (.ins C dx [])) H' C x L) :
    ∃ F', Adv [] F H F' H' ∧ LsO K noH F' C x L ∧ H x = none := by
  obtain ⟨dx', hd, cy, kh, kc, hs, cs, fm, xs, ys, kvs, la, h1, h2, h3, h4, h5, h6, h7, h8, h9, h10, h11, n1, n2, n3, n4, n5, hl, n6, n7, n8, n9⟩ := h.ex
  have m := z.made (C := C) nx nd
  have fx : F x = none := z.out nx
  generalize hH1 : upd (upd H dx (.own x)) x (.ins C dx []) = H1 at f m n1 n2 n6 n7 n8 n9
  have e1 : H1 x = some (.ins C dx []) := by rw [← hH1]; exact upd_same
  have keep : Fz (extF F H1 H') H' := by
    refine ⟨fun p o e => ?_, fun p us e => ?_, fun p o u e => ?_⟩
    · cases q : H1 p with
      | none => rw [extF_new q] at e; exact e
      | some u =>
        rw [extF_old (some_ne q)] at e
        exact f p o (by simp; exact fun c => by rw [c, fx] at e; cases e) (m.fz.sm _ _ e)
    · cases q : H1 p with
      | none => rw [extF_new q]; exact e
      | some u =>
        rw [extF_old (some_ne q)]
        have c : p ≠ x := fun c => by rw [c, h1] at e; cases e
        rw [f p u (by simp; exact c) q] at e
        exact m.fz.kt.1 _ _ (by rw [q]; exact e)
    · cases q : H1 p with
      | none => rw [extF_new q]; exact e
      | some w =>
        rw [extF_old (some_ne q)]
        have c : p ≠ x := fun c => by rw [c, h1] at e; cases e
        rw [f p w (by simp; exact c) q] at e
        exact m.fz.kt.2 _ _ _ (by rw [q]; exact e)
  have a : Adv [x] F H1 (extF F H1 H') H' := ⟨keep, fun p e => extF_old e, fun p o n e => f p o n e, fun p e => by
    obtain ⟨o, q⟩ := ne_some e
    by_cases c : p = x
    · rw [c, h1]; exact fun w => nomatch w
    · exact some_ne (f p o (by simp; exact c) q)⟩
  have fin := Adv.finish (C := C) (dx := dx) z nx nd (F' := extF F H1 H') (H' := H') (fs := lsF hd cy (lpPer L) (lpShift L) kh kc hs cs fm) (by rw [hH1]; exact a)
  have edx : dx' = dx ∨ True := .inr trivial
  -- the object's own dict may have another name: it is written as it stands
  have adv : Adv [] F H (upd (extF F H1 H') x (.ins C dx' (lsF hd cy (lpPer L) (lpShift L) kh kc hs cs fm))) H' := by
    have sub : Fz (upd (extF F H1 H') x (.ins C dx' (lsF hd cy (lpPer L) (lpShift L) kh kc hs cs fm))) H' := by
      refine ⟨fun p o e => ?_, fun p us e => ?_, fun p o u e => ?_⟩
      · by_cases c : p = x
        · subst c; rw [upd_same] at e; cases e; exact h1
        · rw [upd_ne c] at e; exact keep.sm _ _ e
      · rw [upd_ne (fun c => by rw [c, h1] at e; cases e)]; exact keep.kt.1 _ _ e
      · rw [upd_ne (fun c => by rw [c, h1] at e; cases e)]; exact keep.kt.2 _ _ _ e
    refine ⟨sub, fun p e => ?_, fun p o _ e => ?_, fun p e => a.lv p (m.lv p e)⟩
    · rw [upd_ne (fun c => e (by rw [c]; exact nx))]
      exact a.kf p (m.lv p e)
    · exact a.kh p o (by simp; exact ne_of_none e nx) (m.kh p o (by simp) e)
  refine ⟨_, adv, ?_, nx⟩
  have put : ∀ p o, p ≠ x → H1 p = none → H' p = some o → (upd (extF F H1 H') x (.ins C dx' (lsF hd cy (lpPer L) (lpShift L) kh kc hs cs fm))) p = some o := fun p o c n e => by rw [upd_ne c, extF_new n]; exact e
  have nex : ∀ p, H1 p = none → p ≠ x := fun p n c => by rw [c, e1] at n; cases n
  have kt := adv.fz.kt
  have kr : KeepR H' (upd (extF F H1 H') x (.ins C dx' (lsF hd cy (lpPer L) (lpShift L) kh kc hs cs fm))) := fun p us r => by
    rcases r with r | ⟨o, r⟩
    · exact .inl (kt.1 _ _ r)
    · exact .inr ⟨o, kt.2 _ _ _ r⟩
  exact ⟨dx', hd, cy, kh, kc, hs, cs, fm, xs, ys, kvs, la, upd_same, put _ _ (nex _ n1) n1 h2, put _ _ (nex _ n2) n2 h3, h4.keep kt, h5.keep kt, kt.1 _ _ h6, kt.1 _ _ h7, put _ _ (nex _ n6) n6 h8, put _ _ (nex _ n7) n7 h9, put _ _ (nex _ n8) n8 h10,
    h11.keep kr (fun p mp o e => put _ _ (nex _ (n9 p mp)) (n9 p mp) e), rfl, rfl, n3, n4, n5, hl⟩
/-! ### what tellers and collectors tell -/
abbrev sTSat : Stmt := inClass (top 63) 1
abbrev sTGrd : Stmt := inClass (top 63) 2
abbrev sTGoal : Stmt := inClass (top 63) 3
abbrev sTRdy : Stmt := inClass (top 63) 4
abbrev sCSat : Stmt := inClass (top 64) 1
abbrev sCGrd : Stmt := inClass (top 64) 2
abbrev sCGoal : Stmt := inClass (top 64) 3
abbrev sCRdy : Stmt := inClass (top 64) 4
/-- the table of the other sides -/
structure OsT (K : PySem.W.Frag) (w : World) (mg : Str → Option Value) where
  a : Addr
  m : mg "OTHER_SIDE" = some (.ref a)
  t : KTab K w a [("left", .str "right"), ("right", .str "left")]
theorem sd_eq (a b : Bool) : decide (V.str (sdS a) = V.str (sdS b)) = decide (a = b) := by cases a <;> cases b <;> decide +kernel
theorem os_look (b : Bool) : lookT [("left", V.str "right"), ("right", V.str "left")] (sdS b) = some (.str (sdS (!b))) := by
  cases b
  · exact lookT_eq
  · rw [show sdS true = "right" from rfl, lookT_ne (by decide +kernel)]; exact lookT_eq
theorem beg_inv {K : PySem.W.Frag} {F : Hp} {v : V} {l : List (Int × Option Int)} (h : Dp K F v (begD l)) : ∃ a xs, v = .ref a ∧ SqT K F a xs ∧ DpAll K F xs (l.map fun e => .tuple [.int e.1, optD e.2]) := dp_tup_inv h
theorem beg_pair {K : PySem.W.Frag} {F : Hp} {v : V} {e : Int × Option Int} (h : Dp K F v (.tuple [.int e.1, optD e.2])) : ∃ p u, v = .ref p ∧ SqT K F p [.int e.1, u] := by
  obtain ⟨p, xs, rfl, hs, ha⟩ := dp_tup_inv h
  obtain ⟨x, y, rfl, hx, hy⟩ := dp_pair ha
  cases hx
  exact ⟨p, y, rfl, hs⟩
/-- the first of the starts -/
theorem beg_fst {K : PySem.W.Frag} {F : Hp} {v : V} {l : List (Int × Option Int)} (h : Dp K F v (begD l)) (n : l ≠ []) : ∃ a xs p u, v = .ref a ∧ SqT K F a xs ∧ atI xs 0 = some (.ref p) ∧ SqT K F p [.int (begFst l), u] := by
  obtain ⟨a, xs, rfl, hs, ha⟩ := beg_inv h
  cases l with
  | nil => exact absurd rfl n
  | cons e r =>
    rw [List.map_cons] at ha
    cases ha with
    | cons h1 h2 =>
      obtain ⟨p, u, rfl, hp⟩ := beg_pair h1
      exact ⟨a, _, p, u, rfl, hs, atI_nat (j := 0) rfl, hp⟩
/-- the last of the starts -/
theorem beg_lst {K : PySem.W.Frag} {F : Hp} {v : V} {l : List (Int × Option Int)} (h : Dp K F v (begD l)) (n : l ≠ []) : ∃ a xs p u, v = .ref a ∧ SqT K F a xs ∧ atI xs (-1) = some (.ref p) ∧ SqT K F p [.int (begLast l), u] := by
  obtain ⟨a, xs, rfl, hs, ha⟩ := beg_inv h
  have hl := dpAll_len ha
  rw [List.length_map] at hl
  have pos : 0 < l.length := List.length_pos_iff.mpr n
  have ex : xs[xs.length - 1]? = some (xs[xs.length - 1]'(by omega)) := List.getElem?_eq_getElem (by omega)
  obtain ⟨d, hd, hp⟩ := dpAll_get ha ex
  rw [List.getElem?_map, hl] at hd
  have el : l[l.length - 1]? = l.getLast? := (List.getLast?_eq_getElem? (l := l)).symm
  rw [el] at hd
  cases eg : l.getLast? with
  | none => rw [eg] at hd; cases hd
  | some e =>
    rw [eg] at hd
    have ed : PyData.tuple [.int e.1, optD e.2] = d := by injection hd
    subst ed
    obtain ⟨p, u, ep, hpp⟩ := beg_pair hp
    refine ⟨a, xs, p, u, rfl, hs, ?_, ?_⟩
    · have nx : xs ≠ [] := fun z => by rw [z] at hl; exact absurd hl (by rw [List.length_nil]; omega)
      have e3 : xs.getLast nx = .ref p := by rw [List.getLast_eq_getElem]; exact ep
      rw [← List.dropLast_concat_getLast nx, e3, atI_last]
    · unfold begLast
      rw [eg]
      exact hpp
def spTSat (K : PySem.W.Frag) (c : HCl) : Sp := fun vs H Q _ => ∃ (a : Addr) (now : Int) (F : Hp) (t : TelM), vs = [.ref a, .int now] ∧ Same F H ∧ TelR K F c a t ∧ Q (.bl t.srv) H
def spCSat (K : PySem.W.Frag) (c : HCl) : Sp := fun vs H Q _ => ∃ (a : Addr) (now : Int) (F : Hp) (t : ColM), vs = [.ref a, .int now] ∧ Same F H ∧ ColR K F c a t ∧ t.beg ≠ [] ∧ Q (.bl (satC t now)) H
def spTGrd (K : PySem.W.Frag) (c : HCl) : Sp := fun vs H Q _ => ∃ (a : Addr) (s : Bool) (F : Hp) (t : TelM), vs = [.ref a, .str (sdS s)] ∧ Fz F H ∧ TelR K F c a t ∧ ∀ F' H' p, Adv [] F H F' H' → F' p = some (.lst ((guardT t s).map V.int)) → Q (.ref p) H'
def spCGrd (K : PySem.W.Frag) (c : HCl) : Sp := fun vs H Q _ => ∃ (a : Addr) (v : V) (F : Hp), vs = [.ref a, v] ∧ Fz F H ∧ ∀ F' H' p, Adv [] F H F' H' → F' p = some (.lst []) → Q (.ref p) H'
def spTGoal (K : PySem.W.Frag) (c : HCl) : Sp := fun vs H Q _ => ∃ (a : Addr) (F : Hp) (t : TelM), vs = [.ref a] ∧ Same F H ∧ TelR K F c a t ∧ Q (.str (sdS (!t.b.sd))) H
def spCGoal (K : PySem.W.Frag) (c : HCl) : Sp := fun vs H Q _ => ∃ (a : Addr) (F : Hp) (t : ColM), vs = [.ref a] ∧ Same F H ∧ ColR K F c a t ∧ Q (.str (sdS t.b.sd)) H
def spTRdy (K : PySem.W.Frag) (c : HCl) : Sp := fun vs H Q _ => ∃ (a : Addr) (now : Int) (v : V) (F : Hp) (t : TelM), vs = [.ref a, .int now, v] ∧ Same F H ∧ TelR K F c a t ∧ t.beg ≠ [] ∧ ∀ H' v, Same H H' → rowV H H' v (readyT now t) → Q v H'
def spCRdy (K : PySem.W.Frag) (c : HCl) : Sp := fun vs H Q _ => ∃ (a m : Addr) (now : Int) (F : Hp) (t : ColM) (bar : List Int), vs = [.ref a, .int now, .ref m] ∧ Same F H ∧ ColR K F c a t ∧ t.beg ≠ [] ∧ SqL K H m (bar.map V.int) ∧ bar.length ≤ 100000 ∧ ∀ H' v, Same H H' → rowV H H' v (readyC now bar t) → Q v H'
section
variable {P : Program} {w : World} {K : PySem.W.Frag} {mg : Str → Option Value} {base : Heap} {c : HCl}
theorem scTSat : FnScope ["self", "now"] ["self", "now"] (defScope sTSat) := ⟨rfl, rfl, rfl, by decide +kernel, rfl, by decide +kernel, by decide +kernel⟩
theorem ok_TSat {f : Addr} {fd : FuncData} (F : Fun K "is_satisfied" "Teller.is_satisfied" sTSat f fd) (N : TeN K c.te) : FnOk P w K mg base CX0 1 f fd ["self", "now"] (spTSat K c) := by
  refine F.ok scTSat (fun vs H Q E h => ?_) (fun cdv A outer s H vs Q E hr h => ?_)
  · obtain ⟨a, now, F, t, rfl, _⟩ := h
    rfl
  obtain ⟨a, now, F, t, rfl, sm, ht, q⟩ := h
  obtain ⟨dx, ab, ac, vb, vd, r, xs, h1, _⟩ := ht
  refine ⟨_, (pss_one (ps_ret (pe_fld (pv 0) rfl))), ?_⟩
  exact ⟨_, rfl, a, _, dx, _, _, rfl, sm _ _ h1, N.cl, N.sv, rfl, q⟩
theorem scTGoal : FnScope ["self"] ["self"] (defScope sTGoal) := ⟨rfl, rfl, rfl, by decide +kernel, rfl, by decide +kernel, by decide +kernel⟩
theorem ok_TGoal {f : Addr} {fd : FuncData} (F : Fun K "goal" "Teller.goal" sTGoal f fd) (N : TeN K c.te) (NB : BdN K c.bg) (O : OsT K w mg) : FnOk P w K mg base CX0 1 f fd ["self"] (spTGoal K c) := by
  refine F.ok scTGoal (fun vs H Q E h => ?_) (fun cdv A outer s H vs Q E hr h => ?_)
  · obtain ⟨a, F, t, rfl, _⟩ := h
    rfl
  obtain ⟨a, F, t, rfl, sm, ht, q⟩ := h
  obtain ⟨dx, ab, ac, vb, vd, r, xs, h1, ⟨db, pv', hb, _⟩, _⟩ := ht
  refine ⟨_, (pss_one (ps_ret (pe_ix ix_kdict (pe_gref rfl O.m) (pe_fld (pe_fld (pv 0) rfl) rfl) (fun _ _ => rfl)))), ?_⟩
  exact ⟨_, rfl, a, _, dx, _, _, rfl, sm _ _ h1, N.cl, N.bg, rfl, ab, _, db, _, _, rfl, sm _ _ hb, NB.cl, NB.sd, rfl, O.a, _, _, rfl, rfl, ktab_ix O.t (os_look _), q⟩
theorem scTGrd : FnScope ["self", "side"] ["self", "side"] (defScope sTGrd) := ⟨rfl, rfl, rfl, by decide +kernel, rfl, by decide +kernel, by decide +kernel⟩
theorem ok_TGrd {f : Addr} {fd : FuncData} (F : Fun K "guarded" "Teller.guarded" sTGrd f fd) (N : TeN K c.te) (NB : BdN K c.bg) (NR : RNo K c.ru) : FnOk P w K mg base CX0 1 f fd ["self", "side"] (spTGrd K c) := by
  refine F.ok scTGrd (fun vs H Q E h => ?_) (fun cdv A outer s H vs Q E hr h => ?_)
  · obtain ⟨a, s, F, t, rfl, _⟩ := h
    rfl
  obtain ⟨a, s, F, t, rfl, z, ht, q⟩ := h
  have sm := z.sm
  obtain ⟨dx, ab, ac, vb, vd, r, xs, h1, ⟨db, pv', hb, _⟩, _, _, _, _, dr, as, hr1, hr2⟩ := ht
  refine ⟨_, (pss_cons (ps_if (pt_val (pe_fld (pv 0) rfl))
      (pss_one (ps_ret (pe_ifExp (pt_cmpR op_eq (pv 1) (pe_fld (pe_fld (pv 0) rfl) rfl) (nomark _)) (pe_fld (pe_fld (pv 0) rfl) rfl) (pe_lst pa_nil)))) pss_nil)
    (pss_one (ps_ret (pe_ifExp (pt_cmpR op_ne (pv 1) (pe_fld (pe_fld (pv 0) rfl) rfl) (nomark _)) (pe_lst (pa_cons (pe_fld (pv 0) rfl) pa_nil)) (pe_lst pa_nil))))), ?_⟩
  refine ⟨_, rfl, a, _, dx, _, _, rfl, sm _ _ h1, N.cl, N.sv, rfl, _, rfl, ?_⟩
  unfold guardT at q
  cases hs : t.srv with
  | true =>
    simp only [hs, if_true] at q
    refine iteT ⟨_, rfl, _, rfl, a, _, dx, _, _, rfl, sm _ _ h1, N.cl, N.bg, rfl, ab, _, db, _, _, rfl, sm _ _ hb, NB.cl, NB.sd, rfl, rfl, _, rfl, ?_⟩
    rw [sd_eq]
    by_cases e : s = t.b.sd
    · rw [decide_eq_true e]
      rw [if_pos e] at q
      exact iteT ⟨_, rfl, a, _, dx, _, _, rfl, sm _ _ h1, N.cl, N.tr, rfl, r, _, dr, _, _, rfl, sm _ _ hr1, NR.cl, NR.nQ, rfl, q F H as (Adv.refl z) hr2⟩
    · rw [decide_eq_false e]
      rw [if_neg e] at q
      exact iteF ⟨(by show 0 ≤ sizeLine; decide), fun p np => q _ _ p (Adv.new z np _) upd_same⟩
  | false =>
    simp only [hs, Bool.false_eq_true, if_false] at q
    refine iteF ⟨_, rfl, _, rfl, a, _, dx, _, _, rfl, sm _ _ h1, N.cl, N.bg, rfl, ab, _, db, _, _, rfl, sm _ _ hb, NB.cl, NB.sd, rfl, rfl, _, rfl, ?_⟩
    rw [sd_eq]
    by_cases e : s = t.b.sd
    · rw [decide_eq_true e]
      rw [if_pos e] at q
      exact iteF ⟨(by show 0 ≤ sizeLine; decide), fun p np => q _ _ p (Adv.new z np _) upd_same⟩
    · rw [decide_eq_false e]
      rw [if_neg e] at q
      exact iteT ⟨_, rfl, a, _, dx, _, _, rfl, sm _ _ h1, N.cl, N.po, rfl, (by show 1 ≤ sizeLine; decide), fun p np => q _ _ p (Adv.new z np _) upd_same⟩
theorem scTRdy : FnScope ["self", "now", "barred"] ["self", "now", "barred"] (defScope sTRdy) := ⟨rfl, rfl, rfl, by decide +kernel, rfl, by decide +kernel, by decide +kernel⟩
theorem ok_TRdy {f : Addr} {fd : FuncData} (F : Fun K "ready" "Teller.ready" sTRdy f fd) (N : TeN K c.te) (NR : RNo K c.ru) (mm : mg "max" = none) : FnOk P w K mg base CX0 1 f fd ["self", "now", "barred"] (spTRdy K c) := by
  refine F.ok scTRdy (fun vs H Q E h => ?_) (fun cdv A outer s H vs Q E hr h => ?_)
  · obtain ⟨a, now, v, F, t, rfl, _⟩ := h
    rfl
  obtain ⟨a, now, v, F, t, rfl, sm, ht, nb, q⟩ := h
  obtain ⟨dx, ab, ac, vb, vd, r, xs, h1, _, _, _, hvb, _, dr, as, hr1, hr2⟩ := ht
  refine ⟨_, (pss_cons (ps_if (PW.pt (pw_or (pt_val (pe_fld (pv 0) rfl)) (pw_or1 (pt_cmpR op_ne (pe_fld (pe_fld (pv 0) rfl) rfl) pe_int (nomark _))))) (pss_one (ps_ret pe_non)) pss_nil)
    (pss_one (ps_ret (pe_tup (pa_cons (pe_callB (call_max2 rfl) (by rfl) mm (by decide +kernel) (pa_cons (pe_op op_add (pv 1) pe_int)
      (pa_cons (pe_op op_add (pe_ix ix_tup (pe_ix ix_tup (pe_fld (pv 0) rfl) (pe_un un_neg pe_int) (fun _ _ => rfl)) pe_int (fun _ _ => rfl)) (pe_fld (pe_fld (pv 0) rfl) rfl)) pa_nil))) (pa_cons (pe_fld (pv 0) rfl) pa_nil)))))), ?_⟩
  refine ⟨_, rfl, a, _, dx, _, _, rfl, sm _ _ h1, N.cl, N.sv, rfl, _, rfl, ?_⟩
  have none_of : readyT now t = none → Q .non H := fun e => q H .non (Same.refl _) (by rw [e]; exact rfl)
  cases hs : t.srv with
  | true => exact iteT (iteT (none_of (by unfold readyT; rw [if_pos (.inl hs)])))
  | false =>
    refine iteF ⟨_, rfl, a, _, dx, _, _, rfl, sm _ _ h1, N.cl, N.tr, rfl, r, _, dr, _, _, rfl, sm _ _ hr1, NR.cl, NR.nA, rfl, ?_⟩
    have other : (∀ n ps, t.tr ≠ .ans 0 n ps) → readyT now t = none := fun ne => by
      have hne : resAnsO t.tr ≠ some 0 := fun z => by
        cases e : t.tr with
        | ans v' n ps =>
          rw [e] at z
          have : v' = 0 := by injection z
          subst this
          exact ne _ _ e
        | _ => rw [e] at z; exact nomatch z
      unfold readyT
      rw [if_pos (.inr hne)]
    cases e : t.tr with
    | ans v' n ps =>
      by_cases e0 : v' = 0
      · subst e0
        rw [e] at hr1
        refine ⟨rfl, _, rfl, ite2 (fun w => absurd w (by rw [show decide (resAns (.ans 0 n ps) = V.int 0) = true from decide_eq_true rfl]; decide)) (fun _ => ?_)⟩
        obtain ⟨b1, ys, p, u, rfl, hb1, hat, hp⟩ := beg_lst hvb nb
        refine ⟨_, rfl, _, _, rfl, rfl, _, rfl, a, _, dx, _, _, rfl, sm _ _ h1, N.cl, N.be, rfl, _, rfl, b1, _, _, _, rfl, rfl, Same.tup sm hb1, hat, p, _, _, _, rfl, rfl, Same.tup sm hp, atI_nat (j := 0) rfl, ?_⟩
        refine ⟨_, rfl, a, _, dx, _, _, rfl, sm _ _ h1, N.cl, N.tr, rfl, r, _, dr, _, _, rfl, sm _ _ hr1, NR.cl, NR.nL, rfl, _, _, rfl, rfl, _, _, rfl, _, rfl, a, _, dx, _, _, rfl, sm _ _ h1, N.cl, N.po, rfl, (by show 2 ≤ sizeLine; decide), fun tp ntp => q _ _ (same_new ntp _) ?_⟩
        have er : readyT now t = some (imax (now + 1) (begLast t.beg + n), t.pos) := by
          unfold readyT
          rw [if_neg (by rw [e, hs]; simp [resAnsO]), e]
          rfl
        rw [er]
        exact ⟨tp, rfl, ntp, upd_same⟩
      · refine ⟨rfl, _, rfl, ite2 (fun _ => none_of (other fun n' ps' z => by rw [e] at z; injection z with z; exact e0 z)) (fun w => absurd (by rw [show decide (resAns (.ans v' n ps) = V.int 0) = false from decide_eq_false (fun z => e0 (by injection z))]; rfl) w)⟩
    | ended n ps => exact ⟨rfl, _, rfl, ite2 (fun _ => none_of (other fun n' ps' z => by rw [e] at z; cases z)) (fun w => absurd (by rw [show decide (resAns (.ended n ps) = V.int 0) = false from decide_eq_false (fun z => nomatch z)]; rfl) w)⟩
    | silent f1 f2 ps => exact ⟨rfl, _, rfl, ite2 (fun _ => none_of (other fun n' ps' z => by rw [e] at z; cases z)) (fun w => absurd (by rw [show decide (resAns (.silent f1 f2 ps) = V.int 0) = false from decide_eq_false (fun z => nomatch z)]; rfl) w)⟩
    | run ps => exact ⟨rfl, _, rfl, ite2 (fun _ => none_of (other fun n' ps' z => by rw [e] at z; cases z)) (fun w => absurd (by rw [show decide (resAns (.run ps) = V.int 0) = false from decide_eq_false (fun z => nomatch z)]; rfl) w)⟩
theorem scCGrd : FnScope ["self", "side"] ["self", "side"] (defScope sCGrd) := ⟨rfl, rfl, rfl, by decide +kernel, rfl, by decide +kernel, by decide +kernel⟩
theorem ok_CGrd {f : Addr} {fd : FuncData} (F : Fun K "guarded" "Collector.guarded" sCGrd f fd) : FnOk P w K mg base CX0 1 f fd ["self", "side"] (spCGrd K c) := by
  refine F.ok scCGrd (fun vs H Q E h => ?_) (fun cdv A outer s H vs Q E hr h => ?_)
  · obtain ⟨a, v, F, rfl, _⟩ := h
    rfl
  obtain ⟨a, v, F, rfl, z, q⟩ := h
  refine ⟨_, (pss_one (ps_ret (pe_lst pa_nil))), ?_⟩
  exact ⟨(by show 0 ≤ sizeLine; decide), fun p np => q _ _ p (Adv.new z np _) upd_same⟩
theorem scCGoal : FnScope ["self"] ["self"] (defScope sCGoal) := ⟨rfl, rfl, rfl, by decide +kernel, rfl, by decide +kernel, by decide +kernel⟩
theorem ok_CGoal {f : Addr} {fd : FuncData} (F : Fun K "goal" "Collector.goal" sCGoal f fd) (N : CoN K c.co) (NB : BdN K c.bg) : FnOk P w K mg base CX0 1 f fd ["self"] (spCGoal K c) := by
  refine F.ok scCGoal (fun vs H Q E h => ?_) (fun cdv A outer s H vs Q E hr h => ?_)
  · obtain ⟨a, F, t, rfl, _⟩ := h
    rfl
  obtain ⟨a, F, t, rfl, sm, ht, q⟩ := h
  obtain ⟨dx, ab, al, vb, vd, h1, ⟨db, pv', hb, _⟩, _⟩ := ht
  refine ⟨_, (pss_one (ps_ret (pe_fld (pe_fld (pv 0) rfl) rfl))), ?_⟩
  exact ⟨_, rfl, a, _, dx, _, _, rfl, sm _ _ h1, N.cl, N.bg, rfl, ab, _, db, _, _, rfl, sm _ _ hb, NB.cl, NB.sd, rfl, q⟩
theorem scCSat : FnScope ["self", "now"] ["self", "now"] (defScope sCSat) := ⟨rfl, rfl, rfl, by decide +kernel, rfl, by decide +kernel, by decide +kernel⟩
theorem ok_CSat {f : Addr} {fd : FuncData} (F : Fun K "is_satisfied" "Collector.is_satisfied" sCSat f fd) (N : CoN K c.co) : FnOk P w K mg base CX0 1 f fd ["self", "now"] (spCSat K c) := by
  refine F.ok scCSat (fun vs H Q E h => ?_) (fun cdv A outer s H vs Q E hr h => ?_)
  · obtain ⟨a, now, F, t, rfl, _⟩ := h
    rfl
  obtain ⟨a, now, F, t, rfl, sm, ht, nb, q⟩ := h
  obtain ⟨dx, ab, al, vb, vd, h1, _, _, hvb, _⟩ := ht
  refine ⟨_, (pss_one (ps_ret (pe_and (pe_cmpR op_notN (pe_fld (pv 0) rfl) pe_non (nomark _)) (pe_one (pe_cmpR op_le (pe_op op_add (pe_ix ix_tup (pe_ix ix_tup (pe_fld (pv 0) rfl) pe_int (fun _ _ => rfl)) pe_int (fun _ _ => rfl)) (pe_fld (pv 0) rfl)) (pv 1) (nomark _)))))), ?_⟩
  refine ⟨_, rfl, a, _, dx, _, _, rfl, sm _ _ h1, N.cl, N.mt, rfl, rfl, _, rfl, ?_⟩
  unfold satC at q
  cases e : t.met with
  | none =>
    rw [e] at q
    exact ite2 (fun w => absurd w (by rw [show decide (optV none = V.non) = true from decide_eq_true rfl]; decide)) (fun _ => q)
  | some k =>
    rw [e] at q h1
    obtain ⟨b1, ys, p, u, rfl, hb1, hat, hp⟩ := beg_fst hvb nb
    refine ite2 (fun _ => ?_) (fun w => absurd (by rw [show decide (optV (some k) = V.non) = false from decide_eq_false (fun z => nomatch z)]; rfl) w)
    exact ⟨_, rfl, a, _, dx, _, _, rfl, sm _ _ h1, N.cl, N.be, rfl, b1, _, _, _, rfl, rfl, Same.tup sm hb1, hat, p, _, _, _, rfl, rfl, Same.tup sm hp, atI_nat (j := 0) rfl, _, rfl, a, _, dx, _, _, rfl, sm _ _ h1, N.cl, N.mt, rfl, _, _, rfl, rfl, _, rfl, _, _, rfl, rfl, q⟩
theorem scCRdy : FnScope ["self", "now", "barred", "found", "clock"] ["self", "now", "barred"] (defScope sCRdy) := ⟨rfl, rfl, rfl, by decide +kernel, rfl, by decide +kernel, by decide +kernel⟩
theorem ok_CRdy {f : Addr} {fd : FuncData} (F : Fun K "ready" "Collector.ready" sCRdy f fd) (N : CoN K c.co) (NL : LNo K c.ls) (mm : mg "max" = none) (MF : MCal P w K mg base 2 c.ls "first_outside" ["self", "barred"] (spFO K c.ls)) (MS : MCal P w K mg base 1 c.co "is_satisfied" ["self", "now"] (spCSat K c)) :
    FnOk P w K mg base CX0 3 f fd ["self", "now", "barred"] (spCRdy K c) := by
  refine F.ok scCRdy (fun vs H Q E h => ?_) (fun cdv A outer s H vs Q E hr h => ?_)
  · obtain ⟨a, m, now, F, t, bar, rfl, _⟩ := h
    rfl
  obtain ⟨a, m, now, F, t, bar, rfl, sm, ht, nb, hm, hbl, q⟩ := h
  have hr1 : Room 1 _ := hr.mono (by decide)
  obtain ⟨dx, ab, al, vb, vd, h1, _, hls, hvb, _⟩ := id ht
  refine ⟨_, (pss_cons (ps_set (i := 3) scCRdy.nd rfl (.inl rfl) (pe_meth (pe_fld (pv 0) rfl) NL.cl MF.m MF.G hr MF.b .nil pass0 (pa_cons (pv 2) pa_nil)))
    (pss_cons (ps_if (pt_cmpR op_isN (pv 3) pe_non (nomark _)) (pss_one (ps_ret pe_non)) pss_nil)
    (pss_cons (ps_set (i := 4) scCRdy.nd rfl (.inl rfl) (pe_callB (call_max2 rfl) (by rfl) mm (by decide +kernel) (pa_cons (pe_op op_add (pv 1) pe_int) (pa_cons (pe_op op_add (pe_ix ix_tup (pe_ix ix_tup (pe_fld (pv 0) rfl) pe_int (fun _ _ => rfl)) pe_int (fun _ _ => rfl)) (pe_ix ix_tup (pv 3) pe_int (fun _ _ => rfl))) pa_nil))))
    (pss_one (ps_ret (pe_ifExp (pt_val (pe_meth (pv 0) N.cl MS.m MS.G hr1 MS.b .nil pass0 (pa_cons (pv 4) pa_nil))) pe_non (pe_tup (pa_cons (pv 4) (pa_cons (pe_ix ix_tup (pv 3) pe_int (fun _ _ => rfl)) pa_nil))))))))), ?_⟩
  have hlsH := hls.same sm
  obtain ⟨dl, hd, cy, kh, kc, hs, cs, fm, xs, ys, kvs, la, ol, _⟩ := hlsH.ex
  refine ⟨_, rfl, a, _, dx, _, _, rfl, sm _ _ h1, N.cl, N.ls, rfl, al, dl, _, rfl, ol, rfl, _, rfl, al, m, noH, t.L, bar, rfl, hlsH, hm, hbl, fun H1 v s1 rv => ?_⟩
  unfold readyC at q
  cases e : foL t.L bar with
  | none =>
    rw [e] at q rv
    subst rv
    exact ⟨_, rfl, rfl, _, rfl, ite2 (fun _ => q H1 .non s1 rfl) (fun w => absurd (decide_eq_true rfl) w)⟩
  | some r =>
    rw [e] at q rv
    obtain ⟨tp, rfl, ntp, etp⟩ := rv
    obtain ⟨b1, zs, p, u, rfl, hb1, hat, hp⟩ := beg_fst hvb nb
    have sm1 : Same F H1 := sm.trans s1
    refine ⟨_, rfl, rfl, _, rfl, ite2 (fun w => absurd (of_decide_eq_true w) (fun z => nomatch z)) (fun _ => ?_)⟩
    refine ⟨_, rfl, _, _, rfl, rfl, _, rfl, a, _, dx, _, _, rfl, sm1 _ _ h1, N.cl, N.be, rfl, b1, _, _, _, rfl, rfl, Same.tup sm1 hb1, hat, p, _, _, _, rfl, rfl, Same.tup sm1 hp, atI_nat (j := 0) rfl, _, rfl, tp, _, _, _, rfl, rfl, SqT.of etp, atI_nat (j := 0) rfl, _, _, rfl, rfl, _, _, rfl, ?_⟩
    refine ⟨_, rfl, a, dx, _, rfl, sm1 _ _ h1, rfl, _, rfl, a, _, F, t, rfl, sm1, ht, nb, _, rfl, ?_⟩
    dsimp only at q
    have eI : (if begFst t.beg + r.1 > now + 1 then begFst t.beg + r.1 else now + 1) = imax (now + 1) (begFst t.beg + r.1) := rfl
    rw [eI]
    cases es : satC t (imax (now + 1) (begFst t.beg + r.1)) with
    | true =>
      rw [es, if_pos rfl] at q
      exact iteT (q H1 .non s1 rfl)
    | false =>
      rw [es, if_neg (by decide)] at q
      exact iteF ⟨_, rfl, _, rfl, tp, _, _, _, rfl, rfl, SqT.of etp, atI_nat (j := 1) rfl, (by show 2 ≤ sizeLine; decide), fun t2 n2 => q _ _ (s1.trans (same_new n2 _)) ⟨t2, rfl, s1.free n2, upd_same⟩⟩
end
/-! ### what becomes of tellers and collectors -/
abbrev sTAct : Stmt := inClass (top 63) 5
abbrev sTSta : Stmt := inClass (top 63) 6
abbrev sTTol : Stmt := inClass (top 63) 7
abbrev sCAct : Stmt := inClass (top 64) 5
abbrev sCTol : Stmt := inClass (top 64) 6
/-- the run of a teller on a tuple of members, its limit left out -/
structure CRun (P : Program) (w : World) (K : PySem.W.Frag) (mg : Str → Option Value) (base : Heap) (CR : Addr) where
  f : Addr
  fd : FuncData
  G : FnOk P w K mg base CX0 5 f fd ["code", "position", "members", "limit"] (spTRT K CR)
  ds : List Value
  vd : Vals [V.non] ds
  b : Binds K fd ["code", "position", "members", "limit"] ds
  kp : PySem.W.keepIn K (.ref f) = true
  m : mg "teller_run" = some (.ref f)
def cdOk (k : Str) (code : List Ins) : Prop := (∀ i ∈ code, i.ok k) ∧ code.length ≤ 100
theorem don_snoc {K : PySem.W.Frag} {F : Hp} {v : V} {l : List (Int × Int)} (x : Int × Int) (h : Dp K F v (donD l)) : ∃ a xs, v = .ref a ∧ SqT K F a xs ∧ xs.length = l.length ∧
    (∀ F' p1 p2, Same F F' → F' p1 = some (.tup [.int x.1, .int x.2]) → F' p2 = some (.tup (xs ++ [.ref p1])) → Dp K F' (.ref p2) (donD (l ++ [x]))) := by
  obtain ⟨a, xs, rfl, hs, ha⟩ := dp_tup_inv h
  refine ⟨a, xs, rfl, hs, by rw [dpAll_len ha, List.length_map], fun F' p1 p2 s h1 h2 => ?_⟩
  unfold donD
  rw [List.map_append]
  exact .tup (SqT.of h2) (dpAll_append (dpAll_mono s _ _ ha) (.cons (.tup (SqT.of h1) (.cons (.int _) (.cons (.int _) .nil))) .nil))
theorem beg_snoc {K : PySem.W.Frag} {F : Hp} {v : V} {l : List (Int × Option Int)} (x : Int × Int) (h : Dp K F v (begD l)) : ∃ a xs, v = .ref a ∧ SqT K F a xs ∧ xs.length = l.length ∧
    (∀ F' p1 p2, Same F F' → F' p1 = some (.tup [.int x.1, .int x.2]) → F' p2 = some (.tup (xs ++ [.ref p1])) → Dp K F' (.ref p2) (begD (l ++ [(x.1, some x.2)]))) := by
  obtain ⟨a, xs, rfl, hs, ha⟩ := beg_inv h
  refine ⟨a, xs, rfl, hs, by rw [dpAll_len ha, List.length_map], fun F' p1 p2 s h1 h2 => ?_⟩
  unfold begD
  rw [List.map_append]
  exact .tup (SqT.of h2) (dpAll_append (dpAll_mono s _ _ ha) (.cons (.tup (SqT.of h1) (.cons (.int _) (.cons (.int _) .nil))) .nil))
def spTAct (K : PySem.W.Frag) (c : HCl) : Sp := fun vs H Q _ => ∃ (a : Addr) (now z : Int) (F : Hp) (t : TelM), vs = [.ref a, .int now, .int z] ∧ Fz F H ∧ TelR K F c a t ∧ t.don.length ≤ 1000000 ∧ ∀ F' H' p, Adv [] F H F' H' → TelR K F' c p (actedT t now z) → Q (.ref p) H'
def spCAct (K : PySem.W.Frag) (c : HCl) : Sp := fun vs H Q _ => ∃ (a : Addr) (now z : Int) (F : Hp) (t : ColM), vs = [.ref a, .int now, .int z] ∧ Fz F H ∧ ColR K F c a t ∧ t.don.length ≤ 1000000 ∧ ∀ F' H' p, Adv [] F H F' H' → ColR K F' c p (actedC t now z) → Q (.ref p) H'
def spTSta (K : PySem.W.Frag) (c : HCl) : Sp := fun vs H Q _ => ∃ (a m : Addr) (now cause pos : Int) (F : Hp) (t : TelM) (ms : List Int), vs = [.ref a, .int now, .int cause, .int pos, .ref m] ∧ Fz F H ∧ TelR K F c a t ∧ t.beg.length ≤ 1000000 ∧ cdOk "teller" t.code ∧ F m = some (.tup (ms.map V.int)) ∧ ms.length ≤ 1000000 ∧
  ∀ F' H' p, Adv [] F H F' H' → TelR K F' c p (startedT t now cause pos ms) → Q (.ref p) H'
def spTTol (K : PySem.W.Frag) (c : HCl) : Sp := fun vs H Q _ => ∃ (a m : Addr) (s : Bool) (z : Int) (F : Hp) (t : TelM) (ms : List Int), vs = [.ref a, .str (sdS s), .int z, .ref m] ∧ Fz F H ∧ TelR K F c a t ∧ cdOk "teller" t.code ∧ F m = some (.tup (ms.map V.int)) ∧ ms.length ≤ 1000000 ∧
  ∀ F' H' p, Adv [] F H F' H' → TelR K F' c p (toldT t s z ms) → Q (.ref p) H'
def spCTol (K : PySem.W.Frag) (c : HCl) : Sp := fun vs H Q _ => ∃ (a m : Addr) (s : Bool) (z : Int) (F : Hp) (t : ColM), vs = [.ref a, .str (sdS s), .int z, .ref m] ∧ Fz F H ∧ ColR K F c a t ∧ LpOk t.L ∧ z.natAbs < 2 ^ 300 ∧
  ∀ F' H' p, Adv [] F H F' H' → ColR K F' c p (toldC t s z) → Q (.ref p) H'
section
variable {P : Program} {w : World} {K : PySem.W.Frag} {mg : Str → Option Value} {base : Heap} {c : HCl}
theorem scTAct : FnScope ["self", "now", "integer", "done"] ["self", "now", "integer"] (defScope sTAct) := ⟨rfl, rfl, rfl, by decide +kernel, rfl, by decide +kernel, by decide +kernel⟩
theorem ok_TAct {f : Addr} {fd : FuncData} (F : Fun K "acted" "Teller.acted" sTAct f fd) (N : TeN K c.te) (C : Kl P w K mg base c.te "Teller" nTe) : FnOk P w K mg base CX0 3 f fd ["self", "now", "integer"] (spTAct K c) := by
  refine F.ok scTAct (fun vs H Q E h => ?_) (fun cdv A outer s H vs Q E hr h => ?_)
  · obtain ⟨a, now, z, F, t, rfl, _⟩ := h
    rfl
  obtain ⟨a, now, x, F, t, rfl, z, ht, hl, q⟩ := h
  have sm := z.sm
  obtain ⟨dx, ab, ac, vb, vd, r, xs, h1, h2, h3, h4, h5, h6, h7⟩ := ht
  refine ⟨_, pss_cons (ps_set (i := 3) scTAct.nd rfl (.inl rfl) (pe_tup (StX.pa_star (pe_fld (pv 0) rfl) (pa_cons (pe_tup (pa_cons (pv 1) (pa_cons (pv 2) pa_nil))) pa_nil))))
    (pss_one (ps_ret (pe_make C.M C.G hr rfl C.g C.b .nil pass0 (pa_cons (pe_fld (pv 0) rfl) (pa_cons (pe_fld (pv 0) rfl) (pa_cons (pe_fld (pv 0) rfl) (pa_cons (pv 3) (pa_cons (pe_fld (pv 0) rfl) (pa_cons (pe_fld (pv 0) rfl) (pa_cons pe_bl pa_nil)))))))))), ?_⟩
  obtain ⟨d0, ys, rfl, hd0, hyl, mkD⟩ := don_snoc (now, x) h6
  refine ⟨_, rfl, a, _, dx, _, _, rfl, sm _ _ h1, N.cl, N.dn, rfl, d0, ys, rfl, .inl (Same.tup sm hd0), _, rfl, _, rfl, (by show 2 ≤ sizeLine; decide), fun p1 n1 => ⟨?_, fun p2 n2 => ?_⟩⟩
  · rw [List.length_append]; exact Nat.le_trans (by show ys.length + 1 ≤ 2000000; omega) (by decide)
  have A1 := Adv.new z n1 (.tup [.int now, .int x])
  have A2 := A1.trans (Adv.new A1.fz n2 (.tup (ys ++ [.ref p1])))
  have hD : Dp K (upd (upd F p1 (.tup [.int now, .int x])) p2 (.tup (ys ++ [.ref p1]))) (.ref p2) (donD (t.don ++ [(now, x)])) := mkD _ p1 p2 (A2.same z) (by rw [upd_ne (fun e => by rw [e, upd_same] at n2; cases n2)]; exact upd_same) upd_same
  generalize upd (upd F p1 (.tup [.int now, .int x])) p2 (.tup (ys ++ [.ref p1])) = F2 at A2 hD
  generalize upd (upd H p1 (.tup [.int now, .int x])) p2 (.tup (ys ++ [.ref p1])) = H2 at A2 ⊢
  have s2 := A2.same z
  have e1 := A2.fz.sm _ _ (s2 _ _ h1)
  refine ⟨_, rfl, a, _, dx, _, _, rfl, e1, N.cl, N.bg, rfl, _, rfl, a, _, dx, _, _, rfl, e1, N.cl, N.cd, rfl, _, rfl, a, _, dx, _, _, rfl, e1, N.cl, N.be, rfl, _, rfl, _, rfl, a, _, dx, _, _, rfl, e1, N.cl, N.po, rfl, _, rfl, a, _, dx, _, _, rfl, e1, N.cl, N.tr, rfl, ?_⟩
  refine mk_new A2.fz (ns := nTe) (as := [.ref ab, .ref ac, vb, .ref p2, .int t.pos, .ref r, .bl true]) rfl fun o dx' H3 A3 no => q _ _ o (A2.trans A3) ?_
  have s3 := s2.trans (A3.same A2.fz)
  exact ⟨dx', ab, ac, vb, .ref p2, r, xs, upd_same, h2.same s3, s3 _ _ h3, dpAll_mono s3 _ _ h4, dp_mono s3 _ _ h5, dp_mono (A3.same A2.fz) _ _ hD, RunA.same s3 h7⟩
theorem scTSta : FnScope ["self", "now", "cause", "position", "members", "begun", "trial"] ["self", "now", "cause", "position", "members"] (defScope sTSta) := ⟨rfl, rfl, rfl, by decide +kernel, rfl, by decide +kernel, by decide +kernel⟩
theorem ok_TSta {f : Addr} {fd : FuncData} (F : Fun K "started" "Teller.started" sTSta f fd) (N : TeN K c.te) (C : Kl P w K mg base c.te "Teller" nTe) (R : CRun P w K mg base c.ru) : FnOk P w K mg base CX0 6 f fd ["self", "now", "cause", "position", "members"] (spTSta K c) := by
  refine F.ok scTSta (fun vs H Q E h => ?_) (fun cdv A outer s H vs Q E hr h => ?_)
  · obtain ⟨a, m, now, cause, pos, F, t, ms, rfl, _⟩ := h
    rfl
  obtain ⟨a, m, now, cause, pos, F, t, ms, rfl, z, ht, hl, hcd, hm, hml, q⟩ := h
  have sm := z.sm
  have hr2 : Room 2 _ := hr.mono (by decide)
  obtain ⟨dx, ab, ac, vb, vd, r, xs, h1, h2, h3, h4, h5, h6, h7⟩ := ht
  refine ⟨_, pss_cons (ps_set (i := 5) scTSta.nd rfl (.inl rfl) (pe_tup (StX.pa_star (pe_fld (pv 0) rfl) (pa_cons (pe_tup (pa_cons (pv 1) (pa_cons (pv 2) pa_nil))) pa_nil))))
    (pss_cons (ps_set (i := 6) scTSta.nd rfl (.inl rfl) (pe_call R.G hr rfl R.m R.kp R.b R.vd pass0 (pa_cons (pe_fld (pv 0) rfl) (pa_cons (pv 3) (pa_cons (pv 4) pa_nil)))))
    (pss_one (ps_ret (pe_make C.M C.G hr2 rfl C.g C.b .nil pass0 (pa_cons (pe_fld (pv 0) rfl) (pa_cons (pe_fld (pv 0) rfl) (pa_cons (pv 5) (pa_cons (pe_fld (pv 0) rfl) (pa_cons (pv 3) (pa_cons (pv 6) (pa_cons pe_bl pa_nil))))))))))), ?_⟩
  obtain ⟨d0, ys, rfl, hd0, hyl, mkD⟩ := beg_snoc (now, cause) h5
  refine ⟨_, rfl, a, _, dx, _, _, rfl, sm _ _ h1, N.cl, N.be, rfl, d0, ys, rfl, .inl (Same.tup sm hd0), _, rfl, _, rfl, (by show 2 ≤ sizeLine; decide), fun p1 n1 => ⟨?_, fun p2 n2 => ?_⟩⟩
  · rw [List.length_append]; exact Nat.le_trans (by show ys.length + 1 ≤ 2000000; omega) (by decide)
  have A1 := Adv.new z n1 (.tup [.int now, .int cause])
  have A2 := A1.trans (Adv.new A1.fz n2 (.tup (ys ++ [.ref p1])))
  have hD : Dp K (upd (upd F p1 (.tup [.int now, .int cause])) p2 (.tup (ys ++ [.ref p1]))) (.ref p2) (begD (t.beg ++ [(now, some cause)])) := mkD _ p1 p2 (A2.same z) (by rw [upd_ne (fun e => by rw [e, upd_same] at n2; cases n2)]; exact upd_same) upd_same
  generalize upd (upd F p1 (.tup [.int now, .int cause])) p2 (.tup (ys ++ [.ref p1])) = F2 at A2 hD
  generalize upd (upd H p1 (.tup [.int now, .int cause])) p2 (.tup (ys ++ [.ref p1])) = H2 at A2 ⊢
  have s2 := A2.same z
  have b2 := A2.fz.sm
  refine ⟨_, rfl, a, _, dx, _, _, rfl, b2 _ _ (s2 _ _ h1), N.cl, N.cd, rfl, _, rfl, _, rfl, ac, m, pos, none, xs, t.code, ms, rfl, SqL.of (b2 _ _ (s2 _ _ h3)), dpAll_mono (s2.trans b2) _ _ h4, hcd.1, hcd.2, SqT.of (b2 _ _ (s2 _ _ hm)), hml, fun H3 ru u3 nru hru => ?_⟩
  have A3 := Adv.of A2.fz u3
  have hR := RunN.ext (F := F2) nru hru
  generalize extF F2 H2 H3 = F3 at A3 hR
  have A23 := A2.trans A3
  have s3 := A23.same z
  have e3 := A23.fz.sm _ _ (s3 _ _ h1)
  refine ⟨_, rfl, a, _, dx, _, _, rfl, e3, N.cl, N.bg, rfl, _, rfl, a, _, dx, _, _, rfl, e3, N.cl, N.cd, rfl, _, rfl, _, rfl, a, _, dx, _, _, rfl, e3, N.cl, N.dn, rfl, _, rfl, _, rfl, ?_⟩
  refine mk_new A23.fz (ns := nTe) (as := [.ref ab, .ref ac, .ref p2, vd, .int pos, .ref ru, .bl false]) rfl fun o dx' H4 A4 no => q _ _ o (A23.trans A4) ?_
  have s4 := s3.trans (A4.same A23.fz)
  exact ⟨dx', ab, ac, .ref p2, vd, ru, xs, upd_same, h2.same s4, s4 _ _ h3, dpAll_mono s4 _ _ h4, dp_mono ((A3.same A2.fz).trans (A4.same A23.fz)) _ _ hD, dp_mono s4 _ _ h6, RunA.same (A4.same A23.fz) hR⟩
theorem scTTol : FnScope ["self", "side", "integer", "members", "trial"] ["self", "side", "integer", "members"] (defScope sTTol) := ⟨rfl, rfl, rfl, by decide +kernel, rfl, by decide +kernel, by decide +kernel⟩
theorem ok_TTol {f : Addr} {fd : FuncData} (F : Fun K "told" "Teller.told" sTTol f fd) (N : TeN K c.te) (NB : BdN K c.bg) (NR : RNo K c.ru) (C : Kl P w K mg base c.te "Teller" nTe) (R : CRun P w K mg base c.ru) : FnOk P w K mg base CX0 6 f fd ["self", "side", "integer", "members"] (spTTol K c) := by
  refine F.ok scTTol (fun vs H Q E h => ?_) (fun cdv A outer s H vs Q E hr h => ?_)
  · obtain ⟨a, m, s, z, F, t, ms, rfl, _⟩ := h
    rfl
  obtain ⟨a, m, s, x, F, t, ms, rfl, z, ht, hcd, hm, hml, q⟩ := h
  have sm := z.sm
  have hr2 : Room 2 _ := hr.mono (by decide)
  obtain ⟨dx, ab, ac, vb, vd, r, xs, h1, h2, h3, h4, h5, h6, h7⟩ := id ht
  obtain ⟨db, pv', hb, _⟩ := id h2
  obtain ⟨dr, as, hr1, hr2'⟩ := id h7
  refine ⟨_, pss_cons (ps_if (PW.pt (pw_or (pt_val (pe_fld (pv 0) rfl)) (pw_or (pt_cmpR op_ne (pv 1) (pe_fld (pe_fld (pv 0) rfl) rfl) (nomark _)) (pw_or1 (pt_cmpR op_notIn_seq (pv 2) (pe_fld (pe_fld (pv 0) rfl) rfl) (by rfl)))))) (pss_one (ps_ret (pv 0))) pss_nil)
    (pss_cons (ps_set (i := 4) scTTol.nd rfl (.inl rfl) (pe_call R.G hr rfl R.m R.kp R.b R.vd pass0 (pa_cons (pe_fld (pv 0) rfl) (pa_cons (pe_fld (pv 0) rfl) (pa_cons (pv 3) pa_nil)))))
    (pss_one (ps_ret (pe_make C.M C.G hr2 rfl C.g C.b .nil pass0 (pa_cons (pe_fld (pv 0) rfl) (pa_cons (pe_fld (pv 0) rfl) (pa_cons (pe_fld (pv 0) rfl) (pa_cons (pe_fld (pv 0) rfl) (pa_cons (pe_fld (pv 0) rfl) (pa_cons (pv 4) (pa_cons pe_bl pa_nil))))))))))), ?_⟩
  have self : toldT t s x ms = t → Q (.ref a) H := fun e => q F H a (Adv.refl z) (by rw [e]; exact ht)
  refine ⟨_, rfl, a, _, dx, _, _, rfl, sm _ _ h1, N.cl, N.sv, rfl, _, rfl, ?_⟩
  cases hs : t.srv with
  | true => exact iteT (iteT ⟨_, rfl, self (by unfold toldT; rw [if_pos (.inl hs)])⟩)
  | false =>
    refine iteF ⟨_, rfl, _, rfl, a, _, dx, _, _, rfl, sm _ _ h1, N.cl, N.bg, rfl, ab, _, db, _, _, rfl, sm _ _ hb, NB.cl, NB.sd, rfl, rfl, _, rfl, ?_⟩
    rw [sd_eq]
    by_cases e : s = t.b.sd
    · rw [decide_eq_true e]
      refine iteF ⟨_, rfl, _, rfl, a, _, dx, _, _, rfl, sm _ _ h1, N.cl, N.tr, rfl, r, _, dr, _, _, rfl, sm _ _ hr1, NR.cl, NR.nQ, rfl, as, _, rfl, .inl (SqL.of (sm _ _ hr2')), rfl, (by simp [List.all_map]; intro _ _; rfl), _, rfl, ?_⟩
      rw [inV_dec]
      by_cases e2 : x ∈ resPs t.tr
      · rw [decide_eq_true e2]
        refine iteF ⟨_, rfl, a, _, dx, _, _, rfl, sm _ _ h1, N.cl, N.cd, rfl, _, rfl, a, _, dx, _, _, rfl, sm _ _ h1, N.cl, N.po, rfl, _, rfl, ac, m, t.pos, none, xs, t.code, ms, rfl, SqL.of (sm _ _ h3), dpAll_mono sm _ _ h4, hcd.1, hcd.2, SqT.of (sm _ _ hm), hml, fun H3 ru u3 nru hru => ?_⟩
        have A3 := Adv.of z u3
        have hR := RunN.ext (F := F) nru hru
        generalize extF F H H3 = F3 at A3 hR
        have s3 := A3.same z
        have e3 := A3.fz.sm _ _ (s3 _ _ h1)
        refine ⟨_, rfl, a, _, dx, _, _, rfl, e3, N.cl, N.bg, rfl, _, rfl, a, _, dx, _, _, rfl, e3, N.cl, N.cd, rfl, _, rfl, a, _, dx, _, _, rfl, e3, N.cl, N.be, rfl, _, rfl, a, _, dx, _, _, rfl, e3, N.cl, N.dn, rfl, _, rfl, a, _, dx, _, _, rfl, e3, N.cl, N.po, rfl, _, rfl, ?_⟩
        refine mk_new A3.fz (ns := nTe) (as := [.ref ab, .ref ac, vb, vd, .int t.pos, .ref ru, .bl false]) rfl fun o dx' H4 A4 no => q _ _ o (A3.trans A4) ?_
        have s4 := s3.trans (A4.same A3.fz)
        have et : toldT t s x ms = { t with tr := runT t.code t.pos ms, srv := false } := by
          unfold toldT
          rw [if_neg (by rw [hs]; simp [e, e2])]
        rw [et]
        exact ⟨dx', ab, ac, vb, vd, ru, xs, upd_same, h2.same s4, s4 _ _ h3, dpAll_mono s4 _ _ h4, dp_mono s4 _ _ h5, dp_mono s4 _ _ h6, RunA.same (A4.same A3.fz) hR⟩
      · rw [decide_eq_false e2]
        exact iteT ⟨_, rfl, self (by unfold toldT; rw [if_pos (.inr (.inr e2))])⟩
    · rw [decide_eq_false e]
      exact iteT (iteT ⟨_, rfl, self (by unfold toldT; rw [if_pos (.inr (.inl e))])⟩)
theorem scCAct : FnScope ["self", "now", "integer"] ["self", "now", "integer"] (defScope sCAct) := ⟨rfl, rfl, rfl, by decide +kernel, rfl, by decide +kernel, by decide +kernel⟩
theorem ok_CAct {f : Addr} {fd : FuncData} (F : Fun K "acted" "Collector.acted" sCAct f fd) (N : CoN K c.co) (C : Kl P w K mg base c.co "Collector" nCo) : FnOk P w K mg base CX0 3 f fd ["self", "now", "integer"] (spCAct K c) := by
  refine F.ok scCAct (fun vs H Q E h => ?_) (fun cdv A outer s H vs Q E hr h => ?_)
  · obtain ⟨a, now, z, F, t, rfl, _⟩ := h
    rfl
  obtain ⟨a, now, x, F, t, rfl, z, ht, hl, q⟩ := h
  have sm := z.sm
  obtain ⟨dx, ab, al, vb, vd, h1, h2, h3, h5, h6⟩ := ht
  refine ⟨_, pss_one (ps_ret (pe_make C.M C.G hr rfl C.g C.b .nil pass0 (pa_cons (pe_fld (pv 0) rfl) (pa_cons (pe_fld (pv 0) rfl) (pa_cons (pe_fld (pv 0) rfl) (pa_cons (pe_tup (StX.pa_star (pe_fld (pv 0) rfl) (pa_cons (pe_tup (pa_cons (pv 1) (pa_cons (pv 2) pa_nil))) pa_nil))) (pa_cons (pe_fld (pv 0) rfl) pa_nil))))))), ?_⟩
  obtain ⟨d0, ys, rfl, hd0, hyl, mkD⟩ := don_snoc (now, x) h6
  refine ⟨_, rfl, a, _, dx, _, _, rfl, sm _ _ h1, N.cl, N.bg, rfl, _, rfl, a, _, dx, _, _, rfl, sm _ _ h1, N.cl, N.ls, rfl, _, rfl, a, _, dx, _, _, rfl, sm _ _ h1, N.cl, N.be, rfl, _, rfl, a, _, dx, _, _, rfl, sm _ _ h1, N.cl, N.dn, rfl, d0, ys, rfl, .inl (Same.tup sm hd0), _, rfl, _, rfl, (by show 2 ≤ sizeLine; decide), fun p1 n1 => ⟨?_, fun p2 n2 => ?_⟩⟩
  · rw [List.length_append]; exact Nat.le_trans (by show ys.length + 1 ≤ 2000000; omega) (by decide)
  have A1 := Adv.new z n1 (.tup [.int now, .int x])
  have A2 := A1.trans (Adv.new A1.fz n2 (.tup (ys ++ [.ref p1])))
  have hD : Dp K (upd (upd F p1 (.tup [.int now, .int x])) p2 (.tup (ys ++ [.ref p1]))) (.ref p2) (donD (t.don ++ [(now, x)])) := mkD _ p1 p2 (A2.same z) (by rw [upd_ne (fun e => by rw [e, upd_same] at n2; cases n2)]; exact upd_same) upd_same
  generalize upd (upd F p1 (.tup [.int now, .int x])) p2 (.tup (ys ++ [.ref p1])) = F2 at A2 hD
  generalize upd (upd H p1 (.tup [.int now, .int x])) p2 (.tup (ys ++ [.ref p1])) = H2 at A2 ⊢
  have s2 := A2.same z
  have e1 := A2.fz.sm _ _ (s2 _ _ h1)
  refine ⟨_, rfl, a, _, dx, _, _, rfl, e1, N.cl, N.mt, rfl, ?_⟩
  refine mk_new A2.fz (ns := nCo) (as := [.ref ab, .ref al, vb, .ref p2, optV t.met]) rfl fun o dx' H3 A3 no => q _ _ o (A2.trans A3) ?_
  have s3 := s2.trans (A3.same A2.fz)
  exact ⟨dx', ab, al, vb, .ref p2, upd_same, h2.same s3, h3.same s3, dp_mono s3 _ _ h5, dp_mono (A3.same A2.fz) _ _ hD⟩
theorem scCTol : FnScope ["self", "side", "integer", "members", "step"] ["self", "side", "integer", "members"] (defScope sCTol) := ⟨rfl, rfl, rfl, by decide +kernel, rfl, by decide +kernel, by decide +kernel⟩
theorem ok_CTol {f : Addr} {fd : FuncData} (F : Fun K "told" "Collector.told" sCTol f fd) (N : CoN K c.co) (NB : BdN K c.bg) (NL : LNo K c.ls) (C : Kl P w K mg base c.co "Collector" nCo) (MS : MCal P w K mg base 2 c.ls "first_step" ["self", "integer"] (spFSt K c.ls)) : FnOk P w K mg base CX0 3 f fd ["self", "side", "integer", "members"] (spCTol K c) := by
  refine F.ok scCTol (fun vs H Q E h => ?_) (fun cdv A outer s H vs Q E hr h => ?_)
  · obtain ⟨a, m, s, z, F, t, rfl, _⟩ := h
    rfl
  obtain ⟨a, m, s, x, F, t, rfl, z, ht, hL, hx, q⟩ := h
  have sm := z.sm
  obtain ⟨dx, ab, al, vb, vd, h1, h2, h3, h5, h6⟩ := id ht
  obtain ⟨db, pv', hb, _⟩ := id h2
  refine ⟨_, pss_cons (ps_set (i := 4) scCTol.nd rfl (.inl rfl) (pe_ifExp (pt_cmpR op_eq (pv 1) (pe_fld (pe_fld (pv 0) rfl) rfl) (nomark _)) (pe_meth (pe_fld (pv 0) rfl) NL.cl MS.m MS.G hr MS.b .nil pass0 (pa_cons (pv 2) pa_nil)) pe_non))
    (pss_cons (ps_if (PW.pt (pw_or (pt_cmpR op_isN (pv 4) pe_non (nomark _)) (pw_or1 (PW.pt (pw_and (pt_cmpR op_notN (pe_fld (pv 0) rfl) pe_non (nomark _)) (pw_and1 (pt_cmpR op_le (pe_fld (pv 0) rfl) (pv 4) (nomark _)))))))) (pss_one (ps_ret (pv 0))) pss_nil)
    (pss_one (ps_ret (pe_make C.M C.G hr rfl C.g C.b .nil pass0 (pa_cons (pe_fld (pv 0) rfl) (pa_cons (pe_fld (pv 0) rfl) (pa_cons (pe_fld (pv 0) rfl) (pa_cons (pe_fld (pv 0) rfl) (pa_cons (pv 4) pa_nil))))))))), ?_⟩
  refine ⟨_, rfl, _, rfl, a, _, dx, _, _, rfl, sm _ _ h1, N.cl, N.bg, rfl, ab, _, db, _, _, rfl, sm _ _ hb, NB.cl, NB.sd, rfl, rfl, _, rfl, ?_⟩
  rw [sd_eq]
  unfold toldC at q
  by_cases e : s = t.b.sd
  · rw [decide_eq_true e]
    rw [if_pos e] at q
    have hlsH := h3.same sm
    obtain ⟨dl, hd, cy, kh, kc, hs, cs, fm, us, ys, kvs, la, ol, _⟩ := hlsH.ex
    refine iteT ⟨_, rfl, a, _, dx, _, _, rfl, sm _ _ h1, N.cl, N.ls, rfl, al, dl, _, rfl, ol, rfl, _, rfl, al, noH, t.L, x, rfl, hlsH, hL, hx, fun H1 u1 => ?_⟩
    have A1 := Adv.of z u1
    generalize extF F H H1 = F1 at A1
    have s1 := A1.same z
    have e1 := A1.fz.sm _ _ (s1 _ _ h1)
    cases ef : fstO t.L x with
    | none =>
      rw [ef] at q
      exact ⟨_, rfl, rfl, _, rfl, ite2 (fun _ => iteT ⟨_, rfl, q _ _ a A1 (ht.same s1)⟩) (fun w => absurd (decide_eq_true rfl) w)⟩
    | some st =>
      rw [ef] at q
      dsimp only at q
      refine ⟨_, rfl, rfl, _, rfl, ite2 (fun w => absurd (of_decide_eq_true w) (fun z => nomatch z)) (fun _ => ?_)⟩
      refine ⟨_, rfl, a, _, dx, _, _, rfl, e1, N.cl, N.mt, rfl, rfl, _, rfl, ?_⟩
      have fin : lessO t.met st = false → (∀ {D : L2.Ends}, D.rt = Q → tRet (tMake c.co (spIni c.co nCo) [] E0 (tCons (tFld K (tVar 0) "badge") (tCons (tFld K (tVar 0) "listing") (tCons (tFld K (tVar 0) "begun") (tCons (tFld K (tVar 0) "done") (tCons (tVar 4) tNil)))))) D [some (.ref a), some (.str (sdS s)), some (.int x), some (.ref m), some (.int st)] H1) := fun hl {D} hD => by
        rw [if_neg (by rw [hl]; decide)] at q
        refine ⟨_, rfl, a, _, dx, _, _, rfl, e1, N.cl, N.bg, rfl, _, rfl, a, _, dx, _, _, rfl, e1, N.cl, N.ls, rfl, _, rfl, a, _, dx, _, _, rfl, e1, N.cl, N.be, rfl, _, rfl, a, _, dx, _, _, rfl, e1, N.cl, N.dn, rfl, _, rfl, ?_⟩
        rw [hD]
        refine mk_new A1.fz (ns := nCo) (as := [.ref ab, .ref al, vb, vd, .int st]) rfl fun o dx' H3 A3 no => q _ _ o (A1.trans A3) ?_
        have s3 := s1.trans (A3.same A1.fz)
        exact ⟨dx', ab, al, vb, vd, upd_same, h2.same s3, h3.same s3, dp_mono s3 _ _ h5, dp_mono s3 _ _ h6⟩
      cases em : t.met with
      | none =>
        refine ite2 (fun w => absurd w (by rw [show decide (optV none = V.non) = true from decide_eq_true rfl]; decide)) (fun _ => iteF (fin (by rw [em]; rfl) rfl))
      | some k =>
        rw [em] at e1
        refine ite2 (fun _ => ?_) (fun w => absurd (by rw [show decide (optV (some k) = V.non) = false from decide_eq_false (fun z => nomatch z)]; rfl) w)
        refine ⟨_, rfl, a, _, dx, _, _, rfl, e1, N.cl, N.mt, rfl, _, rfl, _, _, rfl, rfl, _, rfl, ?_⟩
        by_cases hle : k ≤ st
        · rw [decide_eq_true hle]
          rw [if_pos (show lessO t.met st = true by rw [em]; exact decide_eq_true hle)] at q
          exact iteT ⟨_, rfl, q _ _ a A1 (ht.same s1)⟩
        · rw [decide_eq_false hle]
          exact iteF (fin (by rw [em]; exact decide_eq_false hle) rfl)
  · rw [decide_eq_false e]
    rw [if_neg e] at q
    exact iteF ⟨_, rfl, rfl, _, rfl, ite2 (fun _ => iteT ⟨_, rfl, q F H a (Adv.refl z) ht⟩) (fun w => absurd (decide_eq_true rfl) w)⟩
end
/-! ### machines arrive, go; the clock -/
abbrev sNewM : Stmt := top 62
abbrev sSArr : Stmt := inClass (top 72) 1
abbrev sSWo : Stmt := inClass (top 72) 2
abbrev sSAt : Stmt := inClass (top 72) 3
abbrev nsNewM : List Str := ["badge", "now", "position", "members", "begun", "code", "listing", "found"]
/-- the class Listing and its call: all that it makes is new -/
structure LKl (P : Program) (w : World) (K : PySem.W.Frag) (mg : Str → Option Value) (base : Heap) (C : Addr) where
  fI : Addr
  dI : FuncData
  g : mg "Listing" = some (.ref C)
  M : Mk K C fI
  G : FnOk P w K mg base CX0 16 fI dI ["self", "program"] (spLIF K C)
  b : Binds K dI ["self", "program"] []
/-- a known program -/
structure PgOk (k : Str) (d : PyData) (code : List Ins) : Prop where
  lay : Lay (.tuple [.str k, d])
  nol : noL d = true
  isp : isProg (.tuple [.str k, d]) = true
  cod : bodyC 4 0 d = code.map Ins.toD
  ok : cdOk k code
def newM (k : Str) (b : Bdg) (d : PyData) (code : List Ins) (now pos : Int) (ms : List Int) : MacM := if k = "teller" then .tel (newT b d code now pos ms) else .col (newC b d code now ms)
def spNewM (K : PySem.W.Frag) (c : HCl) : Sp := fun vs H Q _ => ∃ (ab m : Addr) (now pos : Int) (F : Hp) (b : Bdg) (k : Str) (d : PyData) (code : List Ins) (ms : List Int), vs = [.ref ab, .int now, .int pos, .ref m] ∧ Fz F H ∧ BdgR K F c ab b (.tuple [.str k, d]) ∧ (k = "teller" ∨ k = "collector") ∧ PgOk k d code ∧
  F m = some (.tup (ms.map V.int)) ∧ ms.length ≤ 1000000 ∧ (∀ z ∈ ms, z.natAbs < 2 ^ 300) ∧ ∀ F' H' p, Adv [] F H F' H' → MacR K F' c p (newM k b d code now pos ms) → Q (.ref p) H'
theorem met_eq {L : LP} {ms : List Int} {o : Option (Int × Int)} (h : IsMinP (fiL L ms) o) : o.map (·.1) = minO (ms.filterMap fun z => fstO L z) := by
  have key : ∀ s, s ∈ (ms.filterMap fun z => fstO L z) ↔ ∃ z, (s, z) ∈ fiL L ms := by
    intro s
    unfold fiL
    rw [List.mem_filterMap]
    constructor
    · rintro ⟨z, mz, e⟩
      exact ⟨z, List.mem_filterMap.mpr ⟨z, mz, by rw [e]; rfl⟩⟩
    · rintro ⟨z, m⟩
      obtain ⟨y, my, e⟩ := List.mem_filterMap.mp m
      cases ef : fstO L y with
      | none => rw [ef] at e; cases e
      | some t =>
        rw [ef] at e
        cases e
        exact ⟨z, my, ef⟩
  cases o with
  | none =>
    have h' : fiL L ms = [] := h
    cases e : (ms.filterMap fun z => fstO L z) with
    | nil => rfl
    | cons s r =>
      have := (key s).mp (by rw [e]; exact List.mem_cons_self ..)
      obtain ⟨z, m⟩ := this
      rw [h'] at m
      cases m
  | some r =>
    obtain ⟨m, le⟩ := h
    refine (minO_of ((key r.1).mpr ⟨r.2, m⟩) fun y my => ?_).symm
    obtain ⟨z, mz⟩ := (key y).mp my
    have h1 := le _ mz
    unfold pLt at h1
    have h2 := of_decide_eq_false h1
    have h3 : ¬ (y < r.1 ∨ (y = r.1 ∧ z < r.2)) := h2
    omega
section
variable {P : Program} {w : World} {K : PySem.W.Frag} {mg : Str → Option Value} {base : Heap} {c : HCl}
theorem scNewM : FnScope nsNewM ["badge", "now", "position", "members"] (defScope sNewM) := ⟨rfl, rfl, rfl, by decide +kernel, rfl, by decide +kernel, by decide +kernel⟩
theorem ok_NewM {f : Addr} {fd : FuncData} (F : Fun K "new_machine" "new_machine" sNewM f fd) (NB : BdN K c.bg) (NL : LNo K c.ls) (CT : Kl P w K mg base c.te "Teller" nTe) (CC : Kl P w K mg base c.co "Collector" nCo) (CL : LKl P w K mg base c.ls) (CA : Cal P w K mg base 15 "assemble" ["program"] (spAsm K)) (R : CRun P w K mg base c.ru)
    (MI : MCal P w K mg base 3 c.ls "first_inside" ["self", "members"] (spFIT K c.ls)) : FnOk P w K mg base CX0 18 f fd ["badge", "now", "position", "members"] (spNewM K c) := by
  refine F.ok scNewM (fun vs H Q E h => ?_) (fun cdv A outer s H vs Q E hr h => ?_)
  · obtain ⟨ab, m, now, pos, F, b, k, d, code, ms, rfl, _⟩ := h
    rfl
  obtain ⟨ab, m, now, pos, F, b, k, d, code, ms, rfl, z, hb, hk, pg, hm, hml, hmb, q⟩ := h
  have sm := z.sm
  have hr2 : Room 2 _ := hr.mono (by decide)
  have hr3 : Room 3 _ := hr.mono (by decide)
  have hr5 : Room 5 _ := hr.mono (by decide)
  have hr15 : Room 15 _ := hr.mono (by decide)
  obtain ⟨db, pv', ob, hpv⟩ := id hb
  refine ⟨_, pss_cons (ps_set (i := 4) scNewM.nd rfl (.inl rfl) (pe_tup (pa_cons (pe_tup (pa_cons (pv 1) (pa_cons pe_non pa_nil))) pa_nil)))
    (pss_cons (ps_if (pt_cmpR op_eq (pe_ix ix_tup (pe_fld (pv 0) rfl) pe_int (fun _ _ => rfl)) pe_str (nomark _))
      (pss_cons (ps_set (i := 5) scNewM.nd rfl (.inl rfl) (pe_call CA.G hr15 rfl CA.m CA.kp CA.b .nil pass0 (pa_cons (pe_fld (pv 0) rfl) pa_nil)))
      (pss_one (ps_ret (pe_make CT.M CT.G hr2 rfl CT.g CT.b .nil pass0 (pa_cons (pv 0) (pa_cons (pv 5) (pa_cons (pv 4) (pa_cons (pe_tup pa_nil) (pa_cons (pv 2) (pa_cons (pe_call R.G hr5 rfl R.m R.kp R.b R.vd pass0 (pa_cons (pv 5) (pa_cons (pv 2) (pa_cons (pv 3) pa_nil)))) (pa_cons pe_bl pa_nil)))))))))))
      pss_nil)
    (pss_cons (ps_set (i := 6) scNewM.nd rfl (.inl rfl) (pe_make CL.M CL.G hr rfl CL.g CL.b .nil pass0 (pa_cons (pe_fld (pv 0) rfl) pa_nil)))
    (pss_cons (ps_set (i := 7) scNewM.nd rfl (.inl rfl) (pe_meth (pv 6) NL.cl MI.m MI.G hr3 MI.b .nil pass0 (pa_cons (pv 3) pa_nil)))
    (pss_one (ps_ret (pe_make CC.M CC.G hr2 rfl CC.g CC.b .nil pass0 (pa_cons (pv 0) (pa_cons (pv 6) (pa_cons (pv 4) (pa_cons (pe_tup pa_nil) (pa_cons (pe_ifExp (pt_cmpR op_isN (pv 7) pe_non (nomark _)) pe_non (pe_ix ix_tup (pv 7) pe_int (fun _ _ => rfl))) pa_nil))))))))))), ?_⟩
  refine ⟨_, rfl, (by show 2 ≤ sizeLine; decide), fun p1 n1 => ⟨(by show 1 ≤ sizeLine; decide), fun p2 n2 => ?_⟩⟩
  have A1 := Adv.new z n1 (.tup [.int now, .non])
  have A2 := A1.trans (Adv.new A1.fz n2 (.tup [.ref p1]))
  have hG : Dp K (upd (upd F p1 (.tup [.int now, .non])) p2 (.tup [.ref p1])) (.ref p2) (begD [(now, none)]) := .tup (SqT.of upd_same) (.cons (.tup (SqT.of (by rw [upd_ne (fun e => by rw [e, upd_same] at n2; cases n2)]; exact upd_same)) (.cons (.int _) (.cons .non .nil))) .nil)
  generalize upd (upd F p1 (.tup [.int now, .non])) p2 (.tup [.ref p1]) = F2 at A2 hG
  generalize upd (upd H p1 (.tup [.int now, .non])) p2 (.tup [.ref p1]) = H2 at A2 ⊢
  have s2 := A2.same z
  have b2 := A2.fz.sm
  have hb2 := hb.same s2
  obtain ⟨pa, ys, rfl, hys, hya⟩ := dp_tup_inv hpv
  obtain ⟨y0, y1, rfl, hy0, hy1⟩ := dp_pair hya
  cases hy0
  have ob2 := b2 _ _ (s2 _ _ ob)
  have hp2 := dp_mono (s2.trans b2) _ _ hpv
  refine ⟨_, rfl, ab, _, db, _, _, rfl, ob2, NB.cl, NB.pr, rfl, pa, _, _, _, rfl, rfl, Same.tup (s2.trans b2) hys, atI_nat (j := 0) rfl, rfl, _, rfl, ?_⟩
  rcases hk with rfl | rfl
  · refine ite2 (fun _ => ?_) (fun w => absurd (decide_eq_true rfl) w)
    refine ⟨_, rfl, ab, _, db, _, _, rfl, ob2, NB.cl, NB.pr, rfl, _, "teller", d, rfl, hp2, pg.lay, pg.nol, pg.isp, fun H3 cd cs u3 ncd ecd hcs => ?_⟩
    rw [pg.cod] at hcs
    have A3 := Adv.of A2.fz u3
    have ecd' : extF F2 H2 H3 cd = some (.lst cs) := by rw [extF_new ncd]; exact ecd
    have hcs' := A3.fz.dpAll (code_noL pg.ok.1) hcs
    generalize extF F2 H2 H3 = F3 at A3 ecd' hcs'
    have b3 := A3.fz.sm
    have A23 := A2.trans A3
    have s3 := A23.same z
    refine ⟨_, rfl, _, rfl, _, rfl, (by show 0 ≤ sizeLine; decide), fun p4 n4 => ?_⟩
    have A4 := Adv.new A3.fz n4 (.tup [])
    have hD : Dp K (upd F3 p4 (.tup [])) (.ref p4) (donD []) := .tup (SqT.of upd_same) .nil
    generalize upd F3 p4 (.tup []) = F4 at A4 hD
    generalize upd H3 p4 (.tup []) = H4 at A4 ⊢
    have A24 := A23.trans A4
    have s4 := A24.same z
    have b4 := A24.fz.sm
    have s34 := A4.same A3.fz
    refine ⟨_, rfl, _, rfl, _, rfl, _, rfl, cd, m, pos, none, cs, code, ms, rfl, SqL.of (b4 _ _ (s34 _ _ ecd')), dpAll_mono (s34.trans b4) _ _ hcs', pg.ok.1, pg.ok.2, SqT.of (b4 _ _ (s4 _ _ hm)), hml, fun H5 ru u5 nru hru => ?_⟩
    have A5 := Adv.of A24.fz u5
    have hR := RunN.ext (F := F4) nru hru
    generalize extF F4 H4 H5 = F5 at A5 hR
    have A25 := A24.trans A5
    have s45 := A5.same A24.fz
    refine mk_new A25.fz (ns := nTe) (as := [.ref ab, .ref cd, .ref p2, .ref p4, .int pos, .ref ru, .bl false]) rfl fun o dx' H6 A6 no => q _ _ o (A25.trans A6) ?_
    have s56 := A6.same A25.fz
    have s6 := (A25.trans A6).same z
    exact ⟨dx', ab, cd, .ref p2, .ref p4, ru, cs, upd_same, hb.same s6, s56 _ _ (s45 _ _ (s34 _ _ ecd')), dpAll_mono (s34.trans (s45.trans s56)) _ _ hcs', dp_mono ((A3.same A2.fz).trans (s34.trans (s45.trans s56))) _ _ hG, dp_mono (s45.trans s56) _ _ hD, RunA.same s56 hR⟩
  · refine ite2 (fun w => absurd (of_decide_eq_true w) (by intro e; injection e with e; exact absurd e (by decide +kernel))) (fun _ => ?_)
    refine ⟨_, rfl, ab, _, db, _, _, rfl, ob2, NB.cl, NB.pr, rfl, fun x dx nx nd _ => ?_⟩
    refine ⟨x, dx, _, d, code, rfl, upd_same, dp_mono (madeC_same nx nd fun p o _ e => e) _ _ hp2, pg.lay, pg.nol, pg.isp, pg.cod, pg.ok.1, fun H3 f3 hn => ⟨rfl, ?_⟩⟩
    obtain ⟨F3, A3, hls, nox⟩ := LsN.take A2.fz nx nd f3 hn
    have b3 := A3.fz.sm
    have A23 := A2.trans A3
    have s3 := A23.same z
    have hls3 := hls.same b3
    obtain ⟨dl, hd, cy, kh, kc, hs, cs, fm, us, zs, kvs, la, ol, _⟩ := hls3.ex
    have hLok := runL_ok pg.ok.1 pg.ok.2
    refine ⟨_, rfl, x, dl, _, rfl, ol, rfl, _, rfl, x, m, noH, runL code, ms, rfl, hls3, hLok, SqT.of (b3 _ _ (s3 _ _ hm)), hml, hmb, fun H4 v o u4 ho rv => ?_⟩
    have A4 := Adv.of A3.fz u4
    generalize extF F3 H3 H4 = F4 at A4
    have A24 := A23.trans A4
    have s34 := A4.same A3.fz
    refine ⟨_, rfl, _, rfl, _, rfl, (by show 0 ≤ sizeLine; decide), fun p5 n5 => ?_⟩
    have A5 := Adv.new A24.fz n5 (.tup [])
    have hD : Dp K (upd F4 p5 (.tup [])) (.ref p5) (donD []) := .tup (SqT.of upd_same) .nil
    have u45 := same_new n5 (.tup [])
    generalize upd F4 p5 (.tup []) = F5 at A5 hD
    generalize upd H4 p5 (.tup []) = H5 at A5 u45 ⊢
    have A25 := A24.trans A5
    have s45 := A5.same A24.fz
    have em := met_eq ho
    have fin : ∀ {v' : V}, v' = optV (minO (ms.filterMap fun z => fstO (runL code) z)) → ∀ y dy, H5 y = none → H5 dy = none → dy ≠ y → spIni c.co nCo (.ref y :: ([V.ref ab, .ref x, .ref p2, .ref p5, v'] ++ [])) (upd (upd H5 dy (.own y)) y (.ins c.co dy [])) (fun v H2 => v = .non ∧ Q (.ref y) H2) E0 := fun {v'} ev => by
      subst ev
      refine mk_new A25.fz (ns := nCo) (as := [.ref ab, .ref x, .ref p2, .ref p5, _]) rfl fun o dx' H6 A6 no => q _ _ o (A25.trans A6) ?_
      have s56 := A6.same A25.fz
      have s6 := (A25.trans A6).same z
      exact ⟨dx', ab, x, .ref p2, .ref p5, upd_same, hb.same s6, hls.same (s34.trans (s45.trans s56)), dp_mono ((A3.same A2.fz).trans (s34.trans (s45.trans s56))) _ _ hG, dp_mono s56 _ _ hD⟩
    refine ⟨_, rfl, rfl, _, rfl, ?_⟩
    cases o with
    | none =>
      have ev : v = .non := rv
      subst ev
      exact ite2 (fun _ => fin (by rw [← em]; rfl)) (fun w => absurd (decide_eq_true rfl) w)
    | some r =>
      obtain ⟨tp, rfl, ntp, etp⟩ := rv
      exact ite2 (fun w => absurd (of_decide_eq_true w) (fun z => nomatch z)) (fun _ => ⟨_, rfl, tp, _, _, _, rfl, rfl, SqT.of (u45 _ _ etp), atI_nat (j := 0) rfl, fin (by rw [← em]; rfl)⟩)
end
/-! ### a standing with a machine more, or one less; at another clock -/
/-- what isinstance asks of the two kinds of machines -/
structure TyN (K : PySem.W.Frag) (c : HCl) : Prop where
  t : LIs K c.te
  o : LIs K c.co
  no : PySem.W.kitOne K (.ref c.co) (.ref c.te) = some false
def arrM (S : StM) (k : Str) (d : PyData) (code : List Ins) (s : Bool) : StM := { S with ms := S.ms ++ [newM k ⟨S.ahead, s, (S.ms.length : Nat)⟩ d code S.now (S.mark + 1) (S.set s)], ahead := S.ahead + 1, mark := if k = "teller" then S.mark + 1 else S.mark }
def spSArr (K : PySem.W.Frag) (c : HCl) : Sp := fun vs H Q _ => ∃ (a : Addr) (v : V) (s : Bool) (F : Hp) (S : StM) (k : Str) (d : PyData) (code : List Ins), vs = [.ref a, v, .str (sdS s)] ∧ Fz F H ∧ StnR K F c a S ∧ Dp K F v (.tuple [.str k, d]) ∧ (k = "teller" ∨ k = "collector") ∧ PgOk k d code ∧
  S.ms.length ≤ 100 ∧ (S.set s).length ≤ 1000000 ∧ (∀ z ∈ S.set s, z.natAbs < 2 ^ 300) ∧ ∀ F' H' p, Adv [] F H F' H' → StnR K F' c p (arrM S k d code s) → Q (.ref p) H'
def spSWo (K : PySem.W.Frag) (c : HCl) : Sp := fun vs H Q _ => ∃ (a : Addr) (n : Int) (F : Hp) (S : StM), vs = [.ref a, .int n] ∧ Fz F H ∧ StnR K F c a S ∧ S.ms.length ≤ 100 ∧ ∀ F' H' p, Adv [] F H F' H' → StnR K F' c p (withoutM S n) → Q (.ref p) H'
def spSAt (K : PySem.W.Frag) (c : HCl) : Sp := fun vs H Q _ => ∃ (a : Addr) (n : Int) (F : Hp) (S : StM), vs = [.ref a, .int n] ∧ Fz F H ∧ StnR K F c a S ∧ ∀ F' H' p, Adv [] F H F' H' → StnR K F' c p (atM S n) → Q (.ref p) H'
theorem lr_ne : ¬ (Sum.inr ("left" : Str) : Key) = Sum.inr ("right" : Str) := by decide +kernel
theorem sets_val (tl tr : Addr) (s : Bool) : valV (setsD tl tr) (Sum.inr (sdS s) : Key) = some (.ref (if s = true then tr else tl)) := by
  unfold setsD
  cases s
  · exact valV_pos rfl
  · rw [valV_neg lr_ne]
    exact valV_pos rfl
section
variable {P : Program} {w : World} {K : PySem.W.Frag} {mg : Str → Option Value} {base : Heap} {c : HCl}
theorem mac_ins {F : Hp} {a : Addr} {m : MacM} (h : MacR K F c a m) : ∃ dx fs ab db pv', F a = some (.ins (if m.isT = true then c.te else c.co) dx fs) ∧ fs.lookup ("badge" : Str) = some (.ref ab) ∧ F ab = some (.ins c.bg db (bdF m.b pv')) ∧ Dp K F pv' m.prog := by
  cases m with
  | tel t =>
    obtain ⟨dx, ab, ac, vb, vd, r, xs, h1, ⟨db, pv', h2, h3⟩, _⟩ := h
    exact ⟨dx, _, ab, db, pv', h1, rfl, h2, h3⟩
  | col t =>
    obtain ⟨dx, ab, al, vb, vd, h1, ⟨db, pv', h2, h3⟩, _⟩ := h
    exact ⟨dx, _, ab, db, pv', h1, rfl, h2, h3⟩
theorem mac_cls (NT : TeN K c.te) (NC : CoN K c.co) (b : Bool) : Cls K (if b = true then c.te else c.co) ∧ NoAttr K (if b = true then c.te else c.co) "badge" := by
  cases b
  · exact ⟨NC.cl, NC.bg⟩
  · exact ⟨NT.cl, NT.bg⟩
/-- isinstance(machine, Teller) -/
theorem mac_isT (NT : TeN K c.te) (NC : CoN K c.co) (Y : TyN K c) {H : Hp} {a dx : Addr} {fs : List (Str × V)} {b : Bool} (h : H a = some (.ins (if b = true then c.te else c.co) dx fs)) : ∃ t, TyX K H (.ref a) t ∧ PySem.W.kitOne K t (.ref c.te) = some b := by
  cases b
  · exact ⟨_, .base (.ins h NC.cl Y.o.ha Y.o.hn Y.o.ht Y.o.hm), Y.no⟩
  · exact ⟨_, .base (.ins h NT.cl Y.t.ha Y.t.hn Y.t.ht Y.t.hm), kit_own⟩
theorem scSAt : FnScope ["self", "now"] ["self", "now"] (defScope sSAt) := ⟨rfl, rfl, rfl, by decide +kernel, rfl, by decide +kernel, by decide +kernel⟩
theorem ok_SAt {f : Addr} {fd : FuncData} (F : Fun K "at_clock" "Standing.at_clock" sSAt f fd) (N : SnN K c.st) (C : Kl P w K mg base c.st "Standing" nSn) : FnOk P w K mg base CX0 3 f fd ["self", "now"] (spSAt K c) := by
  refine F.ok scSAt (fun vs H Q E h => ?_) (fun cdv A outer s H vs Q E hr h => ?_)
  · obtain ⟨a, n, F, S, rfl, _⟩ := h
    rfl
  obtain ⟨a, n, F, S, rfl, z, hS, q⟩ := h
  obtain ⟨dx, ad, tl, tr, tm, vs, h1, h2, h3, h4, h5, h6⟩ := hS
  have e1 := z.sm _ _ h1
  refine ⟨_, pss_one (ps_ret (pe_make C.M C.G hr rfl C.g C.b .nil pass0 (pa_cons (pv 1) (pa_cons (pe_fld (pv 0) rfl) (pa_cons (pe_fld (pv 0) rfl) (pa_cons (pe_fld (pv 0) rfl) (pa_cons (pe_fld (pv 0) rfl) pa_nil))))))), ?_⟩
  refine ⟨_, rfl, _, rfl, a, _, dx, _, _, rfl, e1, N.cl, N.se, rfl, _, rfl, a, _, dx, _, _, rfl, e1, N.cl, N.ms, rfl, _, rfl, a, _, dx, _, _, rfl, e1, N.cl, N.ah, rfl, _, rfl, a, _, dx, _, _, rfl, e1, N.cl, N.mr, rfl, ?_⟩
  refine mk_new z (ns := nSn) (as := [.int n, .ref ad, .ref tm, .int S.ahead, .int S.mark]) rfl fun o dx' H3 A3 no => q _ _ o A3 ?_
  have s3 := A3.same z
  exact ⟨dx', ad, tl, tr, tm, vs, upd_same, s3 _ _ h2, s3 _ _ h3, s3 _ _ h4, s3 _ _ h5, h6.same s3⟩
theorem scSWo : FnScope ["self", "number", "machines", "machine"] ["self", "number"] (defScope sSWo) := ⟨rfl, rfl, rfl, by decide +kernel, rfl, by decide +kernel, by decide +kernel⟩
theorem ok_SWo {f : Addr} {fd : FuncData} (F : Fun K "without" "Standing.without" sSWo f fd) (mt : mg "tuple" = none) (N : SnN K c.st) (NT : TeN K c.te) (NC : CoN K c.co) (NB : BdN K c.bg) (C : Kl P w K mg base c.st "Standing" nSn) : FnOk P w K mg base CX0 3 f fd ["self", "number"] (spSWo K c) := by
  refine F.ok scSWo (fun vs H Q E h => ?_) (fun cdv A outer s H vs Q E hr h => ?_)
  · obtain ⟨a, n, F, S, rfl, _⟩ := h
    rfl
  obtain ⟨a, n, F, S, rfl, z, hS, hl, q⟩ := h
  obtain ⟨dx, ad, tl, tr, tm, vs, h1, h2, h3, h4, h5, h6⟩ := hS
  have e1 := z.sm _ _ h1
  have hvl := h6.len
  refine ⟨_, pss_cons (ps_setLc (i := 2) (own := [("machine", 3)]) (g := gName 3) rfl scSWo.nd rfl rfl (sw_true rfl rfl rfl (by decide +kernel)) (pi_tup (pe_fld (pv 0) rfl)) (blkOk_by (N := ["self", "number", "machines", "machine"]) (sc := defScope sSWo) (by decide +kernel))
      (fun _ _ _ _ _ => pg_name (i := 3) scSWo.nd rfl (.inl rfl)) (fun _ _ _ _ _ => pts_one (pt_cmpR op_ne (show PE _ _ (tFld K (tFld K (tVar 3) "badge") "number") from pe_fld (pe_fld (pv 3) rfl) rfl) (pv 1) (nomark _))) (fun _ _ _ _ _ => pv 3))
    (pss_one (ps_ret (pe_make C.M C.G hr rfl C.g C.b .nil pass0 (pa_cons (pe_fld (pv 0) rfl) (pa_cons (pe_fld (pv 0) rfl) (pa_cons (pe_callTy call_tuple_of (by rfl) mt (by decide +kernel) (pa_cons (pv 2) pa_nil)) (pa_cons (pe_fld (pv 0) rfl) (pa_cons (pe_fld (pv 0) rfl) pa_nil)))))))), ?_⟩
  refine ⟨_, rfl, a, _, dx, _, _, rfl, e1, N.cl, N.ms, rfl, tm, rfl, ⟨_, SqT.of (z.sm _ _ h5)⟩, fun D nD => lc_it (walk_tup (K := K) (a := tm) (xs := vs)) (fun i H' => Same H H' ∧ ∃ ys, H' D = some (.lst ys) ∧ ys.length ≤ i ∧ MacsR K F c ys ((S.ms.take i).filter fun m => decide (m.num ≠ n)))
    ⟨same_new nD _, [], upd_same, Nat.le_refl _, by rw [List.take_zero]; exact .nil⟩ (fun i H' _ ⟨s1, _⟩ => SqT.of (s1 _ _ (z.sm _ _ h5))) ?_ ?_⟩
  · rintro i x Hx H1 hi ⟨s1, ys, eD, hyl, hys⟩ ⟨rfl, hx⟩
    obtain ⟨b, m, rfl, hm, hR⟩ := h6.get hx
    obtain ⟨dm, fs, ab, db, pv', g1, g2, g3, _⟩ := mac_ins hR
    have b1 : Same F H1 := z.sm.trans s1
    obtain ⟨k1, k2⟩ := mac_cls NT NC m.isT
    have hcell : (S.ms.take (i + 1)).filter (fun m => decide (m.num ≠ n)) = (S.ms.take i).filter (fun m => decide (m.num ≠ n)) ++ (if m.num ≠ n then [m] else []) := by
      rw [take_snoc hm, List.filter_append]
      congr 1
      by_cases e : m.num = n
      · simp [e]
      · simp [e]
    refine ⟨rfl, _, rfl, b, _, dm, _, _, rfl, b1 _ _ g1, k1, k2, g2, ab, _, db, _, _, rfl, b1 _ _ g3, NB.cl, NB.nu, rfl, _, rfl, rfl, _, rfl, ?_⟩
    rw [hcell]
    by_cases e : m.num = n
    · rw [show decide (V.int m.b.num = V.int n) = true from decide_eq_true (by rw [show m.b.num = n from e])]
      rw [if_neg (fun w => w e), List.append_nil]
      exact iteF ⟨s1, ys, eD, by omega, hys⟩
    · rw [show decide (V.int m.b.num = V.int n) = false from decide_eq_false (fun w => e (by injection w))]
      rw [if_pos e]
      refine iteT ⟨_, rfl, ys, eD, Nat.lt_of_le_of_lt (by omega : _ ≤ 1000) (by decide), same_upd s1 nD _, _, upd_same, ?_, hys.app (.one hR)⟩
      rw [List.length_append]
      show ys.length + 1 ≤ i + 1
      omega
  · rintro H1 ⟨s1, ys, eD, hyl, hys⟩
    rw [hvl, List.take_length] at hys
    have b1 : Same F H1 := z.sm.trans s1
    have A1 := Adv.of z s1
    generalize extF F H H1 = F1 at A1
    refine ⟨_, rfl, a, _, dx, _, _, rfl, b1 _ _ h1, N.cl, N.nw, rfl, _, rfl, a, _, dx, _, _, rfl, b1 _ _ h1, N.cl, N.se, rfl, _, rfl, D, _, rfl, .inl ⟨SqL.of eD, fun tp ntp => ?_⟩⟩
    have A2 := A1.trans (Adv.new A1.fz ntp (.tup ys))
    have e2 : (upd F1 tp (.tup ys)) tp = some (.tup ys) := upd_same
    have u2 := same_new ntp (.tup ys)
    generalize upd F1 tp (.tup ys) = F2 at A2 e2
    generalize upd H1 tp (.tup ys) = H2 at A2 u2 ⊢
    have b2 : Same F H2 := b1.trans u2
    refine ⟨_, rfl, a, _, dx, _, _, rfl, b2 _ _ h1, N.cl, N.ah, rfl, _, rfl, a, _, dx, _, _, rfl, b2 _ _ h1, N.cl, N.mr, rfl, ?_⟩
    refine mk_new A2.fz (ns := nSn) (as := [.int S.now, .ref ad, .ref tp, .int S.ahead, .int S.mark]) rfl fun o dx' H3 A3 no => q _ _ o (A2.trans A3) ?_
    have s3 := (A2.trans A3).same z
    exact ⟨dx', ad, tl, tr, tp, ys, upd_same, s3 _ _ h2, s3 _ _ h3, s3 _ _ h4, (A3.same A2.fz) _ _ e2, hys.same s3⟩
abbrev nsSArr : List Str := ["self", "program", "side", "badge", "machine", "mark"]
theorem scSArr : FnScope nsSArr ["self", "program", "side"] (defScope sSArr) := ⟨rfl, rfl, rfl, by decide +kernel, rfl, by decide +kernel, by decide +kernel⟩
theorem ok_SArr {f : Addr} {fd : FuncData} (F : Fun K "with_arrival" "Standing.with_arrival" sSArr f fd) (T : Gs K mg) (N : SnN K c.st) (NT : TeN K c.te) (NC : CoN K c.co) (Y : TyN K c) (C : Kl P w K mg base c.st "Standing" nSn) (CB : Kl P w K mg base c.bg "Badge" nBd) (gT : mg "Teller" = some (.ref c.te))
    (CN : Cal P w K mg base 18 "new_machine" ["badge", "now", "position", "members"] (spNewM K c)) : FnOk P w K mg base CX0 19 f fd ["self", "program", "side"] (spSArr K c) := by
  refine F.ok scSArr (fun vs H Q E h => ?_) (fun cdv A outer s H vs Q E hr h => ?_)
  · obtain ⟨a, v, s, F, S, k, d, code, rfl, _⟩ := h
    rfl
  obtain ⟨a, v, s, F, S, k, d, code, rfl, z, hS, hv, hk, pg, hl, hml, hmb, q⟩ := h
  have hu := hu_of hr
  have hr2 : Room 2 _ := hr.mono (by decide)
  obtain ⟨dx, ad, tl, tr, tm, vs, h1, h2, h3, h4, h5, h6⟩ := hS
  have hvl := h6.len
  have e1 := z.sm _ _ h1
  refine ⟨_, pss_cons (ps_set (i := 3) scSArr.nd rfl (.inl rfl) (pe_make CB.M CB.G hr2 rfl CB.g CB.b .nil pass0 (pa_cons (pe_fld (pv 0) rfl) (pa_cons (pv 1) (pa_cons (pv 2) (pa_cons (pe_callB call_len_seq (by rfl) T.len PySem.boot_len (pa_cons (pe_fld (pv 0) rfl) pa_nil)) pa_nil))))))
    (pss_cons (ps_set (i := 4) scSArr.nd rfl (.inl rfl) (pe_call CN.G hr rfl CN.m CN.kp CN.b .nil pass0 (pa_cons (pv 3) (pa_cons (pe_fld (pv 0) rfl) (pa_cons (pe_op op_add (pe_fld (pv 0) rfl) pe_int) (pa_cons (pe_dget hu (pe_fld (pv 0) rfl) (pv 2) (fun _ _ => rfl)) pa_nil))))))
    (pss_cons (ps_set (i := 5) scSArr.nd rfl (.inl rfl) (pe_ifExp (pt_val (pe_callB call_isi (by rfl) T.isi (by decide +kernel) (pa_cons (pv 4) (pa_cons (pe_gref rfl gT) pa_nil)))) (pe_op op_add (pe_fld (pv 0) rfl) pe_int) (pe_fld (pv 0) rfl)))
    (pss_one (ps_ret (pe_make C.M C.G hr2 rfl C.g C.b .nil pass0 (pa_cons (pe_fld (pv 0) rfl) (pa_cons (pe_fld (pv 0) rfl) (pa_cons (pe_tup (StX.pa_star (pe_fld (pv 0) rfl) (pa_cons (pv 4) pa_nil))) (pa_cons (pe_op op_add (pe_fld (pv 0) rfl) pe_int) (pa_cons (pv 5) pa_nil)))))))))), ?_⟩
  refine ⟨_, rfl, a, _, dx, _, _, rfl, e1, N.cl, N.ah, rfl, _, rfl, _, rfl, _, rfl, a, _, dx, _, _, rfl, e1, N.cl, N.ms, rfl, tm, vs, rfl, .inr (SqT.of (z.sm _ _ h5)), ?_⟩
  refine fun ab db nab ndb _ => ⟨ab, db, [.int S.ahead, v, .str (sdS s), .int ((vs.length : Nat) : Int)], rfl, rfl, upd_same, fun H2 keep hx => ⟨rfl, ?_⟩⟩
  have A2 := mk_adv z nab ndb keep hx
  have hB : BdgR K (upd F ab (.ins c.bg db (nBd.zip [.int S.ahead, v, .str (sdS s), .int ((vs.length : Nat) : Int)]))) c ab ⟨S.ahead, s, (S.ms.length : Nat)⟩ (.tuple [.str k, d]) := ⟨db, v, by rw [upd_same, hvl]; rfl, dp_mono (A2.same z) _ _ hv⟩
  generalize upd F ab (.ins c.bg db (nBd.zip [.int S.ahead, v, .str (sdS s), .int ((vs.length : Nat) : Int)])) = F2 at A2 hB
  have s2 := A2.same z
  have b2 := A2.fz.sm
  have e2 := b2 _ _ (s2 _ _ h1)
  have emem : F (if s = true then tr else tl) = some (.tup ((S.set s).map V.int)) := by
    unfold StM.set
    cases s
    · exact h3
    · exact h4
  refine ⟨_, rfl, _, rfl, a, _, dx, _, _, rfl, e2, N.cl, N.nw, rfl, _, rfl, a, _, dx, _, _, rfl, e2, N.cl, N.mr, rfl, _, _, rfl, rfl, _, rfl, a, _, dx, _, _, rfl, e2, N.cl, N.se, rfl, _, rfl, ad, _, rfl, sets_val tl tr s ▸ DGet.k (k := Sum.inr (sdS s)) (b2 _ _ (s2 _ _ h2)), ?_⟩
  refine ⟨ab, _, S.now, S.mark + 1, F2, _, k, d, code, S.set s, rfl, A2.fz, hB, hk, pg, s2 _ _ emem, hml, hmb, fun F3 H3 mp A3 hM => ?_⟩
  have A23 := A2.trans A3
  have s3 := A23.same z
  have b3 := A23.fz.sm
  have e3 := b3 _ _ (s3 _ _ h1)
  obtain ⟨dm, fs, ab', db', pv', g1, _⟩ := mac_ins hM
  obtain ⟨tt, ty, ko⟩ := mac_isT NT NC Y (b3 _ _ g1)
  refine ⟨_, rfl, .ref mp, .ref c.te, _, _, _, rfl, .own c.te, ty, ko, _, rfl, ?_⟩
  have eT : (newM k ⟨S.ahead, s, (S.ms.length : Nat)⟩ d code S.now (S.mark + 1) (S.set s)).isT = decide (k = "teller") := by
    unfold newM
    by_cases e : k = "teller"
    · rw [if_pos e, decide_eq_true e]; rfl
    · rw [if_neg e, decide_eq_false e]; rfl
  rw [eT]
  have rest : ∀ mk : Int, mk = (if k = "teller" then S.mark + 1 else S.mark) → ∀ D : L2.Ends, D.rt = Q → tRet (tMake c.st (spIni c.st nSn) [] E0 (tCons (tFld K (tVar 0) "now") (tCons (tFld K (tVar 0) "sets") (tCons (tTup (StX.tStar K (tFld K (tVar 0) "machines") (tCons (tVar 4) tNil))) (tCons (tOp (rI0 fun i j => V.int (i + j)) (tFld K (tVar 0) "ahead") (tC (.int 1))) (tCons (tVar 5) tNil)))))) D [some (.ref a), some v, some (.str (sdS s)), some (.ref ab), some (.ref mp), some (.int mk)] H3 := by
    intro mk emk D hD
    refine ⟨_, rfl, a, _, dx, _, _, rfl, e3, N.cl, N.nw, rfl, _, rfl, a, _, dx, _, _, rfl, e3, N.cl, N.se, rfl, _, rfl, a, _, dx, _, _, rfl, e3, N.cl, N.ms, rfl, tm, vs, rfl, .inl (SqT.of (b3 _ _ (s3 _ _ h5))), _, rfl, ?_, fun tp ntp => ?_⟩
    · rw [List.length_append, hvl]; exact Nat.le_trans (by show S.ms.length + 1 ≤ 1000; omega) (by decide)
    have A4 := A23.trans (Adv.new A23.fz ntp (.tup (vs ++ [.ref mp])))
    have e4 : (upd F3 tp (.tup (vs ++ [.ref mp]))) tp = some (.tup (vs ++ [.ref mp])) := upd_same
    have s34 := (Adv.new A23.fz ntp (.tup (vs ++ [.ref mp]))).same A23.fz
    generalize upd F3 tp (.tup (vs ++ [.ref mp])) = F4 at A4 e4 s34
    generalize upd H3 tp (.tup (vs ++ [.ref mp])) = H4 at A4 ⊢
    have s4 := A4.same z
    have b4 := A4.fz.sm
    refine ⟨_, rfl, a, _, dx, _, _, rfl, b4 _ _ (s4 _ _ h1), N.cl, N.ah, rfl, _, _, rfl, rfl, _, rfl, ?_⟩
    rw [hD]
    refine mk_new A4.fz (ns := nSn) (as := [.int S.now, .ref ad, .ref tp, .int (S.ahead + 1), .int mk]) rfl fun o dx' H5 A5 no => q _ _ o (A4.trans A5) ?_
    have s5 := (A4.trans A5).same z
    have s45 := A5.same A4.fz
    refine ⟨dx', ad, tl, tr, tp, _, ?_, s5 _ _ h2, s5 _ _ h3, s5 _ _ h4, s45 _ _ e4, (h6.same s5).app (.one (hM.same (s34.trans s45)))⟩
    rw [upd_same, emk]
    rfl
  by_cases e : k = "teller"
  · rw [decide_eq_true e]
    exact iteT ⟨_, rfl, a, _, dx, _, _, rfl, e3, N.cl, N.mr, rfl, _, _, rfl, rfl, rest _ (by rw [if_pos e]) _ rfl⟩
  · rw [decide_eq_false e]
    exact iteF ⟨_, rfl, a, _, dx, _, _, rfl, e3, N.cl, N.mr, rfl, rest _ (by rw [if_neg e]) _ rfl⟩
end
/-! ### what is guarded, what is barred, the next act -/
abbrev sSBar : Stmt := inClass (top 72) 4
abbrev sSGrd : Stmt := inClass (top 72) 5
abbrev sSNxt : Stmt := inClass (top 72) 6
abbrev nsSGrd : List Str := ["self", "side", "rows", "machine", "integer"]
theorem Adv.touch {M : List Addr} {F H F1 H1 : Hp} (a : Adv M F H F1 H1) {p : Addr} (np : H p = none) (n : F1 p = none) {o : HO} (ho : soft o) : Adv M F H F1 (upd H1 p o) := by
  refine ⟨⟨fun q u e => ?_, fun q xs e => ?_, fun q b u e => ?_⟩, a.kf, fun q u nm e => ?_, fun q e => ?_⟩
  · rw [upd_ne (fun c => by rw [c, n] at e; cases e)]; exact a.fz.sm _ _ e
  · by_cases c : q = p
    · subst c; rw [upd_same] at e; cases e; exact ho.elim
    · rw [upd_ne c] at e; exact a.fz.kt.1 _ _ e
  · by_cases c : q = p
    · subst c; rw [upd_same] at e; cases e; exact ho.elim
    · rw [upd_ne c] at e; exact a.fz.kt.2 _ _ _ e
  · rw [upd_ne (ne_of_none e np)]; exact a.kh q u nm e
  · rw [upd_ne (fun c => e (by rw [c]; exact np))]; exact a.lv q e
/-- bounds of what is guarded -/
structure GdOk (S : StM) : Prop where
  few : S.ms.length ≤ 100
  rows : ∀ s, (guardRows S.ms s).length ≤ 4000
theorem flat_take_le {α β : Type} (f : α → List β) (l : List α) (i : Nat) : ((l.take i).flatMap f).length ≤ (l.flatMap f).length := by
  have h : l.flatMap f = (l.take i).flatMap f ++ (l.drop i).flatMap f := by rw [← List.flatMap_append, List.take_append_drop]
  rw [h, List.length_append]
  omega
theorem flat_mem_le {α β : Type} (f : α → List β) : ∀ (l : List α) (x : α), x ∈ l → (f x).length ≤ (l.flatMap f).length
  | y :: r, x, m => by
    rw [List.flatMap_cons, List.length_append]
    rcases List.mem_cons.mp m with rfl | m
    · omega
    · have := flat_mem_le f r x m; omega
theorem srt2 {l m : List (Int × Int)} (hp : m.Perm l) (hs : srtP m) : m = sort2 l := sort2_unique hp (hs.imp fun {a b} h => by
  rw [pLe_iff]
  have h' : ¬ (b.1 < a.1 ∨ (b.1 = a.1 ∧ b.2 < a.2)) := fun w => by
    have := SrtO.lexB_iff.mpr w
    rw [h] at this
    cases this
  omega)
def spSGrd (K : PySem.W.Frag) (c : HCl) : Sp := fun vs H Q _ => ∃ (a : Addr) (s : Bool) (F : Hp) (S : StM), vs = [.ref a, .str (sdS s)] ∧ Fz F H ∧ StnR K F c a S ∧ GdOk S ∧
  ∀ F' H' p ws, Adv [] F H F' H' → H p = none → F' p = none → H' p = some (.lst ws) → RowsAt F' ws (guardsM S s) → Q (.ref p) H'
section
variable {P : Program} {w : World} {K : PySem.W.Frag} {mg : Str → Option Value} {base : Heap} {c : HCl}
theorem scSGrd : FnScope nsSGrd ["self", "side"] (defScope sSGrd) := ⟨rfl, rfl, rfl, by decide +kernel, rfl, by decide +kernel, by decide +kernel⟩
/-- machine.guarded(side), of either kind -/
theorem two_grd {σ : L2.St} {F H : Hp} {b : Addr} {m : MacM} {s : Bool} {i j : Nat} {Q : VK} (hi : σ[i]? = some (some (.ref b))) (hj : σ[j]? = some (some (.str (sdS s)))) (z : Fz F H) (hR : MacR K F c b m) (k : ∀ F' H' p, Adv [] F H F' H' → F' p = some (.lst ((guardM m s).map V.int)) → Q (.ref p) H') :
    tTwo (tMeth c.te "guarded" (spTGrd K c) [] E0 (tVar i) (tCons (tVar j) tNil)) (tMeth c.co "guarded" (spCGrd K c) [] E0 (tVar i) (tCons (tVar j) tNil)) σ H Q := by
  cases m with
  | tel t =>
    obtain ⟨dx, ab, ac, vb, vd, r, xs, h1, _⟩ := id hR
    exact .inl ⟨_, hi, b, dx, _, rfl, z.sm _ _ h1, rfl, _, hj, b, s, F, t, rfl, z, hR, k⟩
  | col t =>
    obtain ⟨dx, ab, al, vb, vd, h1, _⟩ := id hR
    exact .inr ⟨_, hi, b, dx, _, rfl, z.sm _ _ h1, rfl, _, hj, b, _, F, rfl, z, k⟩
theorem ok_SGrd {f : Addr} {fd : FuncData} (F : Fun K "guards" "Standing.guards" sSGrd f fd) (ms : mg "sorted" = none) (N : SnN K c.st) (NT : TeN K c.te) (NC : CoN K c.co) (NB : BdN K c.bg) (MT : MCal P w K mg base 1 c.te "guarded" ["self", "side"] (spTGrd K c)) (MC : MCal P w K mg base 1 c.co "guarded" ["self", "side"] (spCGrd K c)) :
    FnOk P w K mg base CX0 2 f fd ["self", "side"] (spSGrd K c) := by
  refine F.ok scSGrd (fun vs H Q E h => ?_) (fun cdv A outer s H vs Q E hr h => ?_)
  · obtain ⟨a, s, F, S, rfl, _⟩ := h
    rfl
  obtain ⟨a, s, F, S, rfl, z, hS, hg, q⟩ := h
  obtain ⟨dx, ad, tl, tr, tm, vs, h1, h2, h3, h4, h5, h6⟩ := hS
  have hvl := h6.len
  refine ⟨_, pss_cons (ps_set (i := 2) scSGrd.nd rfl (.inl rfl) (pe_lst pa_nil))
    (pss_cons (ps_for PassesOwn.never rfl (pi_tup (pe_fld (pv 0) rfl)) (pg_name (i := 3) scSGrd.nd rfl (.inr rfl))
      (pss_one (ps_expr (pe_bm PySem.F.plainAttrs_list PySem.F.slot_list_extend PySem.F.type_list_extend mt_extend (pv 2) (pa_cons
        (pe_lc (own := [("integer", 4)]) (g := gName 4) (tt := tYes) rfl scSGrd.nd (pi_list (pe_two (pe_meth (pv 3) NT.cl MT.m MT.G hr MT.b .nil pass0 (pa_cons (pv 1) pa_nil)) (pe_meth (pv 3) NC.cl MC.m MC.G hr MC.b .nil pass0 (pa_cons (pv 1) pa_nil))))
          (blkOk_by (N := nsSGrd) (sc := defScope sSGrd) (by decide +kernel)) (fun _ _ _ _ _ => pg_name (i := 4) scSGrd.nd rfl (.inl rfl)) (fun _ _ _ _ _ => pts_nil)
          (fun _ _ _ _ _ => pe_tup (pa_cons (pv 4) (pa_cons (show PE _ _ (tFld K (tFld K (tVar 3) "badge") "number") from pe_fld (pe_fld (pv 3) rfl) rfl) pa_nil)))) pa_nil)))))
    (pss_one (ps_ret (pe_callB cr_sortedPO (by rfl) ms (by decide +kernel) (pa_cons (pv 2) pa_nil))))), ?_⟩
  refine ⟨(by show 0 ≤ sizeLine; decide), fun D nD => ?_⟩
  have nDF : F D = none := z.out nD
  refine ⟨_, rfl, a, _, dx, _, _, rfl, by rw [upd_ne (ne_of_none (z.sm _ _ h1) nD)]; exact z.sm _ _ h1, N.cl, N.ms, rfl, tm, rfl, ⟨_, SqT.of (by rw [upd_ne (ne_of_none (z.sm _ _ h5) nD)]; exact z.sm _ _ h5)⟩, ?_⟩
  refine for_it (walk_tup (K := K) (a := tm) (xs := vs)) (fun i σ Hx => ∃ (s3 : Option V) (Fx : Hp) (ys : List V), σ = [some (.ref a), some (.str (sdS s)), some (.ref D), s3, none] ∧ Adv [] F H Fx Hx ∧ Fx D = none ∧ Hx D = some (.lst ys) ∧ RowsAt Fx ys (guardRows (S.ms.take i) s))
    ⟨none, F, [], rfl, Adv.put z nD trivial, nDF, upd_same, by rw [List.take_zero]; exact .nil⟩ (fun i σ Hx _ ⟨_, Fx, _, _, ax, _⟩ => SqT.of (ax.fz.sm _ _ (ax.same z _ _ h5))) ?_ ?_
  · rintro i x σ Hy Hx hi ⟨s3, Fx, ys, rfl, ax, nDx, eD, ry⟩ ⟨rfl, hx⟩
    obtain ⟨b, m, rfl, hm, hR⟩ := h6.get hx
    have sx := ax.same z
    have hRx := hR.same sx
    obtain ⟨dm, fs, ab, db, pv', g1, g2, g3, _⟩ := mac_ins hRx
    have mm : m ∈ S.ms := List.mem_of_getElem? hm
    have gl : (guardM m s).length ≤ 4000 := by
      have := flat_mem_le (fun m => (guardM m s).map fun z => (z, m.num)) S.ms m mm
      rw [List.length_map] at this
      exact Nat.le_trans this (hg.rows s)
    have rl : ys.length ≤ 4000 := by
      rw [ry.len]
      exact Nat.le_trans (flat_take_le _ _ _) (hg.rows s)
    refine ⟨_, rfl, .inl ⟨rfl, _, SqL.of eD⟩, ?_⟩
    refine two_grd (i := 3) (j := 1) rfl rfl ax.fz hRx fun F2 H2 p A2 eL => ?_
    have eLH := A2.fz.sm _ _ eL
    have s2 := A2.same ax.fz
    refine ⟨p, rfl, ⟨_, SqL.of eLH⟩, fun G nG => lc_it (walk_list (K := K) (a := p) (xs := (guardM m s).map V.int)) (fun j H' => Same H2 H' ∧ ∃ us, H' G = some (.lst us) ∧ us.length ≤ j ∧ RowsAt H' us (((guardM m s).take j).map fun z => (z, m.num)))
      ⟨same_new nG _, [], upd_same, Nat.le_refl _, by rw [List.take_zero]; exact .nil⟩ (fun j H' _ ⟨sj, _⟩ => SqL.of (sj _ _ eLH)) ?_ ?_⟩
    · rintro j y Hz H3 hj ⟨sj, us, eG, hul, ru⟩ ⟨rfl, hy⟩
      obtain ⟨n, hn, rfl⟩ := ints_get hy
      have hjl : j < (guardM m s).length := (List.getElem?_eq_some_iff.mp hn).1
      have b3 : Same F2 H3 := A2.fz.sm.trans sj
      obtain ⟨k1, k2⟩ := mac_cls NT NC m.isT
      refine ⟨rfl, ?_⟩
      dsimp only [tYes]
      rw [if_pos rfl]
      refine ⟨_, rfl, _, rfl, b, _, dm, _, _, rfl, b3 _ _ (s2 _ _ g1), k1, k2, g2, ab, _, db, _, _, rfl, b3 _ _ (s2 _ _ g3), NB.cl, NB.nu, rfl, (by show 2 ≤ sizeLine; decide), fun t nt => ?_⟩
      have u4 := same_new nt (.tup [.int n, .int m.num])
      have e4 : (upd H3 t (.tup [.int n, .int m.num])) t = some (.tup [.int n, .int m.num]) := upd_same
      have eG4 := u4 _ _ eG
      generalize upd H3 t (.tup [.int n, .int m.num]) = H4 at u4 e4 eG4 ⊢
      refine ⟨us, eG4, Nat.lt_of_le_of_lt (by omega : _ ≤ 100000) (by decide), same_upd (sj.trans u4) nG _, _, upd_same, ?_, ?_⟩
      · rw [List.length_append]; show us.length + 1 ≤ j + 1; omega
      · have k5 : KeepT H4 (upd H4 G (.lst (us ++ [.ref t]))) := KeepT.upd ⟨_, eG4⟩
        rw [take_snoc hn, List.map_append]
        exact ((ru.keep (KeepT.of u4)).keep k5).app (.one (k5.1 _ _ e4))
    · rintro H3 ⟨sj, us, eG, hul, ru⟩
      rw [List.length_map, List.take_length] at ru
      rw [List.length_map] at hul
      have A3 := A2.trans (Adv.of A2.fz sj)
      have AA := ax.trans A3
      have nD3 : extF F2 H2 H3 D = none := A3.off (some_ne eD) nDx
      have eD3 := sj _ _ (A2.kh D _ (by simp) eD)
      have ru3 : RowsAt (extF F2 H2 H3) us ((guardM m s).map fun z => (z, m.num)) := ru.keepA fun p us e => A3.fz.kt.1 _ _ e
      have ry3 : RowsAt (extF F2 H2 H3) ys (guardRows (S.ms.take i) s) := ry.keepA fun p us e => A3.same ax.fz _ _ e
      generalize extF F2 H2 H3 = F3 at A3 AA nD3 ru3 ry3
      refine ⟨D, G, ys, us, rfl, rfl, eD3, eG, Nat.le_trans (by omega : _ ≤ 100000) (by decide), _, F3, _, rfl, AA.touch nD nD3 trivial, nD3, upd_same, ?_⟩
      unfold guardRows
      rw [take_snoc hm, List.flatMap_append, List.flatMap_cons, List.flatMap_nil, List.append_nil]
      exact ry3.app ru3
  · rintro σ Hx ⟨s3, Fx, ys, rfl, ax, nDx, eD, ry⟩
    rw [hvl, List.take_length] at ry
    have ryH : RowsAt Hx ys (guardRows S.ms s) := ry.keepA fun p us e => ax.fz.sm _ _ e
    refine ⟨_, rfl, D, ys, keyV Hx, rfl, SqL.of eD, ryH.tups, fun ws p srt stb np => ?_⟩
    obtain ⟨g1, g2, g3⟩ := rows_sorted ryH srt stb.perm
    have A2 := ax.touch (ax.free np) (ax.fz.out np) (o := .lst ws) trivial
    refine q Fx _ p ws A2 (ax.free np) (ax.fz.out np) upd_same ?_
    rw [srt2 g2 g3] at g1
    exact g1.keepA fun p us e => ax.fz.kt.1 _ _ e
end
abbrev nsSBar : List Str := ["self", "machine", "side", "integer", "number"]
abbrev nsSNxt : List Str := ["self", "best", "machine", "ready"]
def rowF (F : Hp) (v : V) : Option (Int × Int) → Prop
  | none => v = .non
  | some r => ∃ t, v = .ref t ∧ F t = some (.tup [.int r.1, .int r.2])
def actF (F : Hp) (v : V) : Option (Int × Int × Int) → Prop
  | none => v = .non
  | some r => ∃ t, v = .ref t ∧ F t = some (.tup [.int r.1, .int r.2.1, .int r.2.2])
theorem actF.same {F F' : Hp} (s : Same F F') {v : V} {o : Option (Int × Int × Int)} (h : actF F v o) : actF F' v o := by
  cases o with
  | none => exact h
  | some r => obtain ⟨t, h1, h2⟩ := h; exact ⟨t, h1, s _ _ h2⟩
theorem rowV.toF {H H' F : Hp} (z : Fz F H') {v : V} {o : Option (Int × Int)} (h : rowV H H' v o) : rowF F v o := by
  cases o with
  | none => exact h
  | some r => obtain ⟨t, h1, _, h2⟩ := h; exact ⟨t, h1, z.kt.1 _ _ h2⟩
def spSBar (K : PySem.W.Frag) (c : HCl) : Sp := fun vs H Q _ => ∃ (a b : Addr) (F : Hp) (S : StM) (m : MacM), vs = [.ref a, .ref b] ∧ Fz F H ∧ StnR K F c a S ∧ MacR K F c b m ∧ GdOk S ∧
  ∀ F' H' p, Adv [] F H F' H' → H p = none → F' p = some (.lst ((barM S m).map V.int)) → Q (.ref p) H'
def spSNxt (K : PySem.W.Frag) (c : HCl) : Sp := fun vs H Q _ => ∃ (a : Addr) (F : Hp) (S : StM), vs = [.ref a] ∧ Fz F H ∧ StnR K F c a S ∧ GdOk S ∧ (∀ m ∈ S.ms, m.beg ≠ []) ∧ ∀ F' H' v, Adv [] F H F' H' → actF F' v (nextM S) → Q v H'
theorem bar_len {S : StM} (g : GdOk S) (m : MacM) : (barM S m).length ≤ 4000 := by
  unfold barM
  refine Nat.le_trans (uset_len _) ?_
  rw [List.length_map]
  refine Nat.le_trans (List.length_filter_le _ _) ?_
  unfold guardsM
  rw [(sort2_perm _).length_eq]
  exact g.rows _
theorem best_no {S : StM} {best : Option (Int × Int × Int)} {m : MacM} (e : readyM S.now (barM S m) m = none) : bestM S best m = best := by unfold bestM; rw [e]
theorem best_one {S : StM} {m : MacM} {r : Int × Int} (e : readyM S.now (barM S m) m = some r) : bestM S none m = some (r.1, m.num, r.2) := by unfold bestM; rw [e]
theorem best_lt {S : StM} {b : Int × Int × Int} {m : MacM} {r : Int × Int} (e : readyM S.now (barM S m) m = some r) (lt : r.1 < b.1) : bestM S (some b) m = some (r.1, m.num, r.2) := by unfold bestM; rw [e]; dsimp only; rw [if_pos lt]
theorem best_ge {S : StM} {b : Int × Int × Int} {m : MacM} {r : Int × Int} (e : readyM S.now (barM S m) m = some r) (lt : ¬ r.1 < b.1) : bestM S (some b) m = some b := by unfold bestM; rw [e]; dsimp only; rw [if_neg lt]
section
variable {P : Program} {w : World} {K : PySem.W.Frag} {mg : Str → Option Value} {base : Heap} {c : HCl}
theorem scSBar : FnScope nsSBar ["self", "machine"] (defScope sSBar) := ⟨rfl, rfl, rfl, by decide +kernel, rfl, by decide +kernel, by decide +kernel⟩
theorem ok_SBar {f : Addr} {fd : FuncData} (F : Fun K "barred" "Standing.barred" sSBar f fd) (ms : mg "sorted" = none) (N : SnN K c.st) (NT : TeN K c.te) (NC : CoN K c.co) (NB : BdN K c.bg) (MG : MCal P w K mg base 2 c.st "guards" ["self", "side"] (spSGrd K c)) :
    FnOk P w K mg base CX0 3 f fd ["self", "machine"] (spSBar K c) := by
  refine F.ok scSBar (fun vs H Q E h => ?_) (fun cdv A outer s H vs Q E hr h => ?_)
  · obtain ⟨a, b, F, S, m, rfl, _⟩ := h
    rfl
  obtain ⟨a, b, F, S, m, rfl, z, hS, hM, hg, q⟩ := h
  obtain ⟨dx, ad, tl, tr, tm, vs, h1, _⟩ := id hS
  obtain ⟨dm, fs, ab, db, pv', g1, g2, g3, _⟩ := mac_ins hM
  obtain ⟨k1, k2⟩ := mac_cls NT NC m.isT
  refine ⟨_, pss_cons (ps_set (i := 2) scSBar.nd rfl (.inl rfl) (pe_fld (pe_fld (pv 1) rfl) rfl))
    (pss_one (ps_ret (pe_callB (cr_sortedSetI rfl) (by rfl) ms (by decide +kernel) (pa_cons
      (pe_scI (own := [("integer", 3), ("number", 4)]) (g := gTup K 2 (gCons (gName 3) (gCons (gName 4) gNil))) rfl scSBar.nd (pi_list (pe_meth (pv 0) N.cl MG.m MG.G hr MG.b .nil pass0 (pa_cons (pv 2) pa_nil))) (blkOk_by (N := nsSBar) (sc := defScope sSBar) (by decide +kernel))
        (fun _ _ _ _ _ => pg_tup (by rfl) (pgs_cons (pg_name (i := 3) scSBar.nd rfl (.inl rfl)) (pgs_cons (pg_name (i := 4) scSBar.nd rfl (.inl rfl)) pgs_nil)))
        (fun _ _ _ _ _ => pts_one (pt_cmpR op_lt (pv 4) (show PE _ _ (tFld K (tFld K (tVar 1) "badge") "number") from pe_fld (pe_fld (pv 1) rfl) rfl) (nomark _)))
        (fun _ _ _ _ _ => pv 3)) pa_nil)))), ?_⟩
  have sm := z.sm
  refine ⟨_, rfl, b, _, dm, _, _, rfl, sm _ _ g1, k1, k2, g2, ab, _, db, _, _, rfl, sm _ _ g3, NB.cl, NB.sd, rfl, ?_⟩
  refine ⟨_, rfl, a, dx, _, rfl, sm _ _ h1, rfl, _, rfl, a, m.sd, F, S, rfl, z, hS, hg, fun F1 H1 G ws A1 nG nG1 eG rw' => ?_⟩
  have s1 := A1.same z
  have rl := rw'.len
  have gl : (guardsM S m.sd).length ≤ 4000 := by unfold guardsM; rw [(sort2_perm _).length_eq]; exact hg.rows _
  refine ⟨G, rfl, ⟨_, SqL.of eG⟩, fun D nD => sc_it (K := K) (a := G) (xs := ws) (fun i H' => Same H1 H' ∧ ∃ (Sf : Int → Bool) (n : Nat), H' D = some (SetO w D Sf n) ∧ n ≤ i ∧ ∀ k, Sf k = true ↔ k ∈ (((guardsM S m.sd).take i).filter fun r => decide (r.2 < m.num)).map (·.1))
    ⟨same_new nD _, _, 0, upd_same, Nat.le_refl _, fun k => by simp⟩ (fun i H' _ ⟨si, _⟩ => SqL.of (si _ _ eG)) ?_ ?_⟩
  · rintro i x H2 hx ⟨s2, Sf, n, eD, hn, hS'⟩
    obtain ⟨p, r, rfl, er, ep⟩ := rw'.get hx
    have hil : i < (guardsM S m.sd).length := (List.getElem?_eq_some_iff.mp er).1
    have b2 : Same F H2 := fun q o e => s2 _ _ (A1.fz.sm _ _ (s1 _ _ e))
    refine ⟨p, _, rfl, SqT.of (s2 _ _ (A1.fz.sm _ _ ep)), rfl, _, _, rfl, _, _, rfl, rfl, rfl, ?_⟩
    refine ⟨_, rfl, _, rfl, b, _, dm, _, _, rfl, b2 _ _ g1, k1, k2, g2, ab, _, db, _, _, rfl, b2 _ _ g3, NB.cl, NB.nu, rfl, _, _, rfl, rfl, _, rfl, ?_⟩
    have step : (((guardsM S m.sd).take (i + 1)).filter fun r => decide (r.2 < m.num)) = (((guardsM S m.sd).take i).filter fun r => decide (r.2 < m.num)) ++ (if r.2 < m.num then [r] else []) := by
      rw [take_snoc er, List.filter_append]
      congr 1
      by_cases e : r.2 < m.num
      · simp [e]
      · simp [e]
    by_cases e : r.2 < m.num
    · rw [show decide (r.2 < m.b.num) = true from decide_eq_true e]
      refine iteT ⟨_, rfl, r.1, Sf, n, rfl, eD, by show n + 1 < 4096; omega, same_upd s2 nD _, _, _, upd_same, ?_, fun k => ?_⟩
      · split <;> omega
      · rw [step, if_pos e, List.map_append, List.mem_append, Bool.or_eq_true, hS' k, decide_eq_true_iff]
        simp
    · rw [show decide (r.2 < m.b.num) = false from decide_eq_false e]
      refine iteF ⟨s2, Sf, n, eD, by omega, fun k => ?_⟩
      rw [step, if_neg e, List.append_nil]
      exact hS' k
  · rintro H2 ⟨s2, Sf, n, eD, hn, hS'⟩
    rw [rl, List.take_length] at hS'
    refine ⟨D, Sf, n, rfl, eD, fun ns p up mem np => ?_⟩
    have A2 := A1.trans (Adv.of A1.fz s2)
    have A3 := A2.trans (Adv.new A2.fz np (.lst (ns.map V.int)))
    refine q _ _ p A3 (A2.free np) ?_
    rw [upd_same]
    have en : ns = barM S m := uset_unique up fun k => (mem k).trans (hS' k)
    rw [en]
/-- machine.ready(now, barred), of either kind -/
theorem two_rdy {σ : L2.St} {F H : Hp} {b : Addr} {m : MacM} {now : Int} {bar : List Int} {i : Nat} {t : TA} {Q : VK} (hi : σ[i]? = some (some (.ref b))) (z : Fz F H) (hR : MacR K F c b m) (nb : m.beg ≠ []) (hbl : bar.length ≤ 100000)
    (ht : ∀ R : List V → Hp → Prop, (∀ F1 H1 p, Adv [] F H F1 H1 → F1 p = some (.lst (bar.map V.int)) → R [.int now, .ref p] H1) → t σ H R) (k : ∀ F' H' v, Adv [] F H F' H' → rowF F' v (readyM now bar m) → Q v H') :
    tTwo (tMeth c.te "ready" (spTRdy K c) [] E0 (tVar i) t) (tMeth c.co "ready" (spCRdy K c) [] E0 (tVar i) t) σ H Q := by
  cases m with
  | tel m =>
    obtain ⟨dx, ab, ac, vb, vd, r, xs, h1, _⟩ := id hR
    refine .inl ⟨_, hi, b, dx, _, rfl, z.sm _ _ h1, rfl, ht _ fun F1 H1 p A1 ep => ?_⟩
    refine ⟨b, now, .ref p, F1, m, rfl, A1.fz.sm, TelR.same (A1.same z) hR, nb, fun H' v s' rv => ?_⟩
    have A2 := A1.trans (Adv.of A1.fz s')
    exact k _ _ v A2 (rv.toF A2.fz)
  | col m =>
    obtain ⟨dx, ab, al, vb, vd, h1, _⟩ := id hR
    refine .inr ⟨_, hi, b, dx, _, rfl, z.sm _ _ h1, rfl, ht _ fun F1 H1 p A1 ep => ?_⟩
    refine ⟨b, p, now, F1, m, bar, rfl, A1.fz.sm, ColR.same (A1.same z) hR, nb, SqL.of (A1.fz.sm _ _ ep), hbl, fun H' v s' rv => ?_⟩
    have A2 := A1.trans (Adv.of A1.fz s')
    exact k _ _ v A2 (rv.toF A2.fz)
theorem scSNxt : FnScope nsSNxt ["self"] (defScope sSNxt) := ⟨rfl, rfl, rfl, by decide +kernel, rfl, by decide +kernel, by decide +kernel⟩
theorem ok_SNxt {f : Addr} {fd : FuncData} (F : Fun K "next_act" "Standing.next_act" sSNxt f fd) (N : SnN K c.st) (NT : TeN K c.te) (NC : CoN K c.co) (NB : BdN K c.bg) (MB : MCal P w K mg base 3 c.st "barred" ["self", "machine"] (spSBar K c))
    (MT : MCal P w K mg base 1 c.te "ready" ["self", "now", "barred"] (spTRdy K c)) (MC : MCal P w K mg base 3 c.co "ready" ["self", "now", "barred"] (spCRdy K c)) : FnOk P w K mg base CX0 4 f fd ["self"] (spSNxt K c) := by
  refine F.ok scSNxt (fun vs H Q E h => ?_) (fun cdv A outer s H vs Q E hr h => ?_)
  · obtain ⟨a, F, S, rfl, _⟩ := h
    rfl
  obtain ⟨a, F, S, rfl, z, hS, hg, hb, q⟩ := h
  have hr1 : Room 1 _ := hr.mono (by decide)
  obtain ⟨dx, ad, tl, tr, tm, vs, h1, h2, h3, h4, h5, h6⟩ := id hS
  have hvl := h6.len
  refine ⟨_, pss_cons (ps_set (i := 1) scSNxt.nd rfl (.inl rfl) pe_non)
    (pss_cons (ps_for PassesOwn.never rfl (pi_tup (pe_fld (pv 0) rfl)) (pg_name (i := 2) scSNxt.nd rfl (.inl rfl))
      (pss_cons (ps_set (i := 3) scSNxt.nd rfl (.inl rfl) (pe_two (pe_meth (pv 2) NT.cl MT.m MT.G hr1 MT.b .nil pass0 (pa_cons (pe_fld (pv 0) rfl) (pa_cons (pe_meth (pv 0) N.cl MB.m MB.G hr MB.b .nil pass0 (pa_cons (pv 2) pa_nil)) pa_nil)))
          (pe_meth (pv 2) NC.cl MC.m MC.G hr MC.b .nil pass0 (pa_cons (pe_fld (pv 0) rfl) (pa_cons (pe_meth (pv 0) N.cl MB.m MB.G hr MB.b .nil pass0 (pa_cons (pv 2) pa_nil)) pa_nil)))))
      (pss_one (ps_if (PW.pt (pw_and (pt_cmpR op_notN (pv 3) pe_non (nomark _)) (pw_and1 (PW.pt (pw_or (pt_cmpR op_isN (pv 1) pe_non (nomark _)) (pw_or1 (pt_cmpR op_lt (pe_ix ix_tup (pv 3) pe_int (fun _ _ => rfl)) (pe_ix ix_tup (pv 1) pe_int (fun _ _ => rfl)) (nomark _))))))))
        (pss_one (ps_set (i := 1) scSNxt.nd rfl (.inl rfl) (pe_tup (pa_cons (pe_ix ix_tup (pv 3) pe_int (fun _ _ => rfl)) (pa_cons (pe_fld (pe_fld (pv 2) rfl) rfl) (pa_cons (pe_ix ix_tup (pv 3) pe_int (fun _ _ => rfl)) pa_nil))))))
        pss_nil))))
    (pss_one (ps_ret (pv 1)))), ?_⟩
  refine ⟨_, rfl, a, _, dx, _, _, rfl, z.sm _ _ h1, N.cl, N.ms, rfl, tm, rfl, ⟨_, SqT.of (z.sm _ _ h5)⟩, ?_⟩
  refine for_it (walk_tup (K := K) (a := tm) (xs := vs)) (fun i σ Hx => ∃ (v1 : V) (s2 s3 : Option V) (Fx : Hp), σ = [some (.ref a), some v1, s2, s3] ∧ Adv [] F H Fx Hx ∧ actF Fx v1 ((S.ms.take i).foldl (bestM S) none))
    ⟨.non, none, none, F, rfl, Adv.refl z, rfl⟩ (fun i σ Hx _ ⟨_, _, _, Fx, _, ax, _⟩ => SqT.of (ax.fz.sm _ _ (ax.same z _ _ h5))) ?_ ?_
  · rintro i x σ Hy Hx hi ⟨v1, s2, s3, Fx, rfl, ax, av⟩ ⟨rfl, hx⟩
    obtain ⟨b, m, rfl, hm, hR⟩ := h6.get hx
    have sx := ax.same z
    have hRx := hR.same sx
    have mm : m ∈ S.ms := List.mem_of_getElem? hm
    have step : (S.ms.take (i + 1)).foldl (bestM S) none = bestM S ((S.ms.take i).foldl (bestM S) none) m := by rw [take_snoc hm, List.foldl_append]; rfl
    obtain ⟨dm, fs, ab, db, pv', g1, g2, g3, _⟩ := mac_ins hRx
    obtain ⟨k1, k2⟩ := mac_cls NT NC m.isT
    refine two_rdy (i := 2) (now := S.now) (bar := barM S m) rfl ax.fz hRx (hb m mm) (Nat.le_trans (bar_len hg m) (by decide)) (fun R hRR => ?_) fun F2 H2 v A2 rv => ?_
    · refine ⟨_, rfl, a, _, dx, _, _, rfl, ax.fz.sm _ _ (sx _ _ h1), N.cl, N.nw, rfl, _, rfl, a, dx, _, rfl, ax.fz.sm _ _ (sx _ _ h1), rfl, _, rfl, a, b, Fx, S, m, rfl, ax.fz, hS.same sx, hRx, hg, fun F1 H1 p A1 _ ep => ?_⟩
      exact hRR F1 H1 p A1 ep
    · have s2' := A2.same ax.fz
      have AA := ax.trans A2
      have b2 := A2.fz.sm
      have keep : (readyM S.now (barM S m) m = none ∨ ∃ r bb, readyM S.now (barM S m) m = some r ∧ (S.ms.take i).foldl (bestM S) none = some bb ∧ ¬ r.1 < bb.1) → ∃ (v1' : V) (s2 s3 : Option V) (Fx : Hp), ([some (.ref a), some v1, some (.ref b), some v] : L2.St) = [some (.ref a), some v1', s2, s3] ∧ Adv [] F H Fx H2 ∧ actF Fx v1' ((S.ms.take (i + 1)).foldl (bestM S) none) := by
        intro hc
        refine ⟨v1, _, _, F2, rfl, AA, ?_⟩
        rw [step]
        have : bestM S ((S.ms.take i).foldl (bestM S) none) m = (S.ms.take i).foldl (bestM S) none := by
          rcases hc with e | ⟨r, bb, e, e2, lt⟩
          · exact best_no e
          · rw [e2]
            exact best_ge e lt
        rw [this]
        exact av.same s2'
      have put : ∀ r, readyM S.now (barM S m) m = some r → bestM S ((S.ms.take i).foldl (bestM S) none) m = some (r.1, m.num, r.2) → ∀ t0, v = .ref t0 → F2 t0 = some (.tup [.int r.1, .int r.2]) → ∀ D : L2.Ends, (∀ σ H', (∃ (v1' : V) (s2 s3 : Option V) (Fx : Hp), σ = [some (.ref a), some v1', s2, s3] ∧ Adv [] F H Fx H' ∧ actF Fx v1' ((S.ms.take (i + 1)).foldl (bestM S) none)) → D.nx σ H') →
          tAsg (tTup (tCons (tOp (rIxT K) (tVar 3) (tC (.int 0))) (tCons (tFld K (tFld K (tVar 2) "badge") "number") (tCons (tOp (rIxT K) (tVar 3) (tC (.int 1))) tNil)))) (gName 1) D [some (.ref a), some v1, some (.ref b), some v] H2 := by
        intro r er eb t0 ev et D hD
        subst ev
        refine ⟨_, rfl, t0, _, _, _, rfl, rfl, SqT.of (b2 _ _ et), atI_nat (j := 0) rfl, _, rfl, b, _, dm, _, _, rfl, b2 _ _ (s2' _ _ g1), k1, k2, g2, ab, _, db, _, _, rfl, b2 _ _ (s2' _ _ g3), NB.cl, NB.nu, rfl, _, rfl, t0, _, _, _, rfl, rfl, SqT.of (b2 _ _ et), atI_nat (j := 1) rfl, (by show 3 ≤ sizeLine; decide), fun t nt => ?_⟩
        refine hD _ _ ⟨.ref t, _, _, _, rfl, AA.trans (Adv.new A2.fz nt _), ?_⟩
        rw [step, eb]
        exact ⟨t, rfl, upd_same⟩
      refine ⟨_, rfl, rfl, _, rfl, ?_⟩
      cases er : readyM S.now (barM S m) m with
      | none =>
        rw [er] at rv
        subst rv
        exact ite2 (fun w => absurd w (by rw [decide_eq_true rfl]; decide)) (fun _ => iteF (keep (.inl er)))
      | some r =>
        rw [er] at rv
        obtain ⟨t0, rfl, et⟩ := rv
        refine ite2 (fun _ => ?_) (fun w => absurd (by rw [decide_eq_false (fun e => nomatch e)]; rfl) w)
        refine ⟨_, rfl, rfl, _, rfl, ?_⟩
        cases eb : (S.ms.take i).foldl (bestM S) none with
        | none =>
          rw [eb] at av
          have : v1 = .non := av
          subst this
          exact ite2 (fun _ => iteT (put r er (by rw [eb]; exact best_one er) t0 rfl et _ (by intro σ H' h; exact h))) (fun w => absurd (decide_eq_true rfl) w)
        | some bb =>
          rw [eb] at av
          obtain ⟨t1, rfl, e1⟩ := av
          refine ite2 (fun w => absurd (of_decide_eq_true w) (fun e => nomatch e)) (fun _ => ?_)
          refine ⟨_, rfl, t0, _, _, _, rfl, rfl, SqT.of (b2 _ _ et), atI_nat (j := 0) rfl, _, rfl, t1, _, _, _, rfl, rfl, SqT.of (b2 _ _ (s2' _ _ e1)), atI_nat (j := 0) rfl, _, _, rfl, rfl, _, rfl, ?_⟩
          by_cases lt : r.1 < bb.1
          · rw [decide_eq_true lt]
            exact iteT (put r er (by rw [eb]; exact best_lt er lt) t0 rfl et _ (by intro σ H' h; exact h))
          · rw [decide_eq_false lt]
            exact iteF (keep (.inr ⟨r, bb, er, eb, lt⟩))
  · rintro σ Hx ⟨v1, s2, s3, Fx, rfl, ax, av⟩
    rw [hvl, List.take_length] at av
    exact ⟨_, rfl, q Fx Hx v1 ax av⟩
end
end My

namespace My
open PySem PySem.Spec PyProof.Rows L2
/-! ### {**d, k: v}: a dict that begins with the entries of another -/
section
variable {P : Program} {w : World} {A : Around} {E : Value → Shared → Prop} {s : Shared}
abbrev mk2 (P : Program) (w : World) := mixKind P w
theorem dput_ok {d : Addr} {kvs : List (Key × Value)} {k : Key} {key v : Value} {Q : Unit → Shared → Prop} (hkey : (mk2 P w).is k key = true) (hm : s.heap.DictOf (mk2 P w) d kvs) (hsz : kvs.length ≤ sizeLine)
    (hQ : ∀ h', h'.DictOf (mk2 P w) d (stored kvs k v) → Heap.SameBut d s.heap h' → Q () { s with heap := h' }) : wpAny (model P w) A (dictPut d ((mk2 P w).hash k) key v) Q E s := by
  obtain ⟨o, es, ep, ho, hc, hd, hk, hp, nd⟩ := hm
  have le : es.size ≤ sizeLine := by
    have h1 := hp.length
    rw [Array.length_toList] at h1
    omega
  have same : (es.findIdx? fun e => (mk2 P w).is k e.key) = kvs.findIdx? fun kv => decide (kv.1 = k) := by
    have h := hp.findIdx k
    obtain ⟨l⟩ := es
    simpa using h
  unfold dictPut
  refine wpAny_bind (wpAny_dictFind_of hkey ho hd hk ?_)
  cases hi : es.findIdx? fun e => (mk2 P w).is k e.key with
  | some i =>
    have there : (kvs.any fun kv => decide (kv.1 = k)) = true := any_of_findIdx_some (same ▸ hi)
    refine wpAny_updateDict ho hd (hQ _ ⟨_, _, ep, Heap.get?_update_self _ ho (Obj.isFreed_of_dict (Obj.data_mapDict hd _)), hc.mapDict _, Obj.data_mapDict hd _, hk.modify _ _, ?_, ?_⟩ (Heap.SameBut.update ..))
    · have hl : (es.toList.findIdx? fun e => (mk2 P w).is k e.key) = some i := by rw [← hi]; obtain ⟨l⟩ := es; simp
      have h := hp.modify nd hl v
      unfold stored
      rw [if_pos there]
      obtain ⟨l⟩ := es
      simpa using h
    · unfold stored
      rw [if_pos there, keys_map_store]
      exact nd
  | none =>
    have away : k ∉ kvs.map (·.1) := not_mem_of_findIdx_none (same ▸ hi)
    have nany : ¬ (kvs.any fun kv => decide (kv.1 = k)) = true := fun z => by
      obtain ⟨kv, m, e⟩ := List.any_eq_true.mp z
      exact away (List.mem_map.mpr ⟨kv, m, of_decide_eq_true e⟩)
    refine wpAny_updateDictKeys (hz := le) ho hd (hQ _ ⟨_, _, ep + 1, Heap.get?_update_self _ ho (Obj.isFreed_of_dict (Obj.data_mapDictKeys hd _)), hc.mapDictKeys _, Obj.data_mapDictKeys hd _, hk.push hkey _, ?_, ?_⟩ (Heap.SameBut.update ..))
    · unfold stored
      rw [if_neg nany]
      have h := hp.append hkey ((mk2 P w).hash k) v
      obtain ⟨l⟩ := es
      simpa using h
    · unfold stored
      rw [if_neg nany, List.map_append, List.nodup_append]
      refine ⟨nd, by simp, fun x mx y my e => ?_⟩
      have ey : y = k := by simpa using my
      exact away (by rw [← ey, ← e]; exact mx)
/-- a loop over the numbers below n -/
theorem forIn_range_ok {M : Model} (f : Nat → PUnit → Sem (ForInStep PUnit)) (I : Nat → Shared → Prop) (n : Nat) (hf : ∀ i s, i < n → I i s → wpAny M A (f i PUnit.unit) (fun r s' => r = .yield PUnit.unit ∧ I (i + 1) s') E s) (h0 : I 0 s) : wpAny M A (forIn (List.range n) PUnit.unit f) (fun _ s' => I n s') E s := by
  have gen : ∀ (m k : Nat) (s : Shared), k + m = n → I k s → wpAny M A (forIn (List.range' k m) PUnit.unit f) (fun _ s' => I n s') E s := by
    intro m
    induction m with
    | zero =>
      intro k s e h
      have ek : k = n := by omega
      subst ek
      rw [List.range'_zero, List.forIn_nil]
      exact wpAny_pure h
    | succ m ih =>
      intro k s e h
      rw [List.range'_succ, List.forIn_cons]
      refine wpAny_bind (wpAny_mono (hf k s (by omega) h) (fun r s' hr => ?_) fun _ _ x => x)
      obtain ⟨rfl, h'⟩ := hr
      exact ih (k + 1) s' (by omega) h'
  rw [List.range_eq_range']
  exact gen n 0 s (by omega) h0
theorem pairs_at : ∀ {es : List DictEntry} {kvs : List (Key × Value)}, Pairs (mk2 P w) es kvs → ∀ (i : Nat) (e : DictEntry), es[i]? = some e → ∃ kv, kvs[i]? = some kv ∧ (mk2 P w).is kv.1 e.key = true ∧ e.val = kv.2
  | _, _, .cons h1 h2 t, 0, e, he => by cases he; exact ⟨_, rfl, h1, h2⟩
  | _, _, .cons _ _ t, i + 1, e, he => by
    rw [List.getElem?_cons_succ] at he
    obtain ⟨kv, h⟩ := pairs_at t i e he
    exact ⟨kv, by rw [List.getElem?_cons_succ]; exact h.1, h.2⟩
theorem merged_snoc (acc rs : List (Key × Value)) (x : Key × Value) : merged acc (rs ++ [x]) = stored (merged acc rs) x.1 x.2 := by
  induction rs generalizing acc with
  | nil => rfl
  | cons y r ih => exact ih (stored acc y.1 y.2)
theorem stored_le (acc : List (Key × Value)) (k : Key) (v : Value) : (stored acc k v).length ≤ acc.length + 1 := by
  unfold stored
  split
  · rw [List.length_map]; omega
  · rw [List.length_append]; exact Nat.le_refl _
theorem merged_le : ∀ (rs acc : List (Key × Value)), (merged acc rs).length ≤ acc.length + rs.length
  | [], acc => Nat.le_refl _
  | x :: r, acc => by
    have h1 := merged_le r (stored acc x.1 x.2)
    have h2 := stored_le acc x.1 x.2
    rw [List.length_cons]
    show (merged (stored acc x.1 x.2) r).length ≤ _
    omega
theorem ite_pre {M : Model} {α : Type} {c : Prop} [Decidable c] {x : Sem α} {y : α → Sem PUnit} {n : Sem Unit} {Q : Unit → Shared → Prop} (hp : ∀ Q' : PUnit → Shared → Prop, Q' PUnit.unit s → wpAny M A x (fun a s' => wpAny M A (y a) Q' E s') E s) (h : wpAny M A n Q E s) :
    wpAny M A (if c then x >>= fun a => y a >>= fun _ => n else n) Q E s := by
  by_cases e : c
  · rw [if_pos e]
    exact wpAny_bind (wpAny_mono (hp (fun _ s' => wpAny M A n Q E s') h) (fun a s' h' => wpAny_bind h') fun _ _ z => z)
  · rw [if_neg e]
    exact h
theorem skip_ok {M : Model} {β : Type} {f : β → PUnit → Sem (ForInStep PUnit)} {Q : PUnit → Shared → Prop} : ∀ {l : List β}, (∀ e ∈ l, f e PUnit.unit = pure (.yield PUnit.unit)) → Q PUnit.unit s → wpAny M A (forIn l PUnit.unit f) Q E s
  | [], _, h => by rw [List.forIn_nil]; exact wpAny_pure h
  | e :: r, hf, h => by
    rw [List.forIn_cons, hf e (List.mem_cons_self ..)]
    exact wpAny_bind (wpAny_pure (skip_ok (fun e' m => hf e' (List.mem_cons_of_mem _ m)) h))
/-- the entries of a take over into d -/
theorem merge_ok {d a : Addr} {kd ka : List (Key × Value)} {Q : Unit → Shared → Prop} (ne : a ≠ d) (low : (a == sysModules) = false) (hd : s.heap.DictOf (mk2 P w) d kd) (ha : s.heap.DictOf (mk2 P w) a ka) (hz : kd.length + ka.length ≤ sizeLine)
    (noref : ∀ (k : Key) (x : Addr), (mk2 P w).is k (.ref x) = false)
    (hQ : ∀ h', h'.DictOf (mk2 P w) d (merged kd ka) → Heap.SameBut d s.heap h' → Q () { s with heap := h' }) : wpAny (model P w) A (mergeMapping d (.ref a) false) Q E s := by
  obtain ⟨oa, ea, pa, hoa, hca, hda, hka, hpa, nda⟩ := id ha
  obtain ⟨od, ed, pd, hod, hcd, hdd, hkd, hpd, ndd⟩ := id hd
  have ty : s.TypeIs (.ref a) "dict" := ⟨oa, hoa, hca.1⟩
  have plen := hpa.length
  rw [Array.length_toList] at plen
  unfold mergeMapping
  refine wpAny_bind (wpAny_isInstance (b := true) ty (by rw [isSubtype_type]; kernel_rfl) ?_)
  rw [if_pos rfl]
  refine wpAny_bind (wpAny_specialOf ty PySem.F.slot_dict_iter.lookup ?_)
  refine wpAny_bind (wpAny_pure ?_)
  have e0 : (some (Value.builtin "dict.__iter__") == some (Value.builtin "dict.__iter__")) = true := beq_self_eq_true _
  rw [e0]
  dsimp only
  rw [if_neg (by rw [low]; exact Bool.false_ne_true)]
  refine wpAny_bind (wpAny_dictEntries hod hdd ?_)
  have keys : ∀ e ∈ ea.toList, ∃ k, (mk2 P w).is k e.key = true := fun e me => by
    obtain ⟨k, h, _⟩ := hka e (Array.mem_toList_iff.mp me)
    exact ⟨k, h⟩
  refine ite_pre (fun Q' h' => wpAny_dictEntries hoa hda ?_) ?_
  · rw [← Array.forIn_toList]
    refine skip_ok (fun e me => ?_) h'
    obtain ⟨k, h⟩ := keys e me
    cases ek : e.key with
    | ref x => rw [ek, noref] at h; cases h
    | _ => rfl
  refine wpAny_bind (wpAny_dictEntries hoa hda ?_)
  refine wpAny_bind (wpAny_dictEpoch hoa hda ?_)
  refine wpAny_bind (wpAny_mono (forIn_range_ok _ (fun i s' => s'.gens = s.gens ∧ s'.os = s.os ∧ s'.toks = s.toks ∧ s'.drawn = s.drawn ∧ Heap.SameBut d s.heap s'.heap ∧ s'.heap.DictOf (mk2 P w) d (merged kd (ka.take i))) ea.size (fun i s' hi ⟨g1, g2, g3, g4, sb, dd⟩ => ?_) ⟨rfl, rfl, rfl, rfl, Heap.SameBut.refl _ _, by rw [List.take_zero]; exact hd⟩) (fun _ s' h => ?_) fun _ _ z => z)
  · have at1 : s'.heap.get? a = some oa := (sb.2 a ne).trans hoa
    have ei : ea[i]? = some ea[i] := Array.getElem?_eq_getElem hi
    have el : ea.toList[i]? = some ea[i] := by rw [Array.getElem?_toList]; exact ei
    obtain ⟨kv, ekv, isk, ev⟩ := pairs_at hpa i _ el
    have mem : ea[i] ∈ ea := Array.getElem_mem hi
    obtain ⟨k', isk', hh⟩ := hka _ mem
    have ek : k' = kv.1 := (mk2 P w).inj _ _ _ isk' isk
    subst ek
    refine wpAny_bind (wpAny_dictEntries at1 hda ?_)
    rw [ei]
    dsimp only
    rw [hh, ev]
    have lz : (merged kd (ka.take i)).length ≤ sizeLine := by
      have h1 := merged_le (ka.take i) kd
      rw [List.length_take] at h1
      omega
    refine wpAny_bind (wpAny_holding ?_)
    rw [if_neg Bool.false_ne_true]
    refine dput_ok isk dd lz fun h' dd' sb' => ?_
    have at2 : ({ s' with heap := h' } : Shared).heap.get? a = some oa := (sb'.2 a ne).trans at1
    refine wpAny_bind (wpAny_dictEpoch at2 hda ?_)
    rw [if_neg (by simp)]
    refine wpAny_pure ⟨rfl, g1, g2, g3, g4, sb.trans sb', ?_⟩
    rw [take_snoc ekv, merged_snoc]
    exact dd'
  · obtain ⟨g1, g2, g3, g4, sb, dd⟩ := h
    rw [plen, List.take_length] at dd
    obtain ⟨h', g', d', t', o'⟩ := s'
    simp only at g1 g2 g3 g4
    subst g1 g2 g3 g4
    exact wpAny_pure (hQ h' dd sb)
end
end My

namespace My
open PySem PySem.Spec PyProof.Rows L2
theorem relV_isKey {P : Program} {w : World} {k : Key} {u : Value} (h : RelV (kV k) u) : (mk2 P w).is k u = true := by
  cases k with
  | inl n => obtain ⟨t, rfl⟩ := h; exact decide_eq_true rfl
  | inr z => obtain ⟨t, rfl⟩ := h; exact decide_eq_true rfl
section
variable {X : Cx}
/-- {**e, k: v} -/
def tStarD (te tk tv : TE) : TE := fun σ H Q => ∀ d, H d = none → te σ (upd H d (.dK [])) fun x H1 => ∃ (a : Addr) (kvs : List (Key × V)), x = .ref a ∧ a ≠ d ∧ H1 a = some (.dK kvs) ∧ H1 d = some (.dK []) ∧ kvs.length ≤ 1000 ∧
  ∀ p, (upd H1 d (.dK (mergeK [] kvs))) p = none → tk σ (upd (upd H1 d (.dK (mergeK [] kvs))) p (.dK [])) fun x H2 => tv σ H2 fun v H3 => ∃ key : Key, x = kV key ∧ H3 p = some (.dK []) ∧ H3 d = some (.dK (mergeK [] kvs)) ∧
    Q (.ref d) (upd (upd H3 p (.dK (putK [] key v))) d (.dK (putK (mergeK [] kvs) key v)))
theorem pe_starD {e k v : Expr} {pos : Pos} {te tk tv : TE} (he : PE X e te) (hk : PE X k tk) (hv : PE X v tv) : PE X (.Dict [none, some k] [e, v] pos) (tStarD te tk tv) := by
  refine ⟨fun pins s σ H Q I want => ?_⟩
  rw [arm_eval_Dict]
  refine wpAny_bind (wpAny_standAt ?_)
  show wpAny _ _ (dictDisplay [(none, do let x ← eval e X.env; standAt pos; pure x), (some (eval k X.env), do let x ← eval v X.env; standAt pos; pure x)]) _ _ s
  unfold dictDisplay
  simp only [List.forIn_cons, List.forIn_nil]
  refine wpAny_bind (wpAny_bind (wpAny_bind ?_))
  rw [if_pos (show ([] : List (Sem Value × Sem Value)).isEmpty = true from rfl)]
  refine wpAny_pure ?_
  dsimp only
  refine wpAny_bind (wpAny_alloc ?_)
  have nd := I.hok.fresh (Nat.le_refl s.heap.objs.size)
  have J1 := I.laid (a := s.heap.objs.size) (o := .dK []) (h' := s.heap.push { cls := .type "dict", data := .dict #[] }) (t' := s.toks) (fun _ _ q => Heap.get?_push_of_some _ q) (Nat.le_refl _) (dk_empty s.heap I.big)
  generalize hD : s.heap.objs.size = d at nd J1 ⊢
  refine wpAny_bind (wpAny_holding (wpAny_bind (thn (he.run pins _ σ _ _ J1 (want d nd)) fun u s1 ⟨x, H1, J2, rx, a, kvs, ex, nad, ea, ed, few, rest⟩ => wpAny_bind (wpAny_standAt (wpAny_pure ?_)))))
  subst ex
  obtain rfl : u = Value.ref a := rx
  have noref : ∀ (k : Key) (x : Addr), (mk2 X.prog X.w).is k (.ref x) = false := fun k x => by cases k <;> rfl
  obtain ⟨zd, lowd, vd, rd, dd⟩ := dk_of J2.hok ed
  obtain ⟨za, lowa, va, ra, da⟩ := dk_of J2.hok ea
  cases rd
  have hza : va.length = kvs.length := ra.length.symm
  refine wpAny_bind (wpAny_onRaise (wpAny_tryCatch (wpAny_onRaise (wpAny_holding (merge_ok nad lowa dd da (by rw [List.length_nil, hza, sizeLine_eq]; omega) noref fun h2 dd2 sb2 => ?_)))))
  refine wpAny_pure ?_
  dsimp only
  have J3 : L2.Inv X pins σ (upd H1 d (.dK (mergeK [] kvs))) { s1 with heap := h2, toks := s1.toks } :=
    d_write J2 (by rw [ed]; exact True.intro) sb2 (by obtain ⟨o, _, _, ho, _⟩ := dd2; exact ⟨o, ho⟩) (dk_new (by have := length_mergeK kvs []; rw [List.length_nil] at this; rw [sizeLine_eq]; omega) lowd (ra.merge .nil) dd2)
  refine wpAny_bind ?_
  rw [if_neg (by simp)]
  refine wpAny_pure ?_
  dsimp only
  refine wpAny_pure ?_
  dsimp only
  refine wpAny_bind ?_
  rw [if_neg (by simp)]
  have np := J3.hok.fresh (Nat.le_refl h2.objs.size)
  have J4 := J3.laid (a := h2.objs.size) (o := .dK []) (h' := h2.push { cls := .type "dict", data := .dict #[] }) (t' := s1.toks) (fun _ _ q => Heap.get?_push_of_some _ q) (Nat.le_refl _) (dk_empty h2 J3.big)
  refine wpAny_bind (wpAny_holding (wpAny_subDict (knd := mk2 X.prog X.w) (by simp) ?_))
  show wpAny _ _ (evalPairs [(eval k X.env, do let x ← eval v X.env; standAt pos; pure x)]) _ _ _
  have hp : ({ heap := h2, gens := s1.gens, drawn := s1.drawn, toks := s1.toks, os := s1.os } : Shared).heap.objs.size = h2.objs.size := rfl
  rw [hp]
  have npd : h2.objs.size ≠ d := fun e => by rw [e, upd_same] at np; cases np
  generalize h2.objs.size = p at np J4 npd ⊢
  refine evalPairs_cons (thn (hk.run pins _ σ _ _ J4 (rest p np)) fun ku s3 ⟨x3, H3, J5, rk, q3⟩ => wpAny_bind (thn (hv.run pins s3 σ H3 _ J5 q3) fun vu s4 ⟨y, H4, J6, ry, key, ekey, ep, ed4, q4⟩ => wpAny_bind (wpAny_standAt (wpAny_pure (evalPairs_nil ?_)))))
  subst ekey
  obtain ⟨zp, lowp, vp, rp, dp⟩ := dk_of J6.hok ep
  cases rp
  refine ⟨[(key, vu)], ⟨relV_isKey rk, rfl, trivial⟩, dp, fun h5 dd5 sb5 => ?_⟩
  have ksz : (putK ([] : List (Key × V)) key y).length ≤ 1 := by show ([] ++ [(key, y)] : List (Key × V)).length ≤ 1; simp
  have J7 : L2.Inv X pins σ (upd H4 p (.dK (putK [] key y))) { s4 with heap := h5, toks := s4.toks + 1 } :=
    d_write J6 (by rw [ep]; exact True.intro) sb5 (by obtain ⟨o, _, _, ho, _⟩ := dd5; exact ⟨o, ho⟩) (dk_new (by rw [sizeLine_eq]; omega) lowp (KV.put .nil key ry) dd5)
  have ed7 : (upd H4 p (.dK (putK [] key y))) d = some (.dK (mergeK [] kvs)) := by rw [upd_ne npd.symm]; exact ed4
  have ep7 : (upd H4 p (.dK (putK [] key y))) p = some (.dK (putK [] key y)) := upd_same
  obtain ⟨z7, low7, vd7, rd7, dd7⟩ := dk_of J7.hok ed7
  obtain ⟨z8, low8, vp7, rp7, dp7⟩ := dk_of J7.hok ep7
  have l1 := rd7.length
  have l2 := rp7.length
  have l3 := length_mergeK kvs []
  rw [List.length_nil] at l3
  refine wpAny_bind (wpAny_onRaise (wpAny_holding (merge_ok npd low8 dd7 dp7 (by rw [sizeLine_eq]; omega) noref fun h9 dd9 sb9 => ?_)))
  have fin : mergeK (mergeK [] kvs) (putK [] key y) = putK (mergeK [] kvs) key y := rfl
  have J9 : L2.Inv X pins σ (upd (upd H4 p (.dK (putK [] key y))) d (.dK (putK (mergeK [] kvs) key y))) { ({ s4 with heap := h5, toks := s4.toks + 1 } : Shared) with heap := h9, toks := s4.toks + 1 } :=
    d_write J7 (by rw [ed7]; exact True.intro) sb9 (by obtain ⟨o, _, _, ho, _⟩ := dd9; exact ⟨o, ho⟩) (dk_new (by rw [← fin]; have := length_mergeK (putK [] key y) (mergeK [] kvs); rw [sizeLine_eq]; omega) low7 (by rw [← fin]; exact rp7.merge rd7) dd9)
  refine wpAny_pure ?_
  dsimp only
  exact wpAny_pure ⟨.ref d, _, J9, rfl, q4⟩
end
/-! ### an act: helpers -/
theorem lmax_mem : ∀ (l : List Int) (x : Int), lmax x l ∈ x :: l ∧ ∀ y ∈ x :: l, y ≤ lmax x l
  | [], x => ⟨List.mem_cons_self .., fun y m => by rw [List.mem_singleton.mp m]; exact Int.le_refl _⟩
  | a :: r, x => by
    have e : lmax x (a :: r) = lmax (if a > x then a else x) r := rfl
    obtain ⟨h1, h2⟩ := lmax_mem r (if a > x then a else x)
    rw [e]
    refine ⟨?_, fun y m => ?_⟩
    · rcases List.mem_cons.mp h1 with h | h
      · rw [h]
        split
        · exact List.mem_cons_of_mem _ (List.mem_cons_self ..)
        · exact List.mem_cons_self ..
      · exact List.mem_cons_of_mem _ (List.mem_cons_of_mem _ h)
    · have h3 := h2 _ (List.mem_cons_self ..)
      rcases List.mem_cons.mp m with rfl | m
      · generalize lmax (if a > y then a else y) r = M at h3 ⊢
        split at h3 <;> omega
      · rcases List.mem_cons.mp m with rfl | m
        · generalize lmax (if y > x then y else x) r = M at h3 ⊢
          split at h3 <;> omega
        · exact h2 y (List.mem_cons_of_mem _ m)
theorem lmax_unique {x m : Int} {l : List Int} (h1 : m ∈ x :: l) (h2 : ∀ y ∈ x :: l, y ≤ m) : m = lmax x l := by
  obtain ⟨g1, g2⟩ := lmax_mem l x
  have a := g2 m h1
  have b := h2 _ g1
  omega
theorem turns_snoc (now num z : Int) (s : Bool) (p : List Int × List Int) (act : MacM) : ∀ (l : List MacM) (mk : Int) (m : MacM),
    turnsM now num z s p act mk (l ++ [m]) = ((turnsM now num z s p act mk l).1 ++ [(turnM now num z s p act (turnsM now num z s p act mk l).2 m).1], (turnM now num z s p act (turnsM now num z s p act mk l).2 m).2)
  | [], mk, m => rfl
  | x :: r, mk, m => by
    have ih := turns_snoc now num z s p act r (turnM now num z s p act mk x).2 m
    show ((turnM now num z s p act mk x).1 :: (turnsM now num z s p act (turnM now num z s p act mk x).2 (r ++ [m])).1, (turnsM now num z s p act (turnM now num z s p act mk x).2 (r ++ [m])).2) = _
    rw [ih]
    rfl
theorem turns_len (now num z : Int) (s : Bool) (p : List Int × List Int) (act : MacM) : ∀ (l : List MacM) (mk : Int), (turnsM now num z s p act mk l).1.length = l.length
  | [], _ => rfl
  | x :: r, mk => by
    show (_ :: (turnsM now num z s p act (turnM now num z s p act mk x).2 r).1).length = _
    rw [List.length_cons, List.length_cons, turns_len now num z s p act r]
theorem find_filter {α : Type} {q : α → Bool} : ∀ {l : List α} {a : α}, l.find? q = some a → ∃ r, l.filter q = a :: r
  | x :: r, a, h => by
    by_cases e : q x = true
    · rw [List.find?_cons_of_pos e] at h
      cases h
      exact ⟨_, List.filter_cons_of_pos e⟩
    · rw [List.find?_cons_of_neg e] at h
      obtain ⟨r', h'⟩ := find_filter h
      exact ⟨r', by rw [List.filter_cons_of_neg e]; exact h'⟩
theorem sets_put (tl tr t : Addr) (s : Bool) : putK (mergeK [] (setsD tl tr)) (Sum.inr (sdS s) : Key) (.ref t) = setsD (if s = true then tl else t) (if s = true then t else tr) := by
  have rl : ¬ (Sum.inr ("right" : Str) : Key) = Sum.inr ("left" : Str) := fun e => lr_ne e.symm
  have ls : ¬ ("left" : Str) = ("right" : Str) := by decide +kernel
  have sl : ¬ ("right" : Str) = ("left" : Str) := by decide +kernel
  have e1 : mergeK [] (setsD tl tr) = setsD tl tr := by
    simp [mergeK, setsD, putK, ls]
  rw [e1]
  cases s
  · have : sdS false = "left" := rfl
    rw [this]
    simp [setsD, putK, ls, sl]
  · have : sdS true = "right" := rfl
    rw [this]
    simp [setsD, putK, ls, sl]
/-- what an act asks of a machine -/
def MacB : MacM → Prop
  | .tel t => cdOk "teller" t.code ∧ t.beg.length ≤ 900000 ∧ t.don.length ≤ 900000
  | .col m => LpOk m.L ∧ m.don.length ≤ 900000
section
variable {P : Program} {w : World} {K : PySem.W.Frag} {mg : Str → Option Value} {base : Heap} {c : HCl} {σ : L2.St} {F H : Hp} {b : Addr} {m : MacM} {i : Nat} {t : TA} {Q : VK}
theorem two_goal (hi : σ[i]? = some (some (.ref b))) (z : Same F H) (hR : MacR K F c b m) (k : Q (.str (sdS (goalM m))) H) :
    tTwo (tMeth c.te "goal" (spTGoal K c) [] E0 (tVar i) tNil) (tMeth c.co "goal" (spCGoal K c) [] E0 (tVar i) tNil) σ H Q := by
  cases m with
  | tel t =>
    obtain ⟨dx, ab, ac, vb, vd, r, xs, h1, _⟩ := id hR
    exact .inl ⟨_, hi, b, dx, _, rfl, z _ _ h1, rfl, b, F, t, rfl, z, hR, k⟩
  | col t =>
    obtain ⟨dx, ab, al, vb, vd, h1, _⟩ := id hR
    exact .inr ⟨_, hi, b, dx, _, rfl, z _ _ h1, rfl, b, F, t, rfl, z, hR, k⟩
theorem two_act {now x : Int} (hi : σ[i]? = some (some (.ref b))) (z : Fz F H) (hR : MacR K F c b m) (hb : MacB m) (ht : ∀ R : List V → Hp → Prop, R [.int now, .int x] H → t σ H R) (k : ∀ F' H' p, Adv [] F H F' H' → MacR K F' c p (actedM m now x) → Q (.ref p) H') :
    tTwo (tMeth c.te "acted" (spTAct K c) [] E0 (tVar i) t) (tMeth c.co "acted" (spCAct K c) [] E0 (tVar i) t) σ H Q := by
  cases m with
  | tel m =>
    obtain ⟨dx, ab, ac, vb, vd, r, xs, h1, _⟩ := id hR
    exact .inl ⟨_, hi, b, dx, _, rfl, z.sm _ _ h1, rfl, ht _ ⟨b, now, x, F, m, rfl, z, hR, Nat.le_trans hb.2.2 (by decide), k⟩⟩
  | col m =>
    obtain ⟨dx, ab, al, vb, vd, h1, _⟩ := id hR
    exact .inr ⟨_, hi, b, dx, _, rfl, z.sm _ _ h1, rfl, ht _ ⟨b, now, x, F, m, rfl, z, hR, Nat.le_trans hb.2 (by decide), k⟩⟩
theorem two_tol {s : Bool} {x : Int} {tm : Addr} {ms : List Int} (hi : σ[i]? = some (some (.ref b))) (z : Fz F H) (hR : MacR K F c b m) (hb : MacB m) (hx : x.natAbs < 2 ^ 300) (hm : F tm = some (.tup (ms.map V.int))) (hml : ms.length ≤ 1000000)
    (ht : ∀ R : List V → Hp → Prop, R [.str (sdS s), .int x, .ref tm] H → t σ H R) (k : ∀ F' H' p, Adv [] F H F' H' → MacR K F' c p (toldM m s x ms) → Q (.ref p) H') :
    tTwo (tMeth c.te "told" (spTTol K c) [] E0 (tVar i) t) (tMeth c.co "told" (spCTol K c) [] E0 (tVar i) t) σ H Q := by
  cases m with
  | tel m =>
    obtain ⟨dx, ab, ac, vb, vd, r, xs, h1, _⟩ := id hR
    exact .inl ⟨_, hi, b, dx, _, rfl, z.sm _ _ h1, rfl, ht _ ⟨b, tm, s, x, F, m, ms, rfl, z, hR, hb.1, hm, hml, k⟩⟩
  | col m =>
    obtain ⟨dx, ab, al, vb, vd, h1, _⟩ := id hR
    exact .inr ⟨_, hi, b, dx, _, rfl, z.sm _ _ h1, rfl, ht _ ⟨b, tm, s, x, F, m, rfl, z, hR, hb.1, hx, k⟩⟩
theorem two_grdT {s : Bool} (hi : σ[i]? = some (some (.ref b))) (z : Fz F H) (hR : MacR K F c b m) (ht : ∀ R : List V → Hp → Prop, R [.str (sdS s)] H → t σ H R) (k : ∀ F' H' p, Adv [] F H F' H' → F' p = some (.lst ((guardM m s).map V.int)) → Q (.ref p) H') :
    tTwo (tMeth c.te "guarded" (spTGrd K c) [] E0 (tVar i) t) (tMeth c.co "guarded" (spCGrd K c) [] E0 (tVar i) t) σ H Q := by
  cases m with
  | tel m =>
    obtain ⟨dx, ab, ac, vb, vd, r, xs, h1, _⟩ := id hR
    exact .inl ⟨_, hi, b, dx, _, rfl, z.sm _ _ h1, rfl, ht _ ⟨b, s, F, m, rfl, z, hR, k⟩⟩
  | col m =>
    obtain ⟨dx, ab, al, vb, vd, h1, _⟩ := id hR
    exact .inr ⟨_, hi, b, dx, _, rfl, z.sm _ _ h1, rfl, ht _ ⟨b, _, F, rfl, z, k⟩⟩
end
/-! ### what stands behind an act -/
abbrev sSAft : Stmt := inClass (top 72) 7
abbrev nsSAft : List Str := ["self", "act", "now", "number", "integer", "actor", "side", "sets", "mark", "changed", "machine"]
structure AftOk (S : StM) (now num x : Int) (a : MacM) : Prop where
  few : S.ms.length ≤ 100
  act : actorM S num = some a
  mac : ∀ m ∈ S.ms, MacB m
  ll : S.l.length ≤ 900000
  lr : S.r.length ≤ 900000
  hx : x.natAbs < 2 ^ 300
  dn : a.don.length < 900000
  gd : (guardM (actedM a now x) a.sd).length ≤ 100000
theorem actor_num {S : StM} {num : Int} {a : MacM} (h : actorM S num = some a) : a.num = num := by
  have := List.find?_some h
  exact of_decide_eq_true this
theorem actor_mem {S : StM} {num : Int} {a : MacM} (h : actorM S num = some a) : a ∈ S.ms := List.mem_of_find?_eq_some h
def spSAft (K : PySem.W.Frag) (c : HCl) : Sp := fun vs H Q _ => ∃ (a : Addr) (v : V) (F : Hp) (S : StM) (now num x : Int) (m : MacM), vs = [.ref a, v] ∧ Fz F H ∧ StnR K F c a S ∧ actF F v (some (now, num, x)) ∧ AftOk S now num x m ∧ ∀ F' H' p, Adv [] F H F' H' → StnR K F' c p (afterM S (now, num, x)) → Q (.ref p) H'
section
variable {P : Program} {w : World} {K : PySem.W.Frag} {mg : Str → Option Value} {base : Heap} {c : HCl}
theorem scSAft : FnScope nsSAft ["self", "act"] (defScope sSAft) := ⟨rfl, rfl, rfl, by decide +kernel, rfl, by decide +kernel, by decide +kernel⟩
theorem acted_sd (a : MacM) (now x : Int) : (actedM a now x).sd = a.sd := by cases a <;> rfl
theorem acted_B {a : MacM} {now x : Int} (h : MacB a) (hd : a.don.length < 900000) : MacB (actedM a now x) := by
  cases a with
  | tel t =>
    refine ⟨h.1, h.2.1, ?_⟩
    show (t.don ++ [(now, x)]).length ≤ 900000
    rw [List.length_append]
    have : t.don.length < 900000 := hd
    show t.don.length + 1 ≤ _
    omega
  | col m =>
    refine ⟨h.1, ?_⟩
    show (m.don ++ [(now, x)]).length ≤ 900000
    rw [List.length_append]
    have : m.don.length < 900000 := hd
    show m.don.length + 1 ≤ _
    omega
theorem ok_SAft {f : Addr} {fd : FuncData} (F : Fun K "after" "Standing.after" sSAft f fd) (T : Gs K mg) (T2 : G2 mg) (mt : mg "tuple" = none) (ms : mg "sorted" = none) (N : SnN K c.st) (NT : TeN K c.te) (NC : CoN K c.co) (NB : BdN K c.bg) (Y : TyN K c) (C : Kl P w K mg base c.st "Standing" nSn) (gT : mg "Teller" = some (.ref c.te))
    (GT : MCal P w K mg base 1 c.te "goal" ["self"] (spTGoal K c)) (GC : MCal P w K mg base 1 c.co "goal" ["self"] (spCGoal K c)) (AT : MCal P w K mg base 3 c.te "acted" ["self", "now", "integer"] (spTAct K c)) (AC : MCal P w K mg base 3 c.co "acted" ["self", "now", "integer"] (spCAct K c))
    (RT : MCal P w K mg base 1 c.te "guarded" ["self", "side"] (spTGrd K c)) (RC : MCal P w K mg base 1 c.co "guarded" ["self", "side"] (spCGrd K c)) (ST : MCal P w K mg base 6 c.te "started" ["self", "now", "cause", "position", "members"] (spTSta K c))
    (TT : MCal P w K mg base 6 c.te "told" ["self", "side", "integer", "members"] (spTTol K c)) (TC' : MCal P w K mg base 3 c.co "told" ["self", "side", "integer", "members"] (spCTol K c)) : FnOk P w K mg base CX0 7 f fd ["self", "act"] (spSAft K c) := by
  refine F.ok scSAft (fun vs H Q E h => ?_) (fun cdv A outer s H vs Q E hr h => ?_)
  · obtain ⟨a, v, F, S, now, num, x, m, rfl, _⟩ := h
    rfl
  obtain ⟨a, v, F, S, now, num, x, am, rfl, z, hS, hv, ok, q⟩ := h
  have hu := hu_of hr
  have hr1 : Room 1 _ := hr.mono (by decide)
  have hr2 : Room 2 _ := hr.mono (by decide)
  have hr3 : Room 3 _ := hr.mono (by decide)
  obtain ⟨dx, ad, tl, tr, tm, vs, h1, h2, h3, h4, h5, h6⟩ := id hS
  have hvl := h6.len
  obtain ⟨ta, rfl, eta⟩ := hv
  have sm := z.sm
  refine ⟨_, pss_cons (ps_asg (pv 1) (pg_tup (by rfl) (pgs_cons (pg_name (i := 2) scSAft.nd rfl (.inl rfl)) (pgs_cons (pg_name (i := 3) scSAft.nd rfl (.inr rfl)) (pgs_cons (pg_name (i := 4) scSAft.nd rfl (.inl rfl)) pgs_nil)))))
    (pss_cons (ps_set (i := 5) scSAft.nd rfl (.inl rfl) (pe_ix ix_list (pe_lc (own := [("machine", 10)]) (g := gName 10) rfl scSAft.nd (pi_tup (pe_fld (pv 0) rfl)) (blkOk_by (N := nsSAft) (sc := defScope sSAft) (by decide +kernel)) (fun _ _ _ _ _ => pg_name (i := 10) scSAft.nd rfl (.inl rfl))
        (fun _ _ _ _ _ => pts_one (pt_cmpR op_eq (show PE _ _ (tFld K (tFld K (tVar 10) "badge") "number") from pe_fld (pe_fld (pv 10) rfl) rfl) (pv 3) (nomark _))) (fun _ _ _ _ _ => pv 10)) pe_int (fun _ _ => rfl)))
    (pss_cons (ps_set (i := 6) scSAft.nd rfl (.inl rfl) (pe_two (pe_meth0 (pv 5) NT.cl GT.m GT.G hr1 GT.b .nil pass0) (pe_meth0 (pv 5) NC.cl GC.m GC.G hr1 GC.b .nil pass0)))
    (pss_cons (ps_set (i := 7) scSAft.nd rfl (.inl rfl) (pe_starD (pe_fld (pv 0) rfl) (pv 6) (pe_callTy call_tuple_of (by rfl) mt (by decide +kernel) (pa_cons (pe_callB cr_sortedI (by rfl) ms (by decide +kernel) (pa_cons (pe_lst (StX.pa_star (pe_dget hu (pe_fld (pv 0) rfl) (pv 6) (fun _ _ => rfl)) (pa_cons (pv 4) pa_nil))) pa_nil)) pa_nil))))
    (pss_cons (ps_set (i := 5) scSAft.nd rfl (.inl rfl) (pe_two (pe_meth (pv 5) NT.cl AT.m AT.G hr3 AT.b .nil pass0 (pa_cons (pv 2) (pa_cons (pv 4) pa_nil))) (pe_meth (pv 5) NC.cl AC.m AC.G hr3 AC.b .nil pass0 (pa_cons (pv 2) (pa_cons (pv 4) pa_nil)))))
    (pss_cons (ps_set (i := 8) scSAft.nd rfl (.inl rfl) (pe_callB (cr_max rfl) (by rfl) T2.max (by decide +kernel) (pa_cons (pe_lst (pa_cons (pe_fld (pv 0) rfl) (pa_cons (pv 4) (StX.pa_star
        (pe_two (pe_meth (pv 5) NT.cl RT.m RT.G hr1 RT.b .nil pass0 (pa_cons (pe_fld (pe_fld (pv 5) rfl) rfl) pa_nil)) (pe_meth (pv 5) NC.cl RC.m RC.G hr1 RC.b .nil pass0 (pa_cons (pe_fld (pe_fld (pv 5) rfl) rfl) pa_nil))) pa_nil)))) pa_nil)))
    (pss_cons (ps_set (i := 9) scSAft.nd rfl (.inl rfl) (pe_lst pa_nil))
    (pss_cons (ps_for PassesOwn.never rfl (pi_tup (pe_fld (pv 0) rfl)) (pg_name (i := 10) scSAft.nd rfl (.inl rfl))
      (pss_one (ps_if (PW.pt (pw_and (pt_cmpR op_gt (pe_fld (pe_fld (pv 10) rfl) rfl) (pv 3) (nomark _)) (pw_and1 (pt_val (pe_callB call_isi (by rfl) T.isi (by decide +kernel) (pa_cons (pv 10) (pa_cons (pe_gref rfl gT) pa_nil)))))))
        (pss_cons (ps_aug (i := 8) scSAft.nd rfl (.inl rfl) pe_int ip_add)
        (pss_one (ps_expr (pe_bm PySem.F.plainAttrs_list PySem.F.slot_list_append PySem.F.type_list_append mt_append (pv 9) (pa_cons (pe_meth (pv 10) NT.cl ST.m ST.G hr ST.b .nil pass0 (pa_cons (pv 2) (pa_cons (pv 3) (pa_cons (pv 8) (pa_cons (pe_dget hu (pv 7) (pe_fld (pe_fld (pv 10) rfl) rfl) (fun _ _ => rfl)) pa_nil))))) pa_nil)))))
        (pss_one (ps_if (pt_cmpR op_eq (pe_fld (pe_fld (pv 10) rfl) rfl) (pv 3) (nomark _))
          (pss_one (ps_expr (pe_bm PySem.F.plainAttrs_list PySem.F.slot_list_append PySem.F.type_list_append mt_append (pv 9) (pa_cons (pe_two (pe_meth (pv 5) NT.cl TT.m TT.G hr TT.b .nil pass0 (pa_cons (pv 6) (pa_cons (pv 4) (pa_cons (pe_dget hu (pv 7) (pv 6) (fun _ _ => rfl)) pa_nil)))) (pe_meth (pv 5) NC.cl TC'.m TC'.G hr3 TC'.b .nil pass0 (pa_cons (pv 6) (pa_cons (pv 4) (pa_cons (pe_dget hu (pv 7) (pv 6) (fun _ _ => rfl)) pa_nil))))) pa_nil))))
          (pss_one (ps_expr (pe_bm PySem.F.plainAttrs_list PySem.F.slot_list_append PySem.F.type_list_append mt_append (pv 9) (pa_cons (pe_two (pe_meth (pv 10) NT.cl TT.m TT.G hr TT.b .nil pass0 (pa_cons (pv 6) (pa_cons (pv 4) (pa_cons (pe_dget hu (pv 7) (pv 6) (fun _ _ => rfl)) pa_nil)))) (pe_meth (pv 10) NC.cl TC'.m TC'.G hr3 TC'.b .nil pass0 (pa_cons (pv 6) (pa_cons (pv 4) (pa_cons (pe_dget hu (pv 7) (pv 6) (fun _ _ => rfl)) pa_nil))))) pa_nil)))))))))
    (pss_one (ps_ret (pe_make C.M C.G hr2 rfl C.g C.b .nil pass0 (pa_cons (pv 2) (pa_cons (pv 7) (pa_cons (pe_callTy call_tuple_of (by rfl) mt (by decide +kernel) (pa_cons (pv 9) pa_nil)) (pa_cons (pe_fld (pv 0) rfl) (pa_cons (pv 8) pa_nil))))))))))))))), ?_⟩
  refine ⟨_, rfl, ta, _, rfl, SqT.of (sm _ _ eta), rfl, _, _, rfl, _, _, rfl, _, _, rfl, rfl, ?_⟩
  obtain ⟨fr, hfr⟩ := find_filter ok.act
  have hact : am ∈ S.ms := actor_mem ok.act
  have hnum : am.num = num := actor_num ok.act
  refine ⟨_, rfl, a, _, dx, _, _, rfl, sm _ _ h1, N.cl, N.ms, rfl, tm, rfl, ⟨_, SqT.of (sm _ _ h5)⟩, fun D nD => lc_it (walk_tup (K := K) (a := tm) (xs := vs)) (fun i H' => Same H H' ∧ ∃ ys, H' D = some (.lst ys) ∧ ys.length ≤ i ∧ MacsR K F c ys ((S.ms.take i).filter fun m => decide (m.num = num)))
    ⟨same_new nD _, [], upd_same, Nat.le_refl _, by rw [List.take_zero]; exact .nil⟩ (fun i H' _ ⟨s1, _⟩ => SqT.of (s1 _ _ (sm _ _ h5))) ?_ ?_⟩
  · rintro i v Hx H1 hi ⟨s1, ys, eD, hyl, hys⟩ ⟨rfl, hx⟩
    obtain ⟨b, m, rfl, hm, hR⟩ := h6.get hx
    obtain ⟨dm, fs, ab, db, pv', g1, g2, g3, _⟩ := mac_ins hR
    have b1 : Same F H1 := sm.trans s1
    obtain ⟨k1, k2⟩ := mac_cls NT NC m.isT
    have few := ok.few
    have hcell : (S.ms.take (i + 1)).filter (fun m => decide (m.num = num)) = (S.ms.take i).filter (fun m => decide (m.num = num)) ++ (if m.num = num then [m] else []) := by
      rw [take_snoc hm, List.filter_append]
      congr 1
      by_cases e : m.num = num
      · simp [e]
      · simp [e]
    refine ⟨rfl, _, rfl, b, _, dm, _, _, rfl, b1 _ _ g1, k1, k2, g2, ab, _, db, _, _, rfl, b1 _ _ g3, NB.cl, NB.nu, rfl, _, rfl, rfl, _, rfl, ?_⟩
    rw [hcell]
    by_cases e : m.num = num
    · rw [show decide (V.int m.b.num = V.int num) = true from decide_eq_true (by rw [show m.b.num = num from e])]
      rw [if_pos e]
      refine iteT ⟨_, rfl, ys, eD, Nat.lt_of_le_of_lt (by omega : _ ≤ 1000) (by decide), same_upd s1 nD _, _, upd_same, ?_, hys.app (.one hR)⟩
      rw [List.length_append]
      show ys.length + 1 ≤ i + 1
      omega
    · rw [show decide (V.int m.b.num = V.int num) = false from decide_eq_false (fun w => e (by injection w))]
      rw [if_neg e, List.append_nil]
      exact iteF ⟨s1, ys, eD, by omega, hys⟩
  rintro H1 ⟨s1, ys, eD, hyl, hys⟩
  rw [hvl, List.take_length, hfr] at hys
  obtain ⟨ba, ⟨yr, rfl⟩, hRa⟩ : ∃ ba, (∃ r, ys = .ref ba :: r) ∧ MacR K F c ba am := by
    cases hys with
    | cons h t => exact ⟨_, ⟨_, rfl⟩, h⟩
  have A1 := Adv.of z s1
  have eD1 : H1 D = some (.lst (.ref ba :: yr)) := eD
  generalize extF F H H1 = F1 at A1
  have f1 := A1.same z
  refine ⟨D, _, _, _, rfl, rfl, SqL.of eD1, atI_nat (j := 0) rfl, ?_⟩
  have b1 : Same F H1 := fun p o e => A1.fz.sm _ _ (f1 _ _ e)
  refine two_goal (i := 5) rfl b1 hRa ?_
  -- the sets
  intro d nd
  have u1 := same_new nd (.dK [])
  have ed1 : (upd H1 d (.dK [])) d = some (.dK []) := upd_same
  generalize upd H1 d (.dK []) = Hd at u1 ed1 ⊢
  refine ⟨_, rfl, a, _, dx, _, _, rfl, u1 _ _ (b1 _ _ h1), N.cl, N.se, rfl, ad, setsD tl tr, rfl, ne_of_none (b1 _ _ h2) nd, u1 _ _ (b1 _ _ h2), ed1, (by show 2 ≤ 1000; decide), fun p np => ?_⟩
  have u2 := same_upd u1 nd (.dK (mergeK [] (setsD tl tr)))
  have ed2 : (upd Hd d (.dK (mergeK [] (setsD tl tr)))) d = some (.dK (mergeK [] (setsD tl tr))) := upd_same
  generalize upd Hd d (.dK (mergeK [] (setsD tl tr))) = Ha at u2 ed2 np ⊢
  have np1 := u2.free np
  have u3 := same_upd u2 np1 (.dK [])
  have ed3 := same_new np (.dK []) _ _ ed2
  have ep3 : (upd Ha p (.dK [])) p = some (.dK []) := upd_same
  generalize upd Ha p (.dK []) = Hb at u3 ed3 ep3 ⊢
  have b3 : Same F Hb := b1.trans u3
  refine ⟨_, rfl, _, rfl, a, _, dx, _, _, rfl, b3 _ _ h1, N.cl, N.se, rfl, _, rfl, ad, _, rfl, sets_val tl tr (goalM am) ▸ DGet.k (k := Sum.inr (sdS (goalM am))) (b3 _ _ h2), ?_⟩
  have emem : ∀ s, F (if s = true then tr else tl) = some (.tup ((S.set s).map V.int)) := fun s => by
    unfold StM.set
    cases s
    · exact h3
    · exact h4
  refine ⟨_, _, rfl, .inl (SqT.of (b3 _ _ (emem (goalM am)))), _, rfl, ?_, fun l nl => ?_⟩
  · rw [List.length_append, List.length_map]
    have : (S.set (goalM am)).length ≤ 900000 := by unfold StM.set; split; exact ok.lr; exact ok.ll
    exact Nat.le_trans (by show (S.set (goalM am)).length + 1 ≤ 1000000; omega) (by decide)
  have nl1 := u3.free nl
  have u4 := same_upd u3 nl1 (.lst ((S.set (goalM am)).map V.int ++ [.int x]))
  have k4 := same_new nl (.lst ((S.set (goalM am)).map V.int ++ [.int x]))
  have el : (upd Hb l (.lst ((S.set (goalM am)).map V.int ++ [.int x]))) l = some (.lst ((S.set (goalM am) ++ [x]).map V.int)) := by rw [upd_same, List.map_append]; rfl
  generalize upd Hb l (.lst ((S.set (goalM am)).map V.int ++ [.int x])) = Hc at u4 k4 el ⊢
  refine ⟨l, _, rfl, SqL.of el, fun ns p2 perm srt n2 => ?_⟩
  have n21 := u4.free n2
  have ens : ns = isort (S.set (goalM am) ++ [x]) := isort_unique perm srt
  subst ens
  have u5 := same_upd u4 n21 (.lst ((isort (S.set (goalM am) ++ [x])).map V.int))
  have k5 := k4.trans (same_new n2 (.lst ((isort (S.set (goalM am) ++ [x])).map V.int)))
  have e2 : (upd Hc p2 (.lst ((isort (S.set (goalM am) ++ [x])).map V.int))) p2 = some (.lst ((isort (S.set (goalM am) ++ [x])).map V.int)) := upd_same
  generalize upd Hc p2 (.lst ((isort (S.set (goalM am) ++ [x])).map V.int)) = He at u5 k5 e2 ⊢
  refine ⟨p2, _, rfl, .inl ⟨SqL.of e2, fun t nt => ?_⟩⟩
  have nt1 := u5.free nt
  have u6 := same_upd u5 nt1 (.tup ((isort (S.set (goalM am) ++ [x])).map V.int))
  have k6 := k5.trans (same_new nt (.tup ((isort (S.set (goalM am) ++ [x])).map V.int)))
  have et : (upd He t (.tup ((isort (S.set (goalM am) ++ [x])).map V.int))) t = some (.tup ((isort (S.set (goalM am) ++ [x])).map V.int)) := upd_same
  generalize upd He t (.tup ((isort (S.set (goalM am) ++ [x])).map V.int)) = Hf at u6 k6 et ⊢
  have ed6 := k6 _ _ ed3
  have ep6 := k6 _ _ ep3
  refine ⟨Sum.inr (sdS (goalM am)), rfl, ep6, ed6, ?_⟩
  rw [sets_put]
  have ntp : t ≠ p := fun e => by rw [e, ep6] at et; cases et
  have ntd : t ≠ d := fun e => by rw [e, ed6] at et; cases et
  have u7 := same_upd (same_upd u6 np1 (.dK (putK [] (Sum.inr (sdS (goalM am)) : Key) (.ref t)))) nd (.dK (setsD (if goalM am = true then tl else t) (if goalM am = true then t else tr)))
  have et7 : (upd (upd Hf p (.dK (putK [] (Sum.inr (sdS (goalM am)) : Key) (.ref t)))) d (.dK (setsD (if goalM am = true then tl else t) (if goalM am = true then t else tr)))) t = some (.tup ((isort (S.set (goalM am) ++ [x])).map V.int)) := by rw [upd_ne ntd, upd_ne ntp]; exact et
  have ed7 : (upd (upd Hf p (.dK (putK [] (Sum.inr (sdS (goalM am)) : Key) (.ref t)))) d (.dK (setsD (if goalM am = true then tl else t) (if goalM am = true then t else tr)))) d = some (.dK (setsD (if goalM am = true then tl else t) (if goalM am = true then t else tr))) := upd_same
  generalize upd (upd Hf p (.dK (putK [] (Sum.inr (sdS (goalM am)) : Key) (.ref t)))) d (.dK (setsD (if goalM am = true then tl else t) (if goalM am = true then t else tr))) = H2 at u7 et7 ed7 ⊢
  have A2 := A1.trans (Adv.of A1.fz u7)
  have ed8 : extF F1 H1 H2 d = some (.dK (setsD (if goalM am = true then tl else t) (if goalM am = true then t else tr))) := by rw [extF_new nd]; exact ed7
  have et8 : extF F1 H1 H2 t = some (.tup ((isort (S.set (goalM am) ++ [x])).map V.int)) := A2.fz.kt.1 _ _ et7
  generalize extF F1 H1 H2 = F2 at A2 ed8 et8
  have f2 := A2.same z
  obtain ⟨s0, hs0⟩ : ∃ s0, goalM am = s0 := ⟨_, rfl⟩
  have emem2 : ∀ sd : Bool, F2 (if sd = true then (if goalM am = true then t else tr) else (if goalM am = true then tl else t)) = some (.tup ((pickS (setsPut S (goalM am) x) sd).map V.int)) := fun sd => by
    unfold pickS setsPut
    unfold StM.set at et8
    rw [hs0] at et8 ⊢
    cases s0 <;> cases sd
    · exact et8
    · exact f2 _ _ h4
    · exact f2 _ _ h3
    · exact et8
  have epl : ∀ sd : Bool, (pickS (setsPut S (goalM am) x) sd).length ≤ 1000000 := fun sd => by
    have a1 := ok.ll
    have a2 := ok.lr
    have i1 := (isort_perm (S.l ++ [x])).length_eq
    have i2 := (isort_perm (S.r ++ [x])).length_eq
    rw [List.length_append] at i1 i2
    simp only [List.length_cons, List.length_nil] at i1 i2
    unfold pickS setsPut
    rw [hs0]
    cases s0 <;> cases sd
    · show (isort (S.l ++ [x])).length ≤ _; omega
    · show S.r.length ≤ _; omega
    · show S.l.length ≤ _; omega
    · show (isort (S.r ++ [x])).length ≤ _; omega
  have esets : ∀ sd : Bool, valV (setsD (if goalM am = true then tl else t) (if goalM am = true then t else tr)) (Sum.inr (sdS sd) : Key) = some (.ref (if sd = true then (if goalM am = true then t else tr) else (if goalM am = true then tl else t))) := fun sd => sets_val _ _ sd
  generalize (if goalM am = true then tl else t) = tl2 at ed8 emem2 esets ⊢
  generalize (if goalM am = true then t else tr) = tr2 at ed8 emem2 esets ⊢
  -- the actor behind its act
  refine two_act (i := 5) (now := now) (x := x) rfl A2.fz (hRa.same f2) (ok.mac _ hact) (fun R h => ⟨_, rfl, _, rfl, h⟩) fun F3 H3 p3 A23 hR3 => ?_
  have A3 := A2.trans A23
  have f3 := A3.same z
  have f23 := A23.same A2.fz
  have b3' : Same F H3 := fun p o e => A3.fz.sm _ _ (f3 _ _ e)
  have hB3 := acted_B (now := now) (x := x) (ok.mac _ hact) ok.dn
  obtain ⟨dm, fs, ab, db, pv', g1, g2, g3, _⟩ := mac_ins hR3
  obtain ⟨k1, k2⟩ := mac_cls NT NC (actedM am now x).isT
  -- the mark
  refine ⟨_, rfl, a, _, dx, _, _, rfl, b3' _ _ h1, N.cl, N.mr, rfl, _, rfl, ?_⟩
  refine two_grdT (i := 5) (s := am.sd) rfl A3.fz hR3 (fun R h => ⟨_, rfl, p3, _, dm, _, _, rfl, A3.fz.sm _ _ g1, k1, k2, g2, ab, _, db, _, _, rfl, A3.fz.sm _ _ g3, NB.cl, NB.sd, rfl, ?_⟩) fun F4 H4 p4 A34 e4 => ?_
  · rw [show sdS (actedM am now x).b.sd = sdS am.sd from congrArg sdS (acted_sd am now x)]; exact h
  have A4 := A3.trans A34
  have f34 := A34.same A3.fz
  refine ⟨p4, _, rfl, .inr (SqL.of (A4.fz.sm _ _ e4)), ?_⟩
  dsimp only [tNil]
  rw [List.append_nil]
  refine ⟨?_, fun L nL => ?_⟩
  · have := ok.gd
    show ((V.int S.mark) :: (V.int x) :: ((guardM (actedM am now x) am.sd).map V.int)).length ≤ sizeLine
    rw [List.length_cons, List.length_cons, List.length_map]
    exact Nat.le_trans (by omega : _ ≤ 1000000) (by decide)
  have A5 := A4.trans (Adv.put (M := []) A4.fz nL (o := .lst (V.int S.mark :: V.int x :: (guardM (actedM am now x) am.sd).map V.int)) trivial)
  have eL : (upd H4 L (.lst (V.int S.mark :: V.int x :: (guardM (actedM am now x) am.sd).map V.int))) L = some (.lst ((S.mark :: x :: guardM (actedM am now x) am.sd).map V.int)) := upd_same
  generalize upd H4 L (.lst (V.int S.mark :: V.int x :: (guardM (actedM am now x) am.sd).map V.int)) = H5 at A5 eL ⊢
  refine ⟨L, _, rfl, SqL.of eL, by rw [List.length_cons]; omega, fun mk hmk hle => ?_⟩
  have emk := lmax_unique hmk hle
  subst emk
  -- the machines
  refine ⟨(by show 0 ≤ sizeLine; decide), fun G nG => ?_⟩
  have A6 := A5.trans (Adv.put (M := []) A5.fz nG (o := .lst []) trivial)
  have nGF : F4 G = none := A5.fz.out nG
  have nGH : H G = none := A5.free nG
  have eG0 : (upd H5 G (.lst [])) G = some (.lst []) := upd_same
  generalize upd H5 G (.lst []) = H6 at A6 eG0 ⊢
  have f4 := A6.same z
  have b6 : Same F H6 := fun p o e => A6.fz.sm _ _ (f4 _ _ e)
  have f24 : Same F2 F4 := f23.trans f34
  refine ⟨_, rfl, a, _, dx, _, _, rfl, b6 _ _ h1, N.cl, N.ms, rfl, tm, rfl, ⟨_, SqT.of (b6 _ _ h5)⟩, ?_⟩
  obtain ⟨pp, hpp⟩ : ∃ pp, setsPut S (goalM am) x = pp := ⟨_, rfl⟩
  obtain ⟨a', ha'⟩ : ∃ a', actedM am now x = a' := ⟨_, rfl⟩
  rw [hpp] at emem2 epl
  rw [ha'] at hR3 hB3
  obtain ⟨mk0, hmk0⟩ : ∃ mk0, lmax S.mark (x :: guardM (actedM am now x) am.sd) = mk0 := ⟨_, rfl⟩
  rw [hmk0]
  have few := ok.few
  refine for_it (walk_tup (K := K) (a := tm) (xs := vs)) (fun i σ Hx => ∃ (s10 : Option V) (Fx : Hp) (ys : List V), σ = [some (.ref a), some (.ref ta), some (.int now), some (.int num), some (.int x), some (.ref p3), some (.str (sdS (goalM am))), some (.ref d), some (.int (turnsM now num x (goalM am) pp a' mk0 (S.ms.take i)).2), some (.ref G), s10] ∧ Adv [] F H Fx Hx ∧ Same F4 Fx ∧ Fx G = none ∧ Hx G = some (.lst ys) ∧ MacsR K Fx c ys (turnsM now num x (goalM am) pp a' mk0 (S.ms.take i)).1)
    ⟨none, F4, [], rfl, A6, Same.refl _, nGF, eG0, .nil⟩ (fun i σ Hx _ ⟨_, Fx, _, _, ax, _⟩ => SqT.of (ax.fz.sm _ _ (ax.same z _ _ h5))) ?_ ?_
  · rintro i v σ Hy Hx hi ⟨s10, Fx, ys, rfl, ax, f4x, nGx, eG, hys⟩ ⟨rfl, hx⟩
    obtain ⟨b, m, rfl, hm, hR⟩ := h6.get hx
    have fx := ax.same z
    have hRx := hR.same fx
    obtain ⟨dm', fs', ab', db', pv2, j1, j2, j3, _⟩ := mac_ins hRx
    obtain ⟨l1, l2⟩ := mac_cls NT NC m.isT
    have bx := ax.fz.sm
    have step := turns_snoc now num x (goalM am) pp a' (S.ms.take i) mk0 m
    rw [← take_snoc hm] at step
    have ysl : ys.length = i := by
      have h1 := hys.len
      rw [turns_len, List.length_take] at h1
      omega
    obtain ⟨mk, hmk⟩ : ∃ mk, (turnsM now num x (goalM am) pp a' mk0 (S.ms.take i)).2 = mk := ⟨_, rfl⟩
    rw [hmk] at step ⊢
    have mB := ok.mac m (List.mem_of_getElem? hm)
    have fin : ∀ (F' H' : Hp) (q0 : Addr) (mm : MacM) (mk' : Int), Adv [] Fx Hx F' H' → MacR K F' c q0 mm → turnM now num x (goalM am) pp a' mk m = (mm, mk') → H' G = some (.lst ys) ∧ ys.length < sizeLine ∧
        ∃ (s10 : Option V) (Fx : Hp) (ys' : List V), ([some (.ref a), some (.ref ta), some (.int now), some (.int num), some (.int x), some (.ref p3), some (.str (sdS (goalM am))), some (.ref d), some (.int mk'), some (.ref G), some (.ref b)] : L2.St) = [some (.ref a), some (.ref ta), some (.int now), some (.int num), some (.int x), some (.ref p3), some (.str (sdS (goalM am))), some (.ref d), some (.int (turnsM now num x (goalM am) pp a' mk0 (S.ms.take (i + 1))).2), some (.ref G), s10] ∧
          Adv [] F H Fx (upd H' G (.lst (ys ++ [.ref q0]))) ∧ Same F4 Fx ∧ Fx G = none ∧ (upd H' G (.lst (ys ++ [.ref q0]))) G = some (.lst ys') ∧ MacsR K Fx c ys' (turnsM now num x (goalM am) pp a' mk0 (S.ms.take (i + 1))).1 := by
      intro F' H' q0 mm mk' A' hM ht
      rw [ht] at step
      have nG' : F' G = none := A'.off (some_ne eG) nGx
      have s' := A'.same ax.fz
      refine ⟨A'.kh G _ (by simp) eG, Nat.lt_of_le_of_lt (by omega : _ ≤ 1000) (by decide), some (.ref b), F', _, by rw [step], (ax.trans A').touch nGH nG' trivial, f4x.trans s', nG', upd_same, ?_⟩
      rw [step]
      exact (hys.same s').app (.one hM)
    have mid : ∀ sd, Fx (if sd = true then tr2 else tl2) = some (.tup ((pickS pp sd).map V.int)) := fun sd => f4x _ _ (f24 _ _ (emem2 sd))
    have edx := bx _ _ (f4x _ _ (f24 _ _ ed8))
    have edxF := f4x _ _ (f24 _ _ ed8)
    have gtup : ∀ (R : List V → Hp → Prop) (y5 y10 : Option V), R [.str (sdS (goalM am)), .int x, .ref (if goalM am = true then tr2 else tl2)] Hx → (tCons (tVar 6) (tCons (tVar 4) (tCons (tDGet (tVar 7) (tVar 6)) tNil))) [some (.ref a), some (.ref ta), some (.int now), some (.int num), some (.int x), y5, some (.str (sdS (goalM am))), some (.ref d), some (.int mk), some (.ref G), y10] Hx R := fun R y5 y10 h =>
      ⟨_, rfl, _, rfl, _, rfl, _, rfl, d, _, rfl, esets (goalM am) ▸ DGet.k (k := Sum.inr (sdS (goalM am))) edx, h⟩
    refine ⟨_, rfl, b, _, dm', _, _, rfl, bx _ _ j1, l1, l2, j2, ab', _, db', _, _, rfl, bx _ _ j3, NB.cl, NB.nu, rfl, _, rfl, _, _, rfl, rfl, _, rfl, ?_⟩
    have elses : ¬ (num < m.num ∧ m.isT = true) → ∀ D : L2.Ends, (∀ σ H', (∃ (s10 : Option V) (Fx : Hp) (ys' : List V), σ = [some (.ref a), some (.ref ta), some (.int now), some (.int num), some (.int x), some (.ref p3), some (.str (sdS (goalM am))), some (.ref d), some (.int (turnsM now num x (goalM am) pp a' mk0 (S.ms.take (i + 1))).2), some (.ref G), s10] ∧ Adv [] F H Fx H' ∧ Same F4 Fx ∧ Fx G = none ∧ H' G = some (.lst ys') ∧ MacsR K Fx c ys' (turnsM now num x (goalM am) pp a' mk0 (S.ms.take (i + 1))).1) → D.nx σ H') →
        tFld K (tFld K (tVar 10) "badge") "number" [some (.ref a), some (.ref ta), some (.int now), some (.int num), some (.int x), some (.ref p3), some (.str (sdS (goalM am))), some (.ref d), some (.int mk), some (.ref G), some (.ref b)] Hx (fun y H1 => y = .int m.num ∧ H1 = Hx) ∧ True := fun _ _ _ => ⟨⟨_, rfl, b, _, dm', _, _, rfl, bx _ _ j1, l1, l2, j2, ab', _, db', _, _, rfl, bx _ _ j3, NB.cl, NB.nu, rfl, rfl, rfl⟩, trivial⟩
    clear elses
    by_cases lt : num < m.num
    · rw [show decide (num < m.b.num) = true from decide_eq_true lt]
      obtain ⟨tt, ty, ko⟩ := mac_isT NT NC Y (bx _ _ j1)
      refine iteT ⟨_, rfl, .ref b, .ref c.te, _, _, _, rfl, .own c.te, ty, ko, _, rfl, ?_⟩
      cases m with
      | tel t0 =>
        refine iteT ⟨_, rfl, _, _, rfl, rfl, ?_⟩
        obtain ⟨dxm, ab2, ac, vb, vd, r, xs, o1, _⟩ := id hRx
        refine ⟨_, rfl, .inl ⟨rfl, _, SqL.of eG⟩, _, rfl, b, dxm, _, rfl, bx _ _ o1, rfl, _, rfl, _, rfl, _, rfl, _, rfl, _, rfl, b, _, dm', _, _, rfl, bx _ _ j1, l1, l2, j2, ab', _, db', _, _, rfl, bx _ _ j3, NB.cl, NB.sd, rfl, d, _, rfl, esets t0.b.sd ▸ DGet.k (k := Sum.inr (sdS t0.b.sd)) edx, ?_⟩
        refine ⟨b, _, now, num, mk + 1, Fx, t0, pickS pp t0.b.sd, rfl, ax.fz, hRx, Nat.le_trans mB.2.1 (by decide), mB.1, mid t0.b.sd, epl _, fun F' H' q0 A' hM => ?_⟩
        have ht : turnM now num x (goalM am) pp a' mk (.tel t0) = (.tel (startedT t0 now num (mk + 1) (pickS pp t0.b.sd)), mk + 1) := by
          unfold turnM
          rw [if_pos ⟨lt, rfl⟩]
        obtain ⟨e1, e2, e3⟩ := fin F' H' q0 (.tel _) _ A' hM ht
        exact ⟨G, ys, _, rfl, rfl, e1, e2, e3⟩
      | col m0 =>
        refine iteF ⟨_, rfl, b, _, dm', _, _, rfl, bx _ _ j1, l1, l2, j2, ab', _, db', _, _, rfl, bx _ _ j3, NB.cl, NB.nu, rfl, _, rfl, rfl, _, rfl, ?_⟩
        have nee : ¬ m0.b.num = num := fun e => by have : num < m0.b.num := lt; omega
        rw [show decide (V.int (MacM.col m0).b.num = V.int num) = false from decide_eq_false (fun w => nee (by injection w))]
        refine iteF ⟨_, rfl, .inl ⟨rfl, _, SqL.of eG⟩, two_tol (i := 10) (s := goalM am) (x := x) rfl ax.fz hRx mB ok.hx (mid (goalM am)) (epl _) (fun R h => gtup R _ _ h) fun F' H' q0 A' hM => ?_⟩
        have ht : turnM now num x (goalM am) pp a' mk (.col m0) = (toldM (.col m0) (goalM am) x (pickS pp (goalM am)), mk) := by
          unfold turnM
          rw [if_neg (fun w => by cases w.2), if_neg (show ¬ (MacM.col m0).num = num from nee)]
        obtain ⟨e1, e2, e3⟩ := fin F' H' q0 _ _ A' hM ht
        exact ⟨G, ys, _, rfl, rfl, e1, e2, e3⟩
    · rw [show decide (num < m.b.num) = false from decide_eq_false lt]
      refine iteF (iteF ⟨_, rfl, b, _, dm', _, _, rfl, bx _ _ j1, l1, l2, j2, ab', _, db', _, _, rfl, bx _ _ j3, NB.cl, NB.nu, rfl, _, rfl, rfl, _, rfl, ?_⟩)
      by_cases e : m.num = num
      · rw [show decide (V.int m.b.num = V.int num) = true from decide_eq_true (by rw [show m.b.num = num from e])]
        refine iteT ⟨_, rfl, .inl ⟨rfl, _, SqL.of eG⟩, two_tol (i := 5) (s := goalM am) (x := x) rfl ax.fz (hR3.same (fun p o h => f4x _ _ (f34 _ _ h))) hB3 ok.hx (mid (goalM am)) (epl _) (fun R h => gtup R _ _ h) fun F' H' q0 A' hM => ?_⟩
        have ht : turnM now num x (goalM am) pp a' mk m = (toldM a' (goalM am) x (pickS pp (goalM am)), mk) := by
          unfold turnM
          rw [if_neg (fun w => lt w.1), if_pos e]
        obtain ⟨e1, e2, e3⟩ := fin F' H' q0 _ _ A' hM ht
        exact ⟨G, ys, _, rfl, rfl, e1, e2, e3⟩
      · rw [show decide (V.int m.b.num = V.int num) = false from decide_eq_false (fun w => e (by injection w))]
        refine iteF ⟨_, rfl, .inl ⟨rfl, _, SqL.of eG⟩, two_tol (i := 10) (s := goalM am) (x := x) rfl ax.fz hRx mB ok.hx (mid (goalM am)) (epl _) (fun R h => gtup R _ _ h) fun F' H' q0 A' hM => ?_⟩
        have ht : turnM now num x (goalM am) pp a' mk m = (toldM m (goalM am) x (pickS pp (goalM am)), mk) := by
          unfold turnM
          rw [if_neg (fun w => lt w.1), if_neg e]
        obtain ⟨e1, e2, e3⟩ := fin F' H' q0 _ _ A' hM ht
        exact ⟨G, ys, _, rfl, rfl, e1, e2, e3⟩
  · rintro σ Hx ⟨s10, Fx, ys, rfl, ax, f4x, nGx, eG, hys⟩
    rw [hvl, List.take_length] at hys ⊢
    have fx := ax.same z
    have bx : Same F Hx := fun p o e => ax.fz.sm _ _ (fx _ _ e)
    refine ⟨_, rfl, _, rfl, _, rfl, G, _, rfl, .inl ⟨SqL.of eG, fun tp ntp => ?_⟩⟩
    have A8 := ax.trans (Adv.new ax.fz ntp (.tup ys))
    have e8 : (upd Fx tp (.tup ys)) tp = some (.tup ys) := upd_same
    have f8 := (Adv.new ax.fz ntp (.tup ys)).same ax.fz
    generalize upd Fx tp (.tup ys) = F8 at A8 e8 f8
    generalize upd Hx tp (.tup ys) = H8 at A8 ⊢
    have b8 : Same F H8 := fun p o e => A8.fz.sm _ _ (A8.same z _ _ e)
    refine ⟨_, rfl, a, _, dx, _, _, rfl, b8 _ _ h1, N.cl, N.ah, rfl, _, rfl, ?_⟩
    refine mk_new A8.fz (ns := nSn) (as := [.int now, .ref d, .ref tp, .int S.ahead, .int _]) rfl fun o dx' H9 A9 no => q _ _ o (A8.trans A9) ?_
    have s9 := (A9.same A8.fz)
    have s49 : Same F4 _ := fun p o e => s9 _ _ (f8 _ _ (f4x _ _ e))
    have eAft : afterM S (now, num, x) = ⟨now, pp.1, pp.2, (turnsM now num x (goalM am) pp a' mk0 S.ms).1, S.ahead, (turnsM now num x (goalM am) pp a' mk0 S.ms).2⟩ := by
      unfold afterM
      dsimp only
      rw [ok.act]
      unfold afterW
      dsimp only
      rw [hmk0, hpp, ha']
    rw [eAft]
    refine ⟨dx', d, tl2, tr2, tp, ys, upd_same, s49 _ _ (f24 _ _ ed8), ?_, ?_, s9 _ _ e8, hys.same (fun p o e => s9 _ _ (f8 _ _ e))⟩
    · have := s49 _ _ (f24 _ _ (emem2 false)); exact this
    · have := s49 _ _ (f24 _ _ (emem2 true)); exact this
end
end My

namespace My
open PySem PySem.Spec PyProof.Rows L2
/-! ### the keys of a written dict, walked -/
def Itw (ks : List PySem.Str) : It := ⟨fun i _ => i < ks.length, fun i H x H' => H' = H ∧ ∃ z, ks[i]? = some z ∧ x = .str z, fun i _ => ks.length ≤ i⟩
theorem ents_pairs {P : Program} {w : World} : ∀ {l : List DictEntry} {tab : List (PySem.Str × V)}, Ents l tab → ∃ vs : List (Key × Value), vs.map (·.1) = tab.map (fun p => (Sum.inr p.1 : Key)) ∧ Pairs (mk2 P w) l vs
  | _, _, .nil => ⟨[], rfl, .nil⟩
  | _, _, .cons (x := x) (t := t) (u := u) rv r => by
    obtain ⟨vs, h1, h2⟩ := ents_pairs (P := P) (w := w) r
    exact ⟨(Sum.inr x, u) :: vs, by rw [List.map_cons, List.map_cons, h1], .cons (keyIs_str x t) rfl h2⟩
theorem ktab_at {P : Program} {w : World} {K : PySem.W.Frag} {h : Heap} {d : Addr} {tab : List (PySem.Str × V)} (X : K.In h) (T : KTab K w d tab) (nd : (tab.map (·.1)).Nodup) :
    ∃ (o : Obj) (es : Array DictEntry) (n : Nat) (vs : List (Key × Value)), h.get? d = some o ∧ o.ExactDict ∧ o.data = .dict es n ∧ es.size = tab.length ∧ vs.map (·.1) = tab.map (fun p => (Sum.inr p.1 : Key)) ∧ h.DictAt (mk2 P w) d vs n := by
  obtain ⟨es, n, hl, hk, he⟩ := T.ex
  obtain ⟨vs, h1, h2⟩ := ents_pairs (P := P) (w := w) he
  have ho := X _ _ hl
  have len : es.size = tab.length := by
    have a := h2.length
    have b := congrArg List.length h1
    rw [List.length_map, List.length_map] at b
    rw [Array.length_toList] at a
    omega
  refine ⟨_, es, n, vs, ho, ⟨rfl, rfl, rfl⟩, rfl, len, h1, _, es, ho, ⟨rfl, rfl, rfl⟩, rfl, fun e me => ?_, h2, ?_⟩
  · obtain ⟨x, t, e1, e2⟩ := hk.all e (Array.mem_toList_iff.mpr me)
    exact ⟨Sum.inr x, by rw [e1]; exact keyIs_str x t, e2⟩
  · rw [h1]
    have : (tab.map fun p => (Sum.inr p.1 : Key)) = (tab.map (·.1)).map Sum.inr := by rw [List.map_map]; rfl
    rw [this]
    exact List.Pairwise.map _ (fun a b (h : a ≠ b) e => h (Sum.inr.inj e)) nd
section
variable {P : Program} {w : World} {K : PySem.W.Frag} {tg : Expr} {d : Addr} {tab : List (PySem.Str × V)}
theorem turn_keysW {n : Nat} {es : Array DictEntry} (it : Addr) (T : KTab K w d tab) (nd : (tab.map (·.1)).Nodup) (hl : ∃ o, K.lookup d = some o ∧ o.data = .dict es n) : Turn P w K tg (Itw (tab.map (·.1))) [it] it (fun i h => h.IsKeyIter it d i tab.length n) where
  mem := by simp
  obj := fun i h st b hb => by
    have e : b = it := by simpa using hb
    subst e
    obtain ⟨oi, e, c, dd⟩ := st
    exact ⟨oi, e, fun v z => by rw [dd] at z; cases z⟩
  keep := fun i h h' st k => by
    obtain ⟨oi, e, c, dd⟩ := st
    exact ⟨oi, k it (by simp) oi e, c, dd⟩
  item := by
    intro X hP hw hK calm i pins s σ H E I hf st go
    subst hP hw hK
    obtain ⟨f0, f1, f2, f3, f4, f5⟩ := hf it (by simp)
    obtain ⟨o, es', n', vs, ho, hx, hd, hsz, hks, hat⟩ := ktab_at (P := X.prog) I.kIn T nd
    obtain ⟨o2, hl2, hd2⟩ := hl
    have eo : o = o2 := by have := I.kIn _ _ hl2; rw [ho] at this; injection this
    subst eo
    rw [hd] at hd2
    cases hd2
    have hlen : vs.length = tab.length := by
      have := congrArg List.length hks
      rwa [List.length_map, List.length_map] at this
    have hi : i < vs.length := by
      have : i < (tab.map (·.1)).length := go
      rw [List.length_map] at this
      omega
    have hv : vs[i]? = some (vs[i].1, vs[i].2) := List.getElem?_eq_getElem hi
    obtain ⟨z, hz⟩ : ∃ z, (tab.map (·.1))[i]? = some z := ⟨_, List.getElem?_eq_getElem go⟩
    have hkey : vs[i].1 = (Sum.inr z : Key) := by
      have h := congrArg (fun l : List Key => l[i]?) hks
      simp only [List.getElem?_map, hv, Option.map_some] at h
      have hz2 := hz
      rw [List.getElem?_map] at hz2
      cases et : tab[i]? with
      | none => rw [et] at hz2; cases hz2
      | some p =>
        rw [et] at h hz2
        injection h with h
        injection hz2 with hz2
        rw [h, ← hz2]
    rw [← hlen] at st
    refine wpAny_pyNext_dict_item st hat hv fun key h' hk' st' sb => ?_
    have I1 : L2.Inv X pins σ H { s with heap := h' } := I.turned (t' := s.toks) (fun b ob hb e => (sb.2 b hb).trans e) f0 f1 f3 f4 f5
    obtain ⟨oi, e, c, dd⟩ := id st'
    rw [hkey] at hk'
    have rv : L2.RelV (.str z) key := relV_key (k := (Sum.inr z : Key)) hk'
    refine ⟨key, rfl, go_of (s := { s with heap := h' }) e c dd (by decide) ⟨.str z, H, I1, rv, ⟨rfl, _, hz, rfl⟩, ?_, fun b hb => (hf b hb).1⟩⟩
    show h'.IsKeyIter it d (i + 1) tab.length _
    rw [← hlen]
    exact st'
  done := by
    intro X hP hw hK calm i pins s σ H E I hf st stop
    subst hP hw hK
    obtain ⟨f0, f1, f2, f3, f4, f5⟩ := hf it (by simp)
    obtain ⟨o, es', n', vs, ho, hx, hd, hsz, hks, hat⟩ := ktab_at (P := X.prog) I.kIn T nd
    obtain ⟨o2, hl2, hd2⟩ := hl
    have eo : o = o2 := by have := I.kIn _ _ hl2; rw [ho] at this; injection this
    subst eo
    rw [hd] at hd2
    cases hd2
    have ge : tab.length ≤ i := by
      have : (tab.map (·.1)).length ≤ i := stop
      rwa [List.length_map] at this
    exact next_key_end (I.ok.hd calm) st ho hd hsz ge fun h' eb => ⟨rfl, I.turned (t' := s.toks) (fun b ob hb e => eb b ob hb e) f0 f1 f3 f4 f5⟩
  self := fun A i s Q E st h => wpAny_pyIter_keyiter st h
def iKeysW (K : PySem.W.Frag) (w : World) (td : TE) : TI := fun σ H R => td σ H fun x H1 => ∃ (d : Addr) (tab : List (PySem.Str × V)), x = .ref d ∧ KTab K w d tab ∧ (tab.map (·.1)).Nodup ∧ R (Itw (tab.map (·.1))) H1
end
theorem pi_keysW {X : Cx} {tg e : Expr} {td : TE} (he : PE X e td) : PI X tg e (iKeysW X.K X.w td) := by
  refine ⟨fun pins s σ H R I h => ?_⟩
  refine thn (he.run pins s σ H _ I h) fun u s1 ⟨x, H1, I1, rx, d, tab, ex, T, nd, q⟩ => ?_
  subst ex
  obtain rfl : u = Value.ref d := rx
  obtain ⟨o, es, n, vs, ho, hx, hd, hsz, hks, hat⟩ := ktab_at (P := X.prog) I1.kIn T nd
  have hl : ∃ o, X.K.lookup d = some o ∧ o.data = .dict es n := by
    obtain ⟨es', n', hl, _, _⟩ := T.ex
    have := I1.kIn _ _ hl
    rw [ho] at this
    injection this with this
    subst this
    exact ⟨_, hl, hd⟩
  refine iter_keys T.low ho hx hd (pi_one (tk := s1.toks) I1 _ (turn_keysW _ T nd hl) ⟨_, Heap.get?_push_size _ rfl, rfl, ?_⟩ q)
  rw [hsz]
  rfl
theorem walk_keysW {ks : List PySem.Str} : Walk (Itw ks) ks.length (fun _ => True) (fun i H x H' => H' = H ∧ ∃ z, ks[i]? = some z ∧ x = .str z) :=
  ⟨fun _ _ hi _ => hi, fun _ _ => Nat.le_refl _, fun _ _ _ _ _ _ y => y⟩
/-- a dict comprehension over anything that Walk serves -/
theorem dc_it {J : It} {n : Nat} {G : Hp → Prop} {Y : Nat → Hp → V → Hp → Prop} (wk : Walk J n G Y) {g : TG} {tt : TT} {tk tv : TE} {vs : List Nat} {σ : L2.St} {H1 : Hp} {D : Addr} {Qd : Hp → Prop} (Pv : Nat → Hp → Prop) (h0 : Pv 0 (upd H1 D (.dK []))) (hG : ∀ i H, i ≤ n → Pv i H → G H)
    (hs : ∀ i x H H', i < n → Pv i H → Y i H x H' → g x (wipe σ vs) H' fun σ2 H2 => wipe σ2 vs = wipe σ vs ∧ tt σ2 H2 fun b H3 =>
      if b = true then tk σ2 H3 fun y H4 => tv σ2 H4 fun z H5 => ∃ kvs k, y = kV k ∧ H5 D = some (.dK kvs) ∧ kvs.length < sizeLine ∧ Pv (i + 1) (upd H5 D (.dK (putK kvs k z))) else Pv (i + 1) H3) (hd : ∀ H, Pv n H → Qd H) :
    ∃ W : Nat → Nat → Hp → Prop, (∃ m, W 0 m (upd H1 D (.dK []))) ∧ ∀ i m H, W i m H →
      (J.stop i H ∧ Qd H) ∨ (J.go i H ∧ ∃ Nx : Hp → Prop, (∀ H', Nx H' → ∃ m', m' < m ∧ W (i + 1) m' H') ∧ ∀ x H', J.yld i H x H' → g x (wipe σ vs) H' fun σ2 H2 => wipe σ2 vs = wipe σ vs ∧ tt σ2 H2 fun b H3 =>
        if b = true then tk σ2 H3 fun y H4 => tv σ2 H4 fun z H5 => ∃ kvs k, y = kV k ∧ H5 D = some (.dK kvs) ∧ kvs.length < sizeLine ∧ Nx (upd H5 D (.dK (putK kvs k z))) else Nx H3) := by
  refine ⟨fun i m H => m = n - i ∧ i ≤ n ∧ Pv i H, ⟨n, by simp, Nat.zero_le _, h0⟩, ?_⟩
  rintro i m H ⟨rfl, hi, p⟩
  have q := hG i H hi p
  rcases Nat.lt_or_ge i n with lt | ge
  · exact .inr ⟨wk.goes i H lt q, Pv (i + 1), fun H' p' => ⟨n - (i + 1), by omega, rfl, lt, p'⟩, fun x H' y => hs i x H H' lt p (wk.yields i H x H' lt q y)⟩
  · have e : i = n := by omega
    subst e
    exact .inl ⟨wk.stops H q, hd H p⟩
end My

namespace My
open PySem PySem.Spec PyProof.Rows L2
/-! ### repr of data: it asks that no repr is under way, so a promise that says so is wanted -/
/-- a promise kept where no repr is under way -/
structure FnG (P : Program) (w : World) (K : PySem.W.Frag) (mg : Str → Option Value) (base : Heap) (CX : CXT) (k : Nat) (f : Addr) (fd : FuncData) (ps : List Str) (sp : Sp) : Prop where
  len : ∀ vs H Q E, sp vs H Q E → vs.length = ps.length
  run : ∀ (A : Around), A.guards = some [] → ∀ (outer : List Env) (s : Shared) (H : Hp) (args : Args) (us : List Value) (vs : List V) (Q : VK) (E : XK), Room k A → Env0 P w K mg base A outer s H → BindsTo s fd args (ps.zip us) → Vals vs us → sp vs H Q E →
    codeAny (model P w) A (.call (.ref f) args) (CR CX outer P w H s Q E) s
section
variable {P : Program} {w : World} {K : PySem.W.Frag} {mg : Str → Option Value} {base : Heap} {CX : CXT} {k : Nat} {f : Addr} {fd : FuncData} {ps : List Str} {sp : Sp}
theorem FnG.of (F : FnOk P w K mg base CX k f fd ps sp) : FnG P w K mg base CX k f fd ps sp := ⟨F.len, fun A _ outer s H args us vs Q E => F.run A outer s H args us vs Q E⟩
theorem FnG.mono {j : Nat} (F : FnG P w K mg base CX j f fd ps sp) (h : j ≤ k) : FnG P w K mg base CX k f fd ps sp := ⟨F.len, fun A hg outer s H args us vs Q E hr => F.run A hg outer s H args us vs Q E (hr.mono h)⟩
/-- a def of the text keeps such a promise -/
theorem okG {x qual : Str} {st : Stmt} {N : List Str} (F : Fun K x qual st f fd) (S : FnScope N ps (defScope st)) (len : ∀ vs H Q E, sp vs H Q E → vs.length = ps.length)
    (hbody : ∀ (cdv : Value) (A : Around) (outer : List Env) (s : Shared) (H : Hp) (vs : List V) (Q : VK) (E : XK), A.guards = some [] → Room k (A.deeper (envOfC qual (defScope st) s.heap.objs.size f cdv)) → sp vs H Q E →
      ∃ t, PSs (cxOf CX P w K mg base N qual (defScope st) f cdv A outer s H E) (defBody st) t ∧ t { nx := fun _ H' => Q .non H', rt := Q } (start N vs) H) : FnG P w K mg base CX (k + 1) f fd ps sp := by
  obtain ⟨oc, od, kV, doc, pm, an, cdv, ct, osl, rfl, lk, hcd⟩ := F.ex
  constructor
  · exact len
  intro A hg outer s H args us vs Q E hr e0 hb r hsp
  have up : ∀ b o, base.get? b = some o → s.heap.get? b = some o := fun b o e => (e0.bs b o e).1
  have KX : K.In s.heap := e0.mod.kin.keeps up
  have kinds : ∀ y ∈ ps.zip us, (defScope st).names.lookup y.1 = some .local ∨ ((defScope st).names.lookup y.1 = some .cell ∧ ((cellsFrom (s.heap.objs.size + 1) (defScope st).names []).lookup y.1).isSome = true) := by
    rintro ⟨n, v⟩ hy
    exact (S.par n (List.of_mem_zip hy).1).imp id fun q => ⟨q, PySem.W.cellsFrom_some _ _ _ (.inl q)⟩
  obtain ⟨t, ht, hq⟩ := hbody cdv A outer s H vs Q E hg (hr.deeper _) hsp
  refine codeAny_call_function hr.depth (KX _ _ lk) rfl S.co S.gen rfl (PySem.W.codeRec_of KX hcd) (hb _ _ _ _ (wpAny_newFunctionEnv_cells S.kind kinds fun env he s1 x => ?_))
  subst he
  refine ⟨(e0.mod.nolimit.keeps up).keeps x.toInCall.keep, codeAny_func (wpAny_mono (ht.run [] s1 (start N vs) H _ (inv_start S hr.hd e0 (len _ _ _ _ hsp) r x) hq) (fun fl s' hs => ?_) fun e s' hs => hs)⟩
  match fl, hs with
  | .ret u, ⟨v, _, H', J, rv, q⟩ => exact ⟨v, H', J.os, J.bare, J.base, J.hok, rv, q⟩
  | .next, ⟨_, H', J, q⟩ => exact ⟨.non, H', J.os, J.bare, J.base, J.hok, rfl, q⟩
  | .brk, ⟨_, _, _, q⟩ => exact q.elim
  | .cont, ⟨_, _, _, q⟩ => exact q.elim
end
/-- no exception leaves it -/
theorem okG0 {P : Program} {w : World} {K : PySem.W.Frag} {mg : Str → Option Value} {base : Heap} {k : Nat} {f : Addr} {fd : FuncData} {ps : List Str} {sp : Sp} {x qual : Str} {st : Stmt} {N : List Str} (F : Fun K x qual st f fd) (S : FnScope N ps (defScope st)) (len : ∀ vs H Q E, sp vs H Q E → vs.length = ps.length)
    (hbody : ∀ (cdv : Value) (A : Around) (outer : List Env) (s : Shared) (H : Hp) (vs : List V) (Q : VK) (E : XK), A.guards = some [] → Room k (A.deeper (envOfC qual (defScope st) s.heap.objs.size f cdv)) → sp vs H Q E →
      ∃ t, PSs (cxOf CX0 P w K mg base N qual (defScope st) f cdv A outer s H E).nox (defBody st) t ∧ t { nx := fun _ H' => Q .non H', rt := Q } (start N vs) H) : FnG P w K mg base CX0 (k + 1) f fd ps sp :=
  okG F S len fun cdv A outer s H vs Q E hg hr hsp => let ⟨t, h, q⟩ := hbody cdv A outer s H vs Q E hg hr hsp; ⟨t, h.nox, q⟩
/-- such a callee, with all that a caller needs -/
structure CalG (P : Program) (w : World) (K : PySem.W.Frag) (mg : Str → Option Value) (base : Heap) (k : Nat) (x : Str) (ps : List Str) (sp : Sp) where
  f : Addr
  fd : FuncData
  G : FnG P w K mg base CX0 k f fd ps sp
  b : Binds K fd ps []
  kp : PySem.W.keepIn K (.ref f) = true
  m : mg x = some (.ref f)
section
variable {X : Cx} {CX : CXT} {k : Nat} {f : Addr} {fd : FuncData} {ps : List Str} {sp : Sp} {dvs : List V} {ds : List Value} {E : XK} {x : Str} {p pos : Pos} {e : Expr} {es : List Expr} {t : TA}
theorem pe_callG (F : FnG X.prog X.w X.K X.mg X.base CX k f fd ps sp) (gd : X.A.guards = some []) (hr : Room k X.A) (hg : Gl X x) (hm : X.mg x = some (.ref f)) (hk : PySem.W.keepIn X.K (.ref f) = true) (hb : Binds X.K fd ps ds) (hd : Vals dvs ds) (hx : Passes CX X E)
    (ha : PA X (e :: es) t) (hdb : (x == ("__debug__" : Str)) = false := by decide) (he : starEach (e :: es) X.env = (false, eval e X.env) :: starEach es X.env := by rfl) (hpl : (backTo pos (starEach es X.env)).any (·.1) = false := by rfl) :
    PE X (.Call (.Name x p) (e :: es) [] pos) (tCall sp dvs E t) := by
  constructor
  intro pins s σ H Q I h
  refine wpAny_Call_Name_kw (ld_glob I hg hm (PySem.W.callWith_K (h₀ := X.base) I.ok.mod.kin hk (thn (ha.run pos pins s σ H _ I h) fun us s1 ⟨vs, H1, I1, r, q⟩ => ⟨I1.kIn, ?_⟩) he hpl) hdb)
  have r2 : Vals (vs ++ dvs) (us ++ ds) := r.append hd
  refine wpAny_call (codeAny_mono (F.run X.A gd X.stack s1 H1 ⟨us, []⟩ (us ++ ds) (vs ++ dvs) Q E hr I1.env0 (hb s1 us I1.kIn (by rw [← r2.length]; exact F.len _ _ _ _ q)) r2 q) fun r s' hq => ?_)
  match r, hq with
  | .error e, hq => exact hx pins σ H1 s1 e s' I1 hq
  | .ok (.ret u), hq => exact I1.after hq
  | .ok .next, hq => exact hq.elim
  | .ok .brk, hq => exact hq.elim
  | .ok .cont, hq => exact hq.elim
end
/-! #### how long a repr is -/
mutual
def rlD : PyData → Nat
  | .none => 4
  | .bool _ => 5
  | .int i => i.natAbs.log2 + 2
  | .str x => (reprText x).length
  | .list xs => rlAll xs + 3
  | .tuple xs => rlAll xs + 3
  | .dict _ => 0
def rlAll : List PyData → Nat
  | [] => 0
  | x :: xs => rlD x + 2 + rlAll xs
end
theorem join_le : ∀ ts : List Str, (Str.join ", " ts).length ≤ piled ts
  | [] => Nat.le_refl _
  | t :: r => by have := join_length_add (t :: r) (by simp); omega
mutual
theorem shown_len : ∀ d : PyData, d.hasDict = false → d.shown.length ≤ rlD d
  | .none, _ => by simp only [PyData.shown, rlD]; decide
  | .bool b, _ => by cases b <;> simp only [PyData.shown, rlD] <;> decide
  | .int i, _ => by
    rw [PyData.shown_int]
    have := int_text_length_le (a := i) (k := i.natAbs.log2 + 1) (Nat.succ_pos _) (Nat.lt_succ_self _)
    simp only [rlD]
    rw [PySem.ofString_length]
    omega
  | .str x, _ => by rw [PyData.shown_str]; simp only [rlD]; exact Nat.le_refl _
  | .list xs, h => by
    have h1 := shownAll_len xs (by simpa [PyData.hasDict] using h)
    have h2 := join_le (PyData.shownAll xs)
    rw [PyData.shown_list, strLen_append, strLen_append]
    have e1 : (("[" : String) : Str).length = 1 := rfl
    have e2 : (("]" : String) : Str).length = 1 := rfl
    simp only [rlD]
    omega
  | .tuple xs, h => by
    have h1 := shownAll_len xs (by simpa [PyData.hasDict] using h)
    have h2 := join_le (PyData.shownAll xs)
    rw [PyData.shown_tuple, strLen_append, strLen_append]
    have e1 : (("(" : String) : Str).length = 1 := rfl
    have e2 : (((if xs.length == 1 then ",)" else ")" : String)) : Str).length ≤ 2 := by split <;> decide
    simp only [rlD]
    omega
  | .dict _, h => by simp [PyData.hasDict] at h
theorem shownAll_len : ∀ ds : List PyData, PyData.hasDictAll ds = false → piled (PyData.shownAll ds) ≤ rlAll ds
  | [], _ => by simp only [PyData.shownAll, rlAll]; exact Nat.le_refl _
  | x :: xs, h => by
    have h' : x.hasDict = false ∧ PyData.hasDictAll xs = false := by simpa [PyData.hasDictAll] using h
    have h1 := shown_len x h'.1
    have h2 := shownAll_len xs h'.2
    rw [PyData.shownAll_cons, piled_cons]
    simp only [rlAll]
    omega
end
mutual
theorem dp_noD {K : PySem.W.Frag} {H : Hp} : ∀ (d : PyData) (v : V), Dp K H v d → d.hasDict = false
  | .none, _, _ => by simp only [PyData.hasDict]
  | .bool _, _, _ => by simp only [PyData.hasDict]
  | .int _, _, _ => by simp only [PyData.hasDict]
  | .str _, _, _ => by simp only [PyData.hasDict]
  | .list ds, _, h => by
    cases h with
    | lst hs ha => simp only [PyData.hasDict]; exact dpAll_noD ds _ ha
  | .tuple ds, _, h => by
    cases h with
    | tup hs ha => simp only [PyData.hasDict]; exact dpAll_noD ds _ ha
  | .dict _, _, h => by cases h
theorem dpAll_noD {K : PySem.W.Frag} {H : Hp} : ∀ (ds : List PyData) (vs : List V), DpAll K H vs ds → PyData.hasDictAll ds = false
  | [], _, _ => by simp only [PyData.hasDictAll]
  | d :: ds, _, h => by
    cases h with
    | cons hd ht => simp only [PyData.hasDictAll, dp_noD d _ hd, dpAll_noD ds _ ht, Bool.or_self]
end
/-- what repr takes -/
structure ShOk (d : PyData) : Prop where
  sh : d.showable = true
  dp : d.depth ≤ 20
  sz : rlD d ≤ 16000000
section
variable {X : Cx}
theorem call_reprD (gd : X.A.guards = some []) (hu : X.A.units + 65 < cLine) : CallR X (.builtin "repr") (fun xs H Q => ∃ a d, xs = [.ref a] ∧ Dp X.K H (.ref a) d ∧ ShOk d ∧ Q (.str d.shown) H) := by
  intro pins s σ H xs us Q I r h
  obtain ⟨a, d, rfl, hd, ok, q⟩ := h
  obtain rfl : us = [Value.ref a] := by
    cases r with
    | cons ru r2 =>
      cases r2
      exact congrArg (fun u => [u]) (show _ = Value.ref a from ru)
  obtain ⟨as, rd⟩ := Dp.reads I d (.ref a) (.ref a) hd rfl
  have nd := dp_noD d _ hd
  refine repr_of_reads' rd ok.sh (PyData.noDict_hsm nd) gd (by have := ok.dp; omega) (fun _ _ e => e) (fun h' u tk hk => ⟨.str d.shown, H, I.kept hk, ⟨_, rfl⟩, q⟩) ?_
  have := shown_len d nd
  have := ok.sz
  rw [sizeLine_eq]
  omega
end
abbrev sPur : Stmt := top 81
abbrev sTak : Stmt := top 82
abbrev sAlk : Stmt := top 83
/-! ### the purse: a list of three numbers, drawn from -/
/-- j: how many mixed numbers have been drawn at most -/
def Bg (j : Nat) (H : Hp) (b : Addr) : Prop := ∃ c t n : Int, H b = some (.lst [.int c, .int t, .int n]) ∧ 0 ≤ c ∧ 0 ≤ t ∧ t < 2147483647 ∧ 0 ≤ n ∧ n ≤ (j : Int)
theorem Bg.mono {j k : Nat} {H : Hp} {b : Addr} (h : Bg j H b) (le : j ≤ k) : Bg k H b := by
  obtain ⟨c, t, n, e, h1, h2, h3, h4, h5⟩ := h
  exact ⟨c, t, n, e, h1, h2, h3, h4, by omega⟩
theorem Bg.ne {j : Nat} {H : Hp} {b p : Addr} (h : Bg j H b) (n : H p = none) : b ≠ p := by
  obtain ⟨c, t, k, e, _⟩ := h
  exact ne_of_none e n
theorem Bg.keep {j : Nat} {H H' : Hp} {b : Addr} (h : Bg j H b) (s : Same H H') : Bg j H' b := by
  obtain ⟨c, t, n, e, r⟩ := h
  exact ⟨c, t, n, s _ _ e, r⟩
/-- the most that is drawn of at once: 2 ** 1000 -/
def takeMax : Int := 2 ^ 1000
def spPur (K : PySem.W.Frag) : Sp := fun vs H Q _ => ∃ (a : Addr) (ns : List Int) (k : Nat), vs = [.ref a, .int (k : Nat)] ∧ SqL K H a (ns.map V.int) ∧ ns.length ≤ 63 ∧ k < 64 ∧ ∀ H' p, Same H H' → H p = none → Bg 0 H' p → Q (.ref p) H'
def spTak : Sp := fun vs H Q _ => ∃ (b : Addr) (m : Int) (j : Nat), vs = [.ref b, .int m] ∧ Bg j H b ∧ 0 < m ∧ m < takeMax ∧ j ≤ 2 ^ 50 ∧ ∀ H' r, Fr b H H' → Bg (j + 50) H' b → 0 ≤ r → r < m → Q (.int r) H'
theorem reach_lt {i : Nat} {m : Int} (h : ((16777216 ^ i : Nat) : Int) < m) (hm : m < takeMax) : i ≤ 41 := by
  have h1 : ((16777216 ^ i : Nat) : Int) < ((2 ^ 1000 : Nat) : Int) := by
    have : takeMax = ((2 ^ 1000 : Nat) : Int) := by decide +kernel
    omega
  have h2 : 16777216 ^ i < 2 ^ 1000 := Int.ofNat_lt.mp h1
  rw [show (16777216 : Nat) = 2 ^ 24 from rfl, ← Nat.pow_mul] at h2
  have := (Nat.pow_lt_pow_iff_right (by decide : 1 < 2)).mp h2
  omega
section
variable {P : Program} {w : World} {K : PySem.W.Frag} {mg : Str → Option Value} {base : Heap}
theorem scPur : FnScope ["_law_script", "_law_at", "_law_cell", "_law_far"] ["_law_script", "_law_at"] (defScope sPur) := ⟨rfl, rfl, rfl, by decide +kernel, rfl, by decide +kernel, by decide +kernel⟩
theorem ok_pur {f : Addr} {fd : FuncData} (F : Fun K "_law_purse" "_law_purse" sPur f fd) (T : Gs K mg) (ab : mg "abs" = none) : FnOk P w K mg base CX0 1 f fd ["_law_script", "_law_at"] (spPur K) := by
  refine F.ok scPur (fun vs H Q E h => ?_) (fun cdv A outer s H vs Q E hr h => ?_)
  · obtain ⟨a, ns, k, rfl, _⟩ := h
    rfl
  obtain ⟨a, ns, k, rfl, hS, h63, hk, q⟩ := h
  refine ⟨_, (pss_cons (ps_set (i := 2) scPur.nd rfl (.inl rfl) (pe_ifExp (pt_cmpR op_lt (pv 1) (pe_callB call_len_seq (by rfl) T.len PySem.boot_len (pa_cons (pv 0) pa_nil)) (nomark _)) (pe_ix ix_list (pv 0) (pv 1) (fun _ _ => rfl)) pe_int))
    (pss_cons (ps_set (i := 3) scPur.nd rfl (.inl rfl) (pe_callB call_abs (by rfl) ab (by decide +kernel) (pa_cons (pv 2) pa_nil)))
    (pss_one (ps_ret (pe_lst (pa_cons (pe_op op_mul (pv 3) (pe_callTy call_int1 (by rfl) T.int (by decide +kernel) (pa_cons (pe_cmpR op_ge (pv 3) (pe_op op_pow pe_int pe_int) (nomark _)) pa_nil))) (pa_cons (pe_op op_mod (pe_op op_add (pe_op op_add (pe_op op_mod (pv 2) pe_int) (pe_op op_mul pe_int (pv 1))) pe_int) pe_int) (pa_cons pe_int pa_nil)))))))), ?_⟩
  have hl : (ns.map V.int).length = ns.length := List.length_map _
  have fin : ∀ (far : Int) (z : Int), 0 ≤ far → ∀ p, H p = none → Q (.ref p) (upd H p (.lst [.int (far * (if decide ((10 : Int) ^ (18 : Int).toNat ≤ far) then 1 else 0)), .int (z % 2147483647), .int 0])) := fun far z h0 p np => by
    refine q _ p (same_new np _) np ⟨_, _, _, upd_same, ?_, Int.emod_nonneg z (by decide), Int.emod_lt_of_pos z (by decide), Int.le_refl 0, Int.le_refl 0⟩
    split
    · omega
    · omega
  refine ⟨_, rfl, _, rfl, a, _, rfl, .inl hS, _, _, rfl, rfl, _, rfl, ?_⟩
  refine ite2 (fun c => ?_) (fun c => ?_)
  · have c' := of_decide_eq_true c
    rw [hl] at c'
    have hkn : k < ns.length := by omega
    have hat : atI (ns.map V.int) ((k : Nat) : Int) = some (.int ns[k]) := atI_nat (by rw [List.getElem?_map, List.getElem?_eq_getElem hkn]; rfl)
    have h0 : 0 ≤ (if ns[k] < 0 then -ns[k] else ns[k]) := by split <;> omega
    refine ⟨_, rfl, _, rfl, a, _, _, _, rfl, rfl, hS, hat, _, rfl, _, rfl, ?_⟩
    exact ⟨_, rfl, _, rfl, _, _, rfl, rfl, ⟨by decide, by decide, by decide⟩, _, _, rfl, rfl, .inr ⟨_, rfl, _, _, rfl, rfl, Or.inr (one_or _), _, rfl, _, _, rfl, rfl, (by show (0 : Int) < 2147483647; decide), _, rfl, _, _, rfl, rfl, .inl (by decide), _, _, rfl, rfl, _, _, rfl, rfl, _, _, rfl, rfl, (by show (0 : Int) < 2147483647; decide), (by show 3 ≤ sizeLine; decide), fun p np => fin _ _ h0 p np⟩⟩
  · refine ⟨_, rfl, _, rfl, ?_⟩
    exact ⟨_, rfl, _, rfl, _, _, rfl, rfl, ⟨by decide, by decide, by decide⟩, _, _, rfl, rfl, .inr ⟨_, rfl, _, _, rfl, rfl, Or.inr (one_or _), _, rfl, _, _, rfl, rfl, (by show (0 : Int) < 2147483647; decide), _, rfl, _, _, rfl, rfl, .inl (by decide), _, _, rfl, rfl, _, _, rfl, rfl, _, _, rfl, rfl, (by show (0 : Int) < 2147483647; decide), (by show 3 ≤ sizeLine; decide), fun p np => fin _ _ (by decide) p np⟩⟩
theorem scTak : FnScope ["_law_bag", "_law_many", "_law_digit", "_law_found", "_law_reach"] ["_law_bag", "_law_many"] (defScope sTak) := ⟨rfl, rfl, rfl, by decide +kernel, rfl, by decide +kernel, by decide +kernel⟩
theorem ok_tak {f : Addr} {fd : FuncData} (F : Fun K "_law_take" "_law_take" sTak f fd) : FnOk P w K mg base CX0 1 f fd ["_law_bag", "_law_many"] spTak := by
  refine F.ok scTak (fun vs H Q E h => ?_) (fun cdv A outer s H vs Q E hr h => ?_)
  · obtain ⟨b, m, j, rfl, _⟩ := h
    rfl
  obtain ⟨b, m, j, rfl, hB, m0, m1, hj, q⟩ := h
  refine ⟨_, (pss_cons (ps_if (pt_cmpR op_gt (pe_ix ix_list (pv 0) pe_int (fun _ _ => rfl)) pe_int (nomark _))
      (pss_cons (ps_set (i := 2) scTak.nd rfl (.inl rfl) (pe_op op_mod (pe_ix ix_list (pv 0) pe_int (fun _ _ => rfl)) (pv 1)))
      (pss_cons (ps_asg (pe_op op_fdivW (pe_ix ix_list (pv 0) pe_int (fun _ _ => rfl)) (pv 1)) (pg_sub (pv 0) pe_int set_list))
      (pss_one (ps_ret (pv 2)))))
      pss_nil)
    (pss_cons (ps_asg (pe_tup (pa_cons pe_int (pa_cons pe_int pa_nil))) (pg_tup (by rfl) (pgs_cons (pg_name (i := 3) scTak.nd rfl (.inl rfl)) (pgs_cons (pg_name (i := 4) scTak.nd rfl (.inl rfl)) pgs_nil))))
    (pss_cons (ps_while PassesOwn.never (pt_cmpR op_lt (pv 4) (pv 1) (nomark _))
      (pss_cons (ps_asg (pe_op op_add (pe_ix ix_list (pv 0) pe_int (fun _ _ => rfl)) pe_int) (pg_sub (pv 0) pe_int set_list))
      (pss_cons (ps_asg (pe_op op_mod (pe_op op_add (pe_op op_add (pe_op op_mul (pe_ix ix_list (pv 0) pe_int (fun _ _ => rfl)) pe_int) (pe_op op_mul (pe_op op_mul pe_int (pe_ix ix_list (pv 0) pe_int (fun _ _ => rfl))) (pe_ix ix_list (pv 0) pe_int (fun _ _ => rfl)))) pe_int) pe_int) (pg_sub (pv 0) pe_int set_list))
      (pss_cons (ps_set (i := 3) scTak.nd rfl (.inl rfl) (pe_op op_add (pe_op op_mul (pv 3) pe_int) (pe_op op_mod (pe_op op_fdiv (pe_op op_mod (pe_op op_mul (pe_ix ix_list (pv 0) pe_int (fun _ _ => rfl)) (pe_op op_add (pe_op op_fdiv (pe_ix ix_list (pv 0) pe_int (fun _ _ => rfl)) pe_int) pe_int)) pe_int) pe_int) pe_int)))
      (pss_one (ps_set (i := 4) scTak.nd rfl (.inl rfl) (pe_op op_mul (pv 4) pe_int)))))))
    (pss_one (ps_ret (pe_op op_mod (pv 3) (pv 1))))))), ?_⟩
  obtain ⟨c, t, n, hb, c0, t0, t1, n0, n1⟩ := id hB
  refine ⟨_, rfl, b, _, _, _, rfl, rfl, SqL.of hb, atI_nat (j := 0) rfl, _, _, rfl, rfl, _, rfl, ?_⟩
  have md : CDivW c m := wide_div m0 (b := 1000) (by have : takeMax = 2 ^ 1000 := rfl; omega) (by decide) (by decide)
  by_cases h : (0 : Int) < c
  · rw [decide_eq_true h]
    refine iteT ⟨_, rfl, b, _, _, _, rfl, rfl, SqL.of hb, atI_nat (j := 0) rfl, _, rfl, _, _, rfl, rfl, m0, ?_⟩
    refine ⟨_, rfl, b, _, _, _, rfl, rfl, SqL.of hb, atI_nat (j := 0) rfl, _, rfl, _, _, rfl, rfl, md, _, rfl, b, _, _, 0, rfl, rfl, hb, rfl, ?_⟩
    exact ⟨_, rfl, q _ _ (Fr.upd _) ⟨c / m, t, n, upd_same, Int.ediv_nonneg c0 (by omega), t0, t1, n0, by omega⟩ (Int.emod_nonneg _ (by omega)) (Int.emod_lt_of_pos _ m0)⟩
  · rw [decide_eq_false h]
    refine iteF ⟨(by show 2 ≤ sizeLine; decide), fun tp ntp => ⟨tp, _, rfl, SqT.of upd_same, rfl, ?_⟩⟩
    refine ⟨_, _, rfl, _, _, rfl, rfl, seq_while ?_⟩
    refine while_m (fun d σ H' => ∃ (x : Int) (i : Nat), σ = [some (.ref b), some (.int m), none, some (.int x), some (.int ((16777216 ^ i : Nat) : Int))] ∧ Fr b H H' ∧ Bg (j + i) H' b ∧ i ≤ 42 ∧ d = 42 - i) (m0 := 42) ⟨0, 0, rfl, Fr.of (same_new ntp _), hB.keep (same_new ntp _), by decide, rfl⟩ ?_ ?_
    · rintro d σ H' ⟨x, i, rfl, f1, ⟨c', t', n', hb', c0', t0', t1', n0', n1'⟩, hi, rfl⟩
      refine ⟨_, rfl, _, rfl, _, _, rfl, rfl, _, rfl, ?_⟩
      by_cases lt : ((16777216 ^ i : Nat) : Int) < m
      · rw [decide_eq_true lt]
        have hi2 := reach_lt lt m1
        refine iteT ⟨_, rfl, b, _, _, _, rfl, rfl, SqL.of hb', atI_nat (j := 2) rfl, _, _, rfl, rfl, _, rfl, b, _, _, 2, rfl, rfl, hb', rfl, ?_⟩
        have e2 : (upd H' b (.lst ([V.int c', V.int t', V.int n'].set 2 (V.int (n' + 1))))) b = some (.lst [.int c', .int t', .int (n' + 1)]) := upd_same
        have f2 : Fr b H' (upd H' b (.lst ([V.int c', V.int t', V.int n'].set 2 (V.int (n' + 1))))) := Fr.upd _
        generalize upd H' b (.lst ([V.int c', V.int t', V.int n'].set 2 (V.int (n' + 1)))) = H2 at e2 f2 ⊢
        refine ⟨_, rfl, b, _, _, _, rfl, rfl, SqL.of e2, atI_nat (j := 1) rfl, _, _, rfl, rfl, .inr (by decide), _, rfl, b, _, _, _, rfl, rfl, SqL.of e2, atI_nat (j := 2) rfl, _, _, rfl, rfl, .inl (by decide),
          _, rfl, b, _, _, _, rfl, rfl, SqL.of e2, atI_nat (j := 2) rfl, _, _, rfl, rfl, .inr ⟨by omega, by omega⟩, _, _, rfl, rfl, _, _, rfl, rfl, _, _, rfl, rfl, (by show (0 : Int) < 2147483647; decide), _, rfl, b, _, _, 1, rfl, rfl, e2, rfl, ?_⟩
        have u0 : 0 ≤ ((t' * 48271 + 31 * (n' + 1) * (n' + 1) + 11) % 2147483647) := Int.emod_nonneg _ (by decide)
        have u1 : ((t' * 48271 + 31 * (n' + 1) * (n' + 1) + 11) % 2147483647) < 2147483647 := Int.emod_lt_of_pos _ (by decide)
        have e3 : (upd H2 b (.lst ([V.int c', V.int t', V.int (n' + 1)].set 1 (V.int ((t' * 48271 + 31 * (n' + 1) * (n' + 1) + 11) % 2147483647))))) b = some (.lst [.int c', .int ((t' * 48271 + 31 * (n' + 1) * (n' + 1) + 11) % 2147483647), .int (n' + 1)]) := upd_same
        have f3 : Fr b H2 (upd H2 b (.lst ([V.int c', V.int t', V.int (n' + 1)].set 1 (V.int ((t' * 48271 + 31 * (n' + 1) * (n' + 1) + 11) % 2147483647))))) := Fr.upd _
        generalize upd H2 b (.lst ([V.int c', V.int t', V.int (n' + 1)].set 1 (V.int ((t' * 48271 + 31 * (n' + 1) * (n' + 1) + 11) % 2147483647)))) = H3 at e3 f3 ⊢
        generalize ((t' * 48271 + 31 * (n' + 1) * (n' + 1) + 11) % 2147483647) = u at u0 u1 e3 ⊢
        refine ⟨_, rfl, _, _, rfl, rfl, .inr (by decide), _, rfl, b, _, _, _, rfl, rfl, SqL.of e3, atI_nat (j := 1) rfl, _, rfl, b, _, _, _, rfl, rfl, SqL.of e3, atI_nat (j := 1) rfl, _, _, rfl, rfl, ⟨by decide, by decide⟩, _, _, rfl, rfl, _, _, rfl, rfl, .inl ⟨by omega, by omega⟩,
          _, _, rfl, rfl, (by show (0 : Int) < 2147483629; decide), _, _, rfl, rfl, ⟨by decide, by decide⟩, _, _, rfl, rfl, (by show (0 : Int) < 16777216; decide), _, _, rfl, rfl, ?_⟩
        refine ⟨_, rfl, _, _, rfl, rfl, .inr (by decide), ?_⟩
        refine ⟨42 - (i + 1), by omega, x * 16777216 + u * (u / 65536 + 7) % 2147483629 / 64 % 16777216, i + 1, ?_, f1.trans (f2.trans f3), ⟨c', u, n' + 1, e3, c0', u0, u1, by omega, by omega⟩, by omega, rfl⟩
        have e16 : ((16777216 ^ (i + 1) : Nat) : Int) = ((16777216 ^ i : Nat) : Int) * 16777216 := by rw [Nat.pow_succ, Int.natCast_mul]; rfl
        rw [e16]
        rfl
      · rw [decide_eq_false lt]
        exact iteF ⟨_, rfl, _, rfl, _, _, rfl, rfl, m0, q _ _ f1 ⟨c', t', n', hb', c0', t0', t1', n0', by omega⟩ (Int.emod_nonneg _ (by omega)) (Int.emod_lt_of_pos _ m0)⟩
    · rintro σ H' Q1 Q2 h ⟨v, e, v2, e2, i, k, e3, e4, z, e5, q⟩
      exact ⟨v, e, v2, e2, i, k, e3, e4, z, e5, h _ _ q⟩
/-! ### _law_alike: both reprs are the same text -/
theorem scAlk : FnScope ["_law_found", "_law_due"] ["_law_found", "_law_due"] (defScope sAlk) := ⟨rfl, rfl, rfl, by decide +kernel, rfl, by decide +kernel, by decide +kernel⟩
def spAlk (K : PySem.W.Frag) : Sp := fun vs H Q _ => ∃ (a b : Addr) (d : PyData), vs = [.ref a, .ref b] ∧ Dp K H (.ref a) d ∧ Dp K H (.ref b) d ∧ ShOk d ∧ Q (.bl true) H
theorem ok_alk {f : Addr} {fd : FuncData} (F : Fun K "_law_alike" "_law_alike" sAlk f fd) (mr : mg "repr" = none) : FnG P w K mg base CX0 1 f fd ["_law_found", "_law_due"] (spAlk K) := by
  refine okG0 F scAlk (fun vs H Q E h => ?_) (fun cdv A outer s H vs Q E hg hr h => ?_)
  · obtain ⟨a, b, d, rfl, _⟩ := h
    rfl
  obtain ⟨a, b, d, rfl, h1, h2, ok, q⟩ := h
  refine ⟨_, (pss_one (ps_ret (pe_cmpR op_eq (pe_callB (call_reprD hg (hu65 hr)) (by rfl) mr (by decide +kernel) (pa_cons (pv 0) pa_nil)) (pe_callB (call_reprD hg (hu65 hr)) (by rfl) mr (by decide +kernel) (pa_cons (pv 1) pa_nil)) (nomark _)))), ?_⟩
  refine ⟨_, rfl, a, d, rfl, h1, ok, _, rfl, b, d, rfl, h2, ok, rfl, ?_⟩
  rw [decide_eq_true rfl]
  exact q
end
abbrev sMost : Stmt := top 37
abbrev sBus : Stmt := top 38
abbrev sPat : Stmt := top 39
/-! ### bounds: most_acts, busiest -/
def mostStep (acc : List Int) (z : Str) : List Int := acc ++ [if z = "collector" then 1 else 1 + acc.sum]
def mostM (zs : List Str) : List Int := zs.foldl mostStep []
theorem mostM_take {zs : List Str} {i : Nat} {z : Str} (e : zs[i]? = some z) : mostM (zs.take (i + 1)) = mostStep (mostM (zs.take i)) z := by
  unfold mostM
  rw [List.take_add_one, e]
  show List.foldl mostStep [] (zs.take i ++ [z]) = _
  rw [List.foldl_append]
  rfl
theorem mostM_len (zs : List Str) : (mostM zs).length = zs.length := by
  unfold mostM
  have : ∀ (l : List Str) (acc : List Int), (l.foldl mostStep acc).length = acc.length + l.length := by
    intro l
    induction l with
    | nil => intro acc; rfl
    | cons a r ih =>
      intro acc
      rw [List.foldl_cons, ih]
      unfold mostStep
      rw [List.length_append, List.length_cons, List.length_cons, List.length_nil]
      omega
  rw [this, List.length_nil, Nat.zero_add]
def ansD : PyData := .tuple [.str "answer", .int 0]
def patD (L : Int) : PyData := .tuple [.str "teller", .tuple (if L = 1 then [ansD] else [.tuple [.str "wait", .int (L - 1)], ansD])]
def progsUp (n : Nat) : List PyData := (List.range n).map fun i => patD ((2 ^ i : Nat) : Int)
def progsD (n : Nat) : List PyData := (progsUp n).reverse
theorem progsUp_succ (n : Nat) : progsUp (n + 1) = progsUp n ++ [patD ((2 ^ n : Nat) : Int)] := by
  unfold progsUp
  rw [List.range_succ, List.map_append]
  rfl
theorem dpAll_app {K : PySem.W.Frag} {H : Hp} : ∀ {xs ys : List V} {ds es : List PyData}, DpAll K H xs ds → DpAll K H ys es → DpAll K H (xs ++ ys) (ds ++ es)
  | _, _, _, _, .nil, h => h
  | _, _, _, _, .cons a t, h => .cons a (dpAll_app t h)
theorem dpAll_rev {K : PySem.W.Frag} {H : Hp} : ∀ {xs : List V} {ds : List PyData}, DpAll K H xs ds → DpAll K H xs.reverse ds.reverse
  | _, _, .nil => .nil
  | _, _, .cons a t => by
    rw [List.reverse_cons, List.reverse_cons]
    exact dpAll_app (dpAll_rev t) (.cons a .nil)
theorem patD_noL (i : Int) : noL (patD i) = true := by
  unfold patD ansD
  split <;> simp [noL, noLAll]
theorem noLAll_app : ∀ {xs ys : List PyData}, noLAll xs = true → noLAll ys = true → noLAll (xs ++ ys) = true
  | [], _, _, h => h
  | x :: r, ys, h, g => by
    simp only [noLAll, Bool.and_eq_true, List.cons_append] at h ⊢
    exact ⟨h.1, noLAll_app h.2 g⟩
theorem progsUp_noL : ∀ n, noLAll (progsUp n) = true
  | 0 => rfl
  | n + 1 => by
    rw [progsUp_succ]
    exact noLAll_app (progsUp_noL n) (by simp [noLAll, patD_noL])
theorem kT_lst {H : Hp} {D : Addr} {xs ys : List V} (e : H D = some (.lst xs)) : ∀ a o, tupO o → H a = some o → (upd H D (.lst ys)) a = some o := fun a o t h => by
  have n : a ≠ D := fun z => by
    rw [z, e] at h
    cases h
    exact t
  rw [upd_ne n]
  exact h
def spMost (K : PySem.W.Frag) : Sp := fun vs H Q _ => ∃ (a : Addr) (zs : List Str), vs = [.ref a] ∧ SqL K H a (zs.map V.str) ∧ zs.length ≤ 1000 ∧ ∀ H' p, Same H H' → H p = none → H' p = some (.lst ((mostM zs).map V.int)) → Q (.ref p) H'
def spPat (K : PySem.W.Frag) : Sp := fun vs H Q _ => ∃ (i : Int), vs = [.int i] ∧ ∀ H' v, Same H H' → Dp K H' v (patD i) → Q v H'
def spBus (K : PySem.W.Frag) : Sp := fun vs H Q _ => ∃ (n : Nat), vs = [.int (n : Nat)] ∧ 1 ≤ n ∧ n ≤ 8 ∧ ∀ H' p xs, Same H H' → H p = none → H' p = some (.lst xs) → DpAll K H' xs (progsD n) → Q (.ref p) H'
def spBusX (K : PySem.W.Frag) (cS : Addr) : Sp := fun vs H Q E => ∃ (v : V) (d : PyData), vs = [v] ∧ Dp K H v d ∧ intIn d 1 8 = false ∧ ∀ H', Same H H' → E (.ref cS) none H'
/-- what the top has written of an error of the house's that is raised -/
structure EkS (K : PySem.W.Frag) (C cH : Addr) : Prop where
  x : PySem.W.excIn K C [.type "ValueError", .type "Exception", .type "BaseException", .type "object"] "ValueError.__new__" = true
  k : PySem.W.keepIn K (.ref C) = true
  b : PySem.W.subIn K (.ref C) (.type "BaseException") = some true
  t : PySem.W.typeIn K (.ref C) = some (.type "type")
  e : PySem.W.exmOne K (.ref C) (.ref cH) = some true
  c : ExcC K C
structure ErS (K : PySem.W.Frag) (mg : Str → Option Value) where
  cS : Addr
  cH : Addr
  gS : mg "BadSteps" = some (.ref cS)
  gH : mg "HouseError" = some (.ref cH)
  S : EkS K cS cH
section
variable {P : Program} {w : World} {K : PySem.W.Frag} {mg : Str → Option Value} {base : Heap}
theorem scMost : FnScope ["kinds", "numbers", "kind"] ["kinds"] (defScope sMost) := ⟨rfl, rfl, rfl, by decide +kernel, rfl, by decide +kernel, by decide +kernel⟩
theorem ok_Most {f : Addr} {fd : FuncData} (F : Fun K "most_acts" "most_acts" sMost f fd) (ms : mg "sum" = none) : FnOk P w K mg base CX0 1 f fd ["kinds"] (spMost K) := by
  refine F.ok scMost (fun vs H Q E h => ?_) (fun cdv A outer s H vs Q E hr h => ?_)
  · obtain ⟨a, zs, rfl, _⟩ := h
    rfl
  obtain ⟨a, zs, rfl, hS, hz, q⟩ := h
  refine ⟨_, (pss_cons (ps_set (i := 1) scMost.nd rfl (.inl rfl) (pe_lst pa_nil))
    (pss_cons (ps_for PassesOwn.never rfl (pi_list (pv 0)) (pg_name (i := 2) scMost.nd rfl (.inl rfl))
      (pss_one (ps_expr (pe_bm PySem.F.plainAttrs_list PySem.F.slot_list_append PySem.F.type_list_append mt_append (pv 1) (pa_cons (pe_ifExp (pt_cmpR op_eq (pv 2) pe_str (nomark _)) pe_int (pe_op op_add pe_int (pe_callB (cr_sum rfl) (by rfl) ms (by decide +kernel) (pa_cons (pv 1) pa_nil)))) pa_nil)))))
    (pss_one (ps_ret (pv 1))))), ?_⟩
  refine ⟨(by show 0 ≤ sizeLine; decide), fun D nD => ?_⟩
  have u1 := same_new nD (.lst [])
  have e1 : (upd H D (.lst [])) D = some (.lst []) := upd_same
  generalize upd H D (.lst []) = H1 at u1 e1 ⊢
  have hnD : a ≠ D ∨ True := .inr trivial
  refine ⟨_, rfl, a, rfl, ⟨_, Same.seq u1 hS⟩, for_it (walk_list (K := K) (a := a) (xs := zs.map V.str)) (fun i σ Hx => ∃ s2 : Option V, σ = [some (.ref a), some (.ref D), s2] ∧ Same H Hx ∧ Hx D = some (.lst ((mostM (zs.take i)).map V.int))) ⟨none, rfl, u1, e1⟩ (fun i σ Hx _ ⟨_, _, sx, _⟩ => Same.seq sx hS) ?_ ?_⟩
  · rintro i x σ Hx H2 hi ⟨s2, rfl, sx, eD⟩ ⟨rfl, hx⟩
    obtain ⟨z, hz1, hz2⟩ : ∃ z, zs[i]? = some z ∧ x = .str z := by
      rw [List.getElem?_map] at hx
      cases e : zs[i]? with
      | none => rw [e] at hx; cases hx
      | some z => rw [e] at hx; cases hx; exact ⟨z, rfl, rfl⟩
    subst hz2
    have hlen : ((mostM (zs.take i)).map V.int).length < sizeLine := by
      rw [List.length_map, mostM_len, List.length_take]
      exact Nat.lt_of_le_of_lt (Nat.le_trans (Nat.min_le_right _ _) hz) (by decide)
    have nx : ∀ r : Int, r = (if z = "collector" then 1 else 1 + (mostM (zs.take i)).sum) → ∃ s2 : Option V, [some (V.ref a), some (V.ref D), some (V.str z)] = [some (.ref a), some (.ref D), s2] ∧ Same H (upd H2 D (.lst ((mostM (zs.take i)).map V.int ++ [.int r]))) ∧ (upd H2 D (.lst ((mostM (zs.take i)).map V.int ++ [.int r]))) D = some (.lst ((mostM (zs.take (i + 1))).map V.int)) := fun r er => by
      refine ⟨_, rfl, fun p o e => ?_, ?_⟩
      · rw [upd_ne (ne_of_none e nD)]
        exact sx p o e
      · rw [upd_same, mostM_take hz1, er]
        unfold mostStep
        rw [List.map_append]
        rfl
    refine ⟨_, rfl, .inl ⟨rfl, _, SqL.of eD⟩, _, rfl, rfl, _, rfl, ?_⟩
    refine ite2 (fun c => ?_) (fun c => ?_)
    · exact ⟨D, _, _, rfl, rfl, eD, hlen, nx 1 (by rw [if_pos (by have := of_decide_eq_true c; injection this)])⟩
    · refine ⟨_, rfl, D, mostM (zs.take i), rfl, SqL.of eD, _, _, rfl, rfl, D, _, _, rfl, rfl, eD, hlen, nx _ ?_⟩
      rw [if_neg (fun e => c (by rw [e]; exact decide_eq_true rfl))]
  · rintro σ Hx ⟨s2, rfl, sx, eD⟩
    rw [List.length_map, List.take_length] at eD
    exact ⟨_, rfl, q Hx D sx nD eD⟩
theorem scPat : FnScope ["length", "answer"] ["length"] (defScope sPat) := ⟨rfl, rfl, rfl, by decide +kernel, rfl, by decide +kernel, by decide +kernel⟩
theorem ok_Pat {f : Addr} {fd : FuncData} (F : Fun K "patient_teller" "patient_teller" sPat f fd) : FnOk P w K mg base CX0 1 f fd ["length"] (spPat K) := by
  refine F.ok scPat (fun vs H Q E h => ?_) (fun cdv A outer s H vs Q E hr h => ?_)
  · obtain ⟨i, rfl, _⟩ := h
    rfl
  obtain ⟨i, rfl, q⟩ := h
  refine ⟨_, (pss_cons (ps_set (i := 1) scPat.nd rfl (.inl rfl) (pe_tup (pa_cons pe_str (pa_cons pe_int pa_nil))))
    (pss_one (ps_ret (pe_tup (pa_cons pe_str (pa_cons (pe_ifExp (pt_cmpR op_eq (pv 0) pe_int (nomark _)) (pe_tup (pa_cons (pv 1) pa_nil)) (pe_tup (pa_cons (pe_tup (pa_cons pe_str (pa_cons (pe_op op_sub (pv 0) pe_int) pa_nil))) (pa_cons (pv 1) pa_nil)))) pa_nil)))))), ?_⟩
  refine ⟨(by show 2 ≤ sizeLine; decide), fun pa npa => ?_⟩
  have u1 := same_new npa (.tup [.str "answer", .int 0])
  have e1 : (upd H pa (.tup [.str "answer", .int 0])) pa = some (.tup [.str "answer", .int 0]) := upd_same
  generalize upd H pa (.tup [.str "answer", .int 0]) = H1 at u1 e1 ⊢
  have da : Dp K H1 (.ref pa) ansD := .tup (SqT.of e1) (.cons (.str _) (.cons (.int _) .nil))
  refine ⟨_, rfl, rfl, _, rfl, ?_⟩
  refine ite2 (fun c => ?_) (fun c => ?_)
  · have hi : i = 1 := by have := of_decide_eq_true c; injection this
    subst hi
    refine ⟨_, rfl, (by show 1 ≤ sizeLine; decide), fun p2 n2 => ⟨(by show 2 ≤ sizeLine; decide), fun p3 n3 => ?_⟩⟩
    have u2 := same_new n2 (.tup [.ref pa])
    have u3 := same_new n3 (.tup [.str "teller", .ref p2])
    exact q _ _ (u1.trans (u2.trans u3)) (.tup (SqT.of upd_same) (.cons (.str _) (.cons (.tup (SqT.of (u3 _ _ upd_same)) (.cons (dp_mono (u2.trans u3) _ _ da) .nil)) .nil)))
  · have hi : ¬ i = 1 := fun e => c (by rw [e]; exact decide_eq_true rfl)
    refine ⟨_, rfl, _, _, rfl, rfl, (by show 2 ≤ sizeLine; decide), fun p0 n0 => ⟨_, rfl, (by show 2 ≤ sizeLine; decide), fun p2 n2 => ⟨(by show 2 ≤ sizeLine; decide), fun p3 n3 => ?_⟩⟩⟩
    have u0 := same_new n0 (.tup [.str "wait", .int (i - 1)])
    have u2 := same_new n2 (.tup [.ref p0, .ref pa])
    have u3 := same_new n3 (.tup [.str "teller", .ref p2])
    refine q _ _ (u1.trans (u0.trans (u2.trans u3))) ?_
    unfold patD
    rw [if_neg hi]
    exact .tup (SqT.of upd_same) (.cons (.str _) (.cons (.tup (SqT.of (u3 _ _ upd_same)) (.cons (.tup (SqT.of (u3 _ _ (u2 _ _ upd_same))) (.cons (.str _) (.cons (.int _) .nil))) (.cons (dp_mono (u0.trans (u2.trans u3)) _ _ da) .nil))) .nil))
theorem scBus : FnScope ["many", "programs", "length", "place"] ["many"] (defScope sBus) := ⟨rfl, rfl, rfl, by decide +kernel, rfl, by decide +kernel, by decide +kernel⟩
theorem ok_Bus {f : Addr} {fd : FuncData} (F : Fun K "busiest" "busiest" sBus f fd) (mr : mg "range" = none) {tk : Tok} (gM : mg "MOST_TELLERS" = some (.int 8 tk)) (CI : Cal P w K mg base 2 "is_integer_from_to" ["thing", "least", "greatest"] (spInt K)) (CP : Cal P w K mg base 1 "patient_teller" ["length"] (spPat K)) : FnOk P w K mg base CX0 3 f fd ["many"] (spBus K) := by
  refine F.ok scBus (fun vs H Q E h => ?_) (fun cdv A outer s H vs Q E hr h => ?_)
  · obtain ⟨n, rfl, _⟩ := h
    rfl
  obtain ⟨n, rfl, n1, n8, q⟩ := h
  have hr1 : Room 1 _ := hr.mono (by decide)
  refine ⟨_, (pss_cons (ps_if (pt_not (pt_val (pe_call CI.G hr rfl CI.m CI.kp CI.b .nil pass0 (pa_cons (pv 0) (pa_cons pe_int (pa_cons (pe_gint rfl gM) pa_nil)))))) (pss_one ps_never) pss_nil)
    (pss_cons (ps_set (i := 1) scBus.nd rfl (.inl rfl) (pe_lst pa_nil))
    (pss_cons (ps_set (i := 2) scBus.nd rfl (.inl rfl) pe_int)
    (pss_cons (ps_for PassesOwn.never rfl (pi_range1 (by rfl) mr (pa_cons (pv 0) pa_nil)) (pg_name (i := 3) scBus.nd rfl (.inl rfl))
      (pss_cons (ps_expr (pe_bm PySem.F.plainAttrs_list PySem.F.slot_list_append PySem.F.type_list_append mt_append (pv 1) (pa_cons (pe_call CP.G hr1 rfl CP.m CP.kp CP.b .nil pass0 (pa_cons (pv 2) pa_nil)) pa_nil)))
      (pss_one (ps_aug (i := 2) scBus.nd rfl (.inl rfl) pe_int iop_mul))))
    (pss_one (ps_ret (pe_revL (pv 1)))))))), ?_⟩
  refine ⟨_, rfl, .int (n : Nat), .int (n : Nat), 1, 8, rfl, .int _, _, rfl, ?_⟩
  have hin : intIn (.int ((n : Nat) : Int)) 1 8 = true := by
    unfold intIn
    rw [Bool.and_eq_true]
    exact ⟨decide_eq_true (by omega), decide_eq_true (by omega)⟩
  rw [hin]
  refine iteF ⟨(by show 0 ≤ sizeLine; decide), fun D nD => ?_⟩
  have u1 := same_new nD (.lst [])
  have e1 : (upd H D (.lst [])) D = some (.lst []) := upd_same
  generalize upd H D (.lst []) = H1 at u1 e1 ⊢
  refine ⟨_, rfl, _, rfl, by omega, by omega, ?_⟩
  refine for_range (lo := 0) (n := n) (fun i σ Hx => ∃ (s3 : Option V) (xs : List V), σ = [some (.int (n : Nat)), some (.ref D), some (.int ((2 ^ i : Nat) : Int)), s3] ∧ Same H Hx ∧ Hx D = some (.lst xs) ∧ xs.length = i ∧ DpAll K Hx xs (progsUp i)) ⟨none, [], rfl, u1, e1, rfl, .nil⟩ ?_ ?_
  · rintro i σ Hx hi ⟨s3, xs, rfl, sx, eD, hl, da⟩
    refine ⟨_, rfl, .inl ⟨rfl, _, SqL.of eD⟩, _, rfl, _, rfl, fun H2 v s2 dv => ?_⟩
    have eD2 := s2 _ _ eD
    have da2 := dpAll_mono s2 _ _ da
    refine ⟨D, _, _, rfl, rfl, eD2, (by show xs.length < _; rw [hl]; exact Nat.lt_of_lt_of_le hi (Nat.le_trans n8 (by decide))), ?_⟩
    refine ⟨_, rfl, _, _, rfl, rfl, .inr (by decide), some (.int (0 + (i : Nat))), xs ++ [v], ?_, fun p o e => ?_, upd_same, by rw [List.length_append, hl]; rfl, ?_⟩
    · rw [show ((2 ^ (i + 1) : Nat) : Int) = ((2 ^ i : Nat) : Int) * 2 from by rw [Nat.pow_succ, Int.natCast_mul]; rfl]
      rfl
    · rw [upd_ne (ne_of_none e nD)]
      exact s2 _ _ (sx p o e)
    · rw [progsUp_succ]
      refine dpAll_kT (kT_lst eD2) _ _ ?_ (dpAll_app da2 (.cons dv .nil))
      rw [← progsUp_succ]
      exact progsUp_noL _
  · rintro σ Hx ⟨s3, xs, rfl, sx, eD, hl, da⟩
    refine ⟨_, rfl, D, xs, rfl, SqL.of eD, fun p np => ?_⟩
    have u2 := same_new np (.lst xs.reverse)
    refine q _ p _ (sx.trans u2) (sx.free np) upd_same ?_
    exact dpAll_mono u2 _ _ (dpAll_rev da)
end
end My

namespace My
open PySem PySem.Spec PyProof.Rows L2
/-! ### o.m(e, ..) with defaults that fill up, o.m(e, .., k = v); within a try or not -/
def tMethTD (C : Addr) (m : Str) (sp : Sp) (dvs : List V) (E : L2.St → XK) (ta : TE) (t : TA) : TE := fun σ H Q => ta σ H fun x H1 => ∃ a dx fs, x = .ref a ∧ H1 a = some (.ins C dx fs) ∧ fs.lookup m = none ∧ t σ H1 fun vs H2 => sp (.ref a :: vs ++ dvs) H2 Q (E σ)
def tMethTK (C : Addr) (m : Str) (n q : Nat) (sp : Sp) (gV : List V → List V → List V) (E : L2.St → XK) (ta : TE) (t tk : TA) : TE := fun σ H Q => ta σ H fun x H1 => ∃ a dx fs, x = .ref a ∧ H1 a = some (.ins C dx fs) ∧ fs.lookup m = none ∧
  t σ H1 fun vs H2 => tk σ H2 fun zs H3 => vs.length = n ∧ zs.length = q ∧ sp (gV (.ref a :: vs) zs) H3 Q (E σ)
theorem passOf {CX : CXT} {X : Cx} {E : XK} (h : Passes CX X E) (σ : L2.St) : PassesAt CX X σ E := fun pins H s e s' I c => h pins σ H s e s' I c
section
variable {X : Cx} {CX : CXT} {k n : Nat} {f C : Addr} {fd : FuncData} {ps ks : List Str} {sp : Sp} {E : L2.St → XK} {m : Str} {pos apos : Pos} {e o : Expr} {es : List Expr} {kws : List Keyword} {ta : TE} {t tk : TA} {dvs : List V} {ds : List Value} {g : List Value → List Value → List Value} {gV : List V → List V → List V}
theorem pe_methTD {pl : Sem Bool} (ho : PE X o ta) (cl : Cls X.K C) (mt : Meth X.K C m f) (G : FnOk X.prog X.w X.K X.mg X.base CX k f fd ps sp) (rm : Room k X.A) (bd : Binds X.K fd ps ds) (hd : Vals dvs ds) (xs : ∀ σ, PassesAt CX X σ (E σ)) (pa : PA X (e :: es) t)
    (st : starEach (e :: es) X.env = (false, eval e X.env) :: starEach es X.env := by rfl) (np : (backTo pos (starEach es X.env)).any (·.1) = false := by rfl)
    (ev : eval (.Call (.Attribute o m apos) (e :: es) [] pos) X.env = (do
      let v ← eval o X.env
      standAt apos.atName
      let (g, first) ← holding [v] (getMethod v m pl)
      callWith pos g first (backTo pos (starEach (e :: es) X.env)) (backToKw pos (keywordEach [] X.env))) := by rfl) :
    PE X (.Call (.Attribute o m apos) (e :: es) [] pos) (tMethTD C m sp dvs E ta t) := by
  refine ⟨fun pins s0 τ H0 Q I0 h0 => PySem.W.methodCall_KW (pl := pl) (thn (ho.run pins s0 τ H0 _ I0 h0) fun u s1 ⟨v, H1, I1, rv, a, dx, fs, hv, ha, hl, q1⟩ => ?_) ev⟩
  cases hv
  cases (show u = Value.ref a from rv)
  refine getmeth_ok I1 ha cl mt hl (PySem.W.callWith_K (first := [.ref a]) (h₀ := X.base) I0.ok.mod.kin mt.kp (thn (pa.run pos pins s1 τ H1 _ I1 q1) fun us s2 ⟨vs, H2, I2, rs, q2⟩ => ⟨I2.kIn, ?_⟩) st np)
  exact run_fnSD (us := .ref a :: us) (vs := .ref a :: vs) G rm bd hd (xs τ) I2 (.cons rfl rs) q2
theorem pe_methTK {pl : Sem Bool} (ho : PE X o ta) (cl : Cls X.K C) (mt : Meth X.K C m f) (G : FnOk X.prog X.w X.K X.mg X.base CX k f fd ps sp) (rm : Room k X.A) (bd : KBn X.K fd ps (n + 1) ks g gV) (xs : ∀ σ, PassesAt CX X σ (E σ)) (pa : PA X (e :: es) t) (pk : PK X kws tk)
    (kA : (backToKw pos (keywordEach kws X.env)).all (·.1.isSome) = true := by rfl) (kS : (backToKw pos (keywordEach kws X.env)).filterMap (·.1) = ks := by rfl)
    (sE : starEach (e :: es) X.env = (false, eval e X.env) :: starEach es X.env := by rfl) (sP : ((backTo pos (starEach (e :: es) X.env)).any (·.1) || (backToKw pos (keywordEach kws X.env)).any (·.1.isNone)) = false := by rfl)
    (ev : eval (.Call (.Attribute o m apos) (e :: es) kws pos) X.env = (do
      let v ← eval o X.env
      standAt apos.atName
      let (g, first) ← holding [v] (getMethod v m pl)
      callWith pos g first (backTo pos (starEach (e :: es) X.env)) (backToKw pos (keywordEach kws X.env))) := by rfl) :
    PE X (.Call (.Attribute o m apos) (e :: es) kws pos) (tMethTK C m n ks.length sp gV E ta t tk) := by
  refine ⟨fun pins s0 τ H0 Q I0 h0 => PySem.W.methodCall_KW (pl := pl) (thn (ho.run pins s0 τ H0 _ I0 h0) fun u s1 ⟨v, H1, I1, rv, a, dx, fs, hv, ha, hl, q1⟩ => ?_) ev⟩
  cases hv
  cases (show u = Value.ref a from rv)
  refine getmeth_ok I1 ha cl mt hl (PySem.W.callWith_KW (first := [.ref a]) (h₀ := X.base) I0.ok.mod.kin mt.kp kA (thn (pa.run pos pins s1 τ H1 _ I1 q1) fun us s2 ⟨vs, H2, I2, rs, q2⟩ => ?_) sP sE)
  refine thn (pk.run pos pins s2 τ H2 _ I2 q2) fun ws s3 ⟨zs, H3, I3, rz, l1, l2, q3⟩ => ⟨I3.kIn, ?_⟩
  rw [kS]
  have r1 : Vals (V.ref a :: vs) (Value.ref a :: us) := .cons rfl rs
  refine wpAny_call (codeAny_mono (G.run X.A X.stack s3 H3 ⟨.ref a :: us, ks.zip ws⟩ (g (.ref a :: us) ws) (gV (.ref a :: vs) zs) Q (E τ) rm I3.env0 (bd.to s3 (.ref a :: us) ws I3.kIn (by rw [← r1.length]; exact congrArg (· + 1) l1) (rz.length.symm.trans l2)) (bd.rel r1 rz) q3) fun out s4 hq => ?_)
  match out, hq with
  | .error er, hq => exact xs τ pins H3 s3 er s4 I3 hq
  | .ok (.ret u), hq => exact I3.after hq
  | .ok .next, hq => exact False.elim hq
  | .ok .brk, hq => exact False.elim hq
  | .ok .cont, hq => exact False.elim hq
end
abbrev sEmp : Stmt := top 73
abbrev cHo : Stmt := top 79
/-! ### a new house -/
structure HoN (K : PySem.W.Frag) (C : Addr) : Prop where
  cl : Cls K C
  sd : NoAttr K C "standing"
  de : NoAttr K C "deeds"
  pa : NoAttr K C "past"
  bu : NoAttr K C "busy"
inductive PastR (K : PySem.W.Frag) (F : Hp) (c : HCl) : List V → List StM → Prop
  | nil : PastR K F c [] []
  | cons {a : Addr} {S : StM} {us : List V} {ps : List StM} : StnR K F c a S → PastR K F c us ps → PastR K F c (.ref a :: us) (S :: ps)
theorem PastR.same {K : PySem.W.Frag} {F F' : Hp} {c : HCl} (s : Same F F') : ∀ {us : List V} {ps : List StM}, PastR K F c us ps → PastR K F' c us ps
  | _, _, .nil => .nil
  | _, _, .cons h t => .cons (h.same s) (t.same s)
def hoF (st de pa : Addr) (bz : Bool) : List (Str × V) := [("standing", .ref st), ("deeds", .ref de), ("past", .ref pa), ("busy", .bl bz)]
/-- the house at hs: it stands as S, its deeds ds, how it stood before them ps -/
structure HouR (K : PySem.W.Frag) (F H : Hp) (c : HCl) (hs : Addr) (de pa : Addr) (S : StM) (ds : List PyData) (ps : List StM) (bz : Bool) : Prop where
  o : ∃ dx st, H hs = some (.ins c.ho dx (hoF st de pa bz)) ∧ StnR K F c st S
  d : ∃ vs, H de = some (.lst vs) ∧ DpAll K F vs ds
  p : ∃ us, H pa = some (.lst us) ∧ PastR K F c us ps
  f1 : F hs = none
  f2 : F de = none
  f3 : F pa = none
  n : de ≠ pa
def spEmp (K : PySem.W.Frag) (c : HCl) : Sp := fun vs H Q _ => ∃ (F : Hp), vs = [] ∧ Fz F H ∧ ∀ F' H' a, Adv [] F H F' H' → StnR K F' c a emptyM → Q (.ref a) H'
def spHoI (K : PySem.W.Frag) (c : HCl) : Sp := fun vs H Q _ => ∃ (x dx : Addr) (F : Hp), vs = [.ref x] ∧ H x = some (.ins c.ho dx []) ∧ Fz F H ∧ F x = none ∧ ∀ F' H' de pa, Adv [x] F H F' H' → HouR K F' H' c x de pa emptyM [] [] false → H de = none → H pa = none → Q .non H'
section
variable {P : Program} {w : World} {K : PySem.W.Frag} {mg : Str → Option Value} {base : Heap} {c : HCl}
theorem put_l (t : Addr) : putK [] (Sum.inr "left" : Key) (V.ref t) = [((Sum.inr "left" : Key), V.ref t)] := rfl
theorem put_r (t1 t2 : Addr) : putK [((Sum.inr "left" : Key), V.ref t1)] (Sum.inr "right" : Key) (V.ref t2) = setsD t1 t2 := by
  have ls : ¬ ("left" : Str) = ("right" : Str) := by decide +kernel
  simp [putK, setsD, ls]
def dcR (H Hx : Hp) (D : Addr) (i : Nat) : Prop := Same H Hx ∧
  ((i = 0 ∧ Hx D = some (.dK [])) ∨ (i = 1 ∧ ∃ t, H t = none ∧ t ≠ D ∧ Hx t = some (.tup []) ∧ Hx D = some (.dK [(Sum.inr "left", .ref t)])) ∨ (i = 2 ∧ ∃ t1 t2, Hx t1 = some (.tup []) ∧ Hx t2 = some (.tup []) ∧ H t1 = none ∧ H t2 = none ∧ Hx D = some (.dK (setsD t1 t2))))
theorem scEmp : FnScope ["side"] [] (defScope sEmp) := ⟨rfl, rfl, rfl, by decide +kernel, rfl, by decide +kernel, by decide +kernel⟩
theorem ok_Emp {f : Addr} {fd : FuncData} (F : Fun K "empty_standing" "empty_standing" sEmp f fd) (C : Kl P w K mg base c.st "Standing" nSn) (O : OsT K w mg) : FnOk P w K mg base CX0 3 f fd [] (spEmp K c) := by
  refine F.ok scEmp (fun vs H Q E h => ?_) (fun cdv A outer s H vs Q E hr h => ?_)
  · obtain ⟨F, rfl, _⟩ := h
    rfl
  obtain ⟨F, rfl, z, q⟩ := h
  refine ⟨_, (pss_one (ps_ret (pe_make C.M C.G hr rfl C.g C.b .nil pass0 (pa_cons pe_int (pa_cons (pe_dc (own := [("side", 0)]) (g := gName 0) (tt := tYes) rfl scEmp.nd (pi_keysW (pe_gref rfl O.m)) (blkOk_by (N := ["side"]) (sc := defScope sEmp) (by decide +kernel)) (fun _ _ _ _ _ => pg_name (i := 0) scEmp.nd rfl (.inl rfl)) (fun _ _ _ _ _ => pts_nil) (fun _ _ _ _ _ => pv 0) (fun _ _ _ _ _ => pe_tup pa_nil)) (pa_cons (pe_tup pa_nil) (pa_cons pe_int (pa_cons (pe_un un_neg pe_int) pa_nil)))))))), ?_⟩
  refine ⟨O.a, _, rfl, O.t, by decide +kernel, fun D nD => dc_it walk_keysW (fun i Hx => dcR H Hx D i) ⟨same_new nD _, .inl ⟨rfl, upd_same⟩⟩ (fun _ _ _ _ => trivial) ?_ ?_⟩
  · rintro i x Hx Hy hi ⟨sx, h⟩ ⟨rfl, y, hy, rfl⟩
    refine ⟨rfl, ?_⟩
    refine (show _ from ⟨_, rfl, (by show 0 ≤ sizeLine; decide), fun t nt => ?_⟩)
    have ut := same_new nt (.tup [])
    rcases h with ⟨rfl, eD⟩ | ⟨rfl, t1, n1, ne1, e1, eD⟩ | ⟨rfl, _⟩
    · obtain rfl : y = "left" := by cases hy; rfl
      have tD : t ≠ D := fun e => by rw [e, eD] at nt; cases nt
      refine ⟨_, Sum.inr "left", rfl, ut _ _ eD, by decide, fun p o e => ?_, .inr (.inl ⟨rfl, t, sx.free nt, tD, ?_, ?_⟩)⟩
      · rw [upd_ne (ne_of_none e nD)]
        exact ut _ _ (sx _ _ e)
      · rw [upd_ne tD]
        exact upd_same
      · rw [upd_same]
        exact congrArg (fun l => some (HO.dK l)) (put_l t)
    · obtain rfl : y = "right" := by cases hy; rfl
      have tD : t ≠ D := fun e => by rw [e, eD] at nt; cases nt
      refine ⟨_, Sum.inr "right", rfl, ut _ _ eD, (by show 1 < sizeLine; decide), fun p o e => ?_, .inr (.inr ⟨rfl, t1, t, ?_, ?_, n1, sx.free nt, ?_⟩)⟩
      · rw [upd_ne (ne_of_none e nD)]
        exact ut _ _ (sx _ _ e)
      · rw [upd_ne ne1]
        exact ut _ _ e1
      · rw [upd_ne tD]
        exact upd_same
      · rw [upd_same]
        exact congrArg (fun l => some (HO.dK l)) (put_r t1 t)
    · exact absurd hi (by decide)
  · rintro Hx ⟨sx, h⟩
    rcases h with ⟨e, _⟩ | ⟨e, _⟩ | ⟨_, t1, t2, e1, e2, n1, n2, eD⟩
    · cases e
    · cases e
    have A1 := Adv.of z sx
    have f1 : (extF F H Hx) t1 = some (.tup []) := by rw [extF_new n1]; exact e1
    have f2 : (extF F H Hx) t2 = some (.tup []) := by rw [extF_new n2]; exact e2
    have fD : (extF F H Hx) D = some (.dK (setsD t1 t2)) := by rw [extF_new nD]; exact eD
    generalize extF F H Hx = F1 at A1 f1 f2 fD
    refine ⟨(by show 0 ≤ sizeLine; decide), fun tm ntm => ?_⟩
    have A2 := A1.trans (Adv.new A1.fz ntm (.tup []))
    have s2 := (Adv.new A1.fz ntm (.tup [])).same A1.fz
    have f3 : (upd F1 tm (.tup [])) tm = some (.tup []) := upd_same
    generalize upd F1 tm (.tup []) = F2 at A2 s2 f3
    generalize upd Hx tm (.tup []) = H2 at A2 ⊢
    refine ⟨_, rfl, ?_⟩
    refine mk_new A2.fz (ns := nSn) (as := [.int 0, .ref D, .ref tm, .int 0, .int (-1)]) rfl fun o dx' H3 A3 no => q _ _ o (A2.trans A3) ?_
    have s3 := A3.same A2.fz
    exact ⟨dx', D, t1, t2, tm, [], upd_same, s3 _ _ (s2 _ _ fD), s3 _ _ (s2 _ _ f1), s3 _ _ (s2 _ _ f2), s3 _ _ f3, .nil⟩
abbrev sHoI : Stmt := inClass cHo 0
theorem scHoI : FnScope ["self"] ["self"] (defScope sHoI) := ⟨rfl, rfl, rfl, by decide +kernel, rfl, by decide +kernel, by decide +kernel⟩
theorem ok_HoI {f : Addr} {fd : FuncData} (F : Fun K "__init__" "House.__init__" sHoI f fd) (N : HoN K c.ho) (CE : Cal P w K mg base 3 "empty_standing" [] (spEmp K c)) : FnOk P w K mg base CX0 4 f fd ["self"] (spHoI K c) := by
  refine F.ok scHoI (fun vs H Q E h => ?_) (fun cdv A outer s H vs Q E hr h => ?_)
  · obtain ⟨x, dx, F, rfl, _⟩ := h
    rfl
  obtain ⟨x, dx, F, rfl, hx, z, fx, q⟩ := h
  refine ⟨_, (pss_cons (ps_fld (pv 0) (pe_call0 CE.G hr rfl CE.m CE.kp CE.b .nil pass0) rfl)
    (pss_cons (ps_fld (pv 0) (pe_lst pa_nil) rfl)
    (pss_cons (ps_fld (pv 0) (pe_lst pa_nil) rfl)
    (pss_one (ps_fld (pv 0) pe_bl rfl))))), ?_⟩
  refine ⟨F, rfl, z, fun F1 H1 st A1 hS => ?_⟩
  have h1 := A1.sm _ _ hx
  have f1 := A1.off (some_ne hx) fx
  refine ⟨_, rfl, x, c.ho, dx, _, rfl, h1, N.cl, N.sd, (by show 0 < 1000; decide), ?_⟩
  have B1 : Adv [x] F H F1 (upd H1 x (.ins c.ho dx [("standing", .ref st)])) := A1.any.trans (Adv.write A1.fz (by simp) f1 trivial)
  have e1 : (upd H1 x (.ins c.ho dx [("standing", .ref st)])) x = some (.ins c.ho dx [("standing", .ref st)]) := upd_same
  change tSeq _ _ _ _ (upd H1 x (.ins c.ho dx [("standing", .ref st)]))
  generalize upd H1 x (.ins c.ho dx [("standing", .ref st)]) = H2 at B1 e1 ⊢
  refine ⟨(by show 0 ≤ sizeLine; decide), fun de nde => ?_⟩
  have fde := B1.fz.out nde
  have B2 := B1.trans (Adv.put B1.fz nde (o := .lst []) trivial)
  have u2 := same_new nde (.lst [])
  have e2 := u2 _ _ e1
  have d2 : (upd H2 de (.lst [])) de = some (.lst []) := upd_same
  have xde : x ≠ de := ne_of_none e1 nde
  generalize upd H2 de (.lst []) = H3 at B2 e2 d2 ⊢
  refine ⟨_, rfl, x, c.ho, dx, _, rfl, e2, N.cl, N.de, (by show 1 < 1000; decide), ?_⟩
  have B3 : Adv [x] F H F1 (upd H3 x (.ins c.ho dx [("standing", .ref st), ("deeds", .ref de)])) := B2.trans (Adv.write B2.fz (by simp) f1 trivial)
  have e3 : (upd H3 x (.ins c.ho dx [("standing", .ref st), ("deeds", .ref de)])) x = some (.ins c.ho dx [("standing", .ref st), ("deeds", .ref de)]) := upd_same
  have d3 : (upd H3 x (.ins c.ho dx [("standing", .ref st), ("deeds", .ref de)])) de = some (.lst []) := by rw [upd_ne xde.symm]; exact d2
  change tSeq _ _ _ _ (upd H3 x (.ins c.ho dx [("standing", .ref st), ("deeds", .ref de)]))
  generalize upd H3 x (.ins c.ho dx [("standing", .ref st), ("deeds", .ref de)]) = H4 at B3 e3 d3 ⊢
  refine ⟨(by show 0 ≤ sizeLine; decide), fun pa npa => ?_⟩
  have fpa := B3.fz.out npa
  have B4 := B3.trans (Adv.put B3.fz npa (o := .lst []) trivial)
  have u4 := same_new npa (.lst [])
  have e4 := u4 _ _ e3
  have d4 := u4 _ _ d3
  have p4 : (upd H4 pa (.lst [])) pa = some (.lst []) := upd_same
  have xpa : x ≠ pa := ne_of_none e3 npa
  have dpa : de ≠ pa := ne_of_none d3 npa
  generalize upd H4 pa (.lst []) = H5 at B4 e4 d4 p4 ⊢
  refine ⟨_, rfl, x, c.ho, dx, _, rfl, e4, N.cl, N.pa, (by show 2 < 1000; decide), ?_⟩
  have B5 : Adv [x] F H F1 (upd H5 x (.ins c.ho dx [("standing", .ref st), ("deeds", .ref de), ("past", .ref pa)])) := B4.trans (Adv.write B4.fz (by simp) f1 trivial)
  have e5 : (upd H5 x (.ins c.ho dx [("standing", .ref st), ("deeds", .ref de), ("past", .ref pa)])) x = some (.ins c.ho dx [("standing", .ref st), ("deeds", .ref de), ("past", .ref pa)]) := upd_same
  have d5 : (upd H5 x (.ins c.ho dx [("standing", .ref st), ("deeds", .ref de), ("past", .ref pa)])) de = some (.lst []) := by rw [upd_ne xde.symm]; exact d4
  have p5 : (upd H5 x (.ins c.ho dx [("standing", .ref st), ("deeds", .ref de), ("past", .ref pa)])) pa = some (.lst []) := by rw [upd_ne xpa.symm]; exact p4
  change tSeq _ _ _ _ (upd H5 x (.ins c.ho dx [("standing", .ref st), ("deeds", .ref de), ("past", .ref pa)]))
  generalize upd H5 x (.ins c.ho dx [("standing", .ref st), ("deeds", .ref de), ("past", .ref pa)]) = H6 at B5 e5 d5 p5 ⊢
  refine ⟨_, rfl, x, c.ho, dx, _, rfl, e5, N.cl, N.bu, (by show 3 < 1000; decide), ?_⟩
  refine q F1 _ de pa (B5.trans (Adv.write B5.fz (by simp) f1 trivial)) ⟨⟨dx, st, upd_same, hS⟩, ⟨[], ?_, .nil⟩, ⟨[], ?_, .nil⟩, f1, fde, fpa, dpa⟩ (B1.free nde) (B3.free npa)
  · rw [upd_ne xde.symm]
    exact d5
  · rw [upd_ne xpa.symm]
    exact p5
/-! #### what may be asked of it: the clock, the history -/
abbrev sHoC : Stmt := inClass cHo 11
abbrev sHoH : Stmt := inClass cHo 20
abbrev sHoA : Stmt := inClass cHo 6
def spHoC (K : PySem.W.Frag) (c : HCl) : Sp := fun vs H Q _ => ∃ (hs de pa : Addr) (F : Hp) (S : StM) (ds : List PyData) (ps : List StM) (bz : Bool), vs = [.ref hs] ∧ Same F H ∧ HouR K F H c hs de pa S ds ps bz ∧ Q (.int S.now) H
def spHoH (K : PySem.W.Frag) (c : HCl) : Sp := fun vs H Q _ => ∃ (hs de pa : Addr) (F : Hp) (S : StM) (ds : List PyData) (ps : List StM) (bz : Bool), vs = [.ref hs] ∧ HouR K F H c hs de pa S ds ps bz ∧ ∀ p xs, H p = none → DpAll K F xs ds → Q (.ref p) (upd H p (.lst xs))
def mostSteps : Int := 1000000000000000000000000000000000000000000000000000000000000
def spHoAX (K : PySem.W.Frag) (cS : Addr) : Sp := fun vs H Q E => ∃ (h v wv : V) (d : PyData), vs = [h, v, wv] ∧ Dp K H v d ∧ intIn d 0 mostSteps = false ∧ ∀ H', Same H H' → E (.ref cS) none H'
theorem scHoC : FnScope ["self"] ["self"] (defScope sHoC) := ⟨rfl, rfl, rfl, by decide +kernel, rfl, by decide +kernel, by decide +kernel⟩
theorem ok_HoC {f : Addr} {fd : FuncData} (F : Fun K "clock" "House.clock" sHoC f fd) (N : HoN K c.ho) (NS : SnN K c.st) : FnOk P w K mg base CX0 1 f fd ["self"] (spHoC K c) := by
  refine F.ok scHoC (fun vs H Q E h => ?_) (fun cdv A outer s H vs Q E hr h => ?_)
  · obtain ⟨hs, de, pa, F, S, ds, ps, bz, rfl, _⟩ := h
    rfl
  obtain ⟨hs, de, pa, F, S, ds, ps, bz, rfl, z, ⟨⟨dx, st, ho, hS⟩, _⟩, q⟩ := h
  obtain ⟨dx', ad, tl, tr, tm, vs, h1, _⟩ := hS
  refine ⟨_, (pss_one (ps_ret (pe_fld (pe_fld (pv 0) rfl) rfl))), ?_⟩
  exact ⟨_, rfl, hs, _, dx, _, _, rfl, ho, N.cl, N.sd, rfl, st, _, dx', _, _, rfl, z _ _ h1, NS.cl, NS.nw, rfl, q⟩
theorem scHoH : FnScope ["self"] ["self"] (defScope sHoH) := ⟨rfl, rfl, rfl, by decide +kernel, rfl, by decide +kernel, by decide +kernel⟩
theorem ok_HoH {f : Addr} {fd : FuncData} (F : Fun K "history" "House.history" sHoH f fd) (N : HoN K c.ho) (ml : mg "list" = none) : FnOk P w K mg base CX0 1 f fd ["self"] (spHoH K c) := by
  refine F.ok scHoH (fun vs H Q E h => ?_) (fun cdv A outer s H vs Q E hr h => ?_)
  · obtain ⟨hs, de, pa, F, S, ds, ps, bz, rfl, _⟩ := h
    rfl
  obtain ⟨hs, de, pa, F, S, ds, ps, bz, rfl, ⟨⟨dx, st, ho, hS⟩, ⟨xs, ed, dd⟩, _⟩, q⟩ := h
  refine ⟨_, (pss_one (ps_ret (pe_callTy call_list_of (by rfl) ml (by decide +kernel) (pa_cons (pe_fld (pv 0) rfl) pa_nil)))), ?_⟩
  exact ⟨_, rfl, hs, _, dx, _, _, rfl, ho, N.cl, N.de, rfl, de, xs, rfl, .inl (SqL.of ed), fun p np => q p xs np dd⟩
abbrev psAdv : List Str := ["self", "many", "watch"]
theorem scHoA : FnScope psAdv psAdv (defScope sHoA) := ⟨rfl, rfl, rfl, by decide +kernel, rfl, by decide +kernel, by decide +kernel⟩
theorem adv_b2 {f : Addr} {fd : FuncData} (F : FunD K "advance" "House.advance" (defArgs sHoA) (defBody sHoA) (defScope sHoA) [V.int 1] [("watch", V.non)] f fd) : ∃ ds, Vals [V.non] ds ∧ Binds K fd psAdv ds :=
  F.binds (ps := psAdv) 2 1 (by simp) rfl (fun T D doc pm an cdv ct us its ks h1 h2 h3 => match us, its, ks, h1, h2, h3 with | [_, _], [_], [_], _, _, _ => ⟨_, rfl, ⟨_, _, _, _, _, _, rfl, rfl, rfl⟩⟩) (by simp)
theorem adv_k2 {f : Addr} {fd : FuncData} (F : FunD K "advance" "House.advance" (defArgs sHoA) (defBody sHoA) (defScope sHoA) [V.int 1] [("watch", V.non)] f fd) : ∃ g, KBn K fd psAdv 2 ["watch"] g (fun vs zs => vs ++ zs) := by
  obtain ⟨its, mv, h⟩ := F.kbinds (ps := psAdv) 2 ["watch"] [] (fun us its mv ws => us ++ ws) (by simp) (by simp) (fun q m => nomatch m) (fun r1 r2 r3 r4 => r1.append r4)
    (fun T D doc pm an cdv ct us its mv ws h1 h2 h3 h4 => match us, its, mv, ws, h1, h2, h3, h4 with | [_, _], [_], [], [_], _, _, _, _ => ⟨_, rfl, rfl⟩)
  exact ⟨_, h⟩
end
end My

namespace My
open PySem L2 PySem.Spec PyProof.Rows
/-- isinstance(e, c), e the error that the suite holds, whatever its class -/
theorem call_isG {X : Cx} {a : Addr} {cls : Value} {d : Option Addr} {oe : Obj} {pn : List (Addr × Obj)} (hz : Zc cls d oe) (hf : ∃ vs, oe.data = .fields vs) :
    CallR (X.suite a ((a, oe) :: pn)) (.builtin "isinstance") (fun xs H Q => ∃ D, cls = .ref D ∧ d = none ∧ ExcC X.K D ∧ rIsE X.K D a xs H Q) := by
  intro pins s σ H xs us Q I r h
  obtain ⟨D, rfl, rfl, C, h⟩ := h
  exact call_isE C hz hf pins s σ H xs us Q I r h
def rIsET (K : PySem.W.Frag) (D a : Addr) : List V → Hp → VK → Prop := fun xs H Q => ∃ (tp : Addr) (cs : List V) (ws : List Value) (b : Bool), xs = [.ref a, .ref tp] ∧ H tp = some (.tup cs) ∧ Paired ClsV cs ws ∧ PySem.W.kitAny K (.ref D) ws = some b ∧ Q (.bl b) H
theorem call_isGT {X : Cx} {a : Addr} {cls : Value} {d : Option Addr} {oe : Obj} {pn : List (Addr × Obj)} (hz : Zc cls d oe) (hf : ∃ vs, oe.data = .fields vs) :
    CallR (X.suite a ((a, oe) :: pn)) (.builtin "isinstance") (fun xs H Q => ∃ D, cls = .ref D ∧ d = none ∧ ExcC X.K D ∧ rIsET X.K D a xs H Q) := by
  intro pins s σ H xs us Q I r h
  obtain ⟨D, rfl, rfl, C, tp, cs, ws, b, rfl, hT, k, e, q⟩ := h
  obtain ⟨u1, u2, rfl, r1, r2⟩ := vals2 r
  cases (show u2 = Value.ref tp from r2)
  cases (show u1 = Value.ref a from r1)
  obtain ⟨hget, _⟩ := I.pin (a, oe) (List.mem_append.mpr (.inl List.mem_cons_self))
  obtain ⟨vs, hv⟩ := hf
  have J : PySem.W.InstAt s.heap a oe D none := by
    obtain ⟨oc, od, oda, osl⟩ := oe
    obtain ⟨h1, h2⟩ := hz
    dsimp only at h1 h2 hv
    subst h1 h2 hv
    exact ⟨hget, rfl, rfl, trivial⟩
  obtain ⟨_, its, rv, o, h1, h2, n, h3⟩ := (show ObjOk X.prog X.w H s.heap tp (.tup cs) from I.hok tp _ hT)
  have e3 := ClsV.all k rv
  subst e3
  obtain ⟨oc, od, dt, sl⟩ := o
  simp only at h2 h3
  subst h2 h3
  exact PySem.W.kia_tup (PySem.W.handS_kitx_exc C.hg C.hk C.hs C.hd C.ha C.hn C.ht C.hm) I.kIn J h1 e (fun z => nomatch z) fun tk => ⟨.bl b, H, I.kept (t' := tk) fun _ _ z => z, rfl, q⟩
/-- how often a flat thing stands in a list of flat things -/
def rCntF (K : PySem.W.Frag) : V → List V → Hp → VK → Prop := fun x xs H Q => ∃ (p : Addr) (ys : List V) (y : V), x = .ref p ∧ xs = [y] ∧ SqL K H p ys ∧ flatV y = true ∧ ys.all flatV = true ∧ Q (.int ((ys.countP fun z => eqV z y : Nat) : Int)) H
theorem eqU_count {y : V} : ∀ {ys : List V} {us : List Value}, Vals ys us → ys.all flatV = true → us.countP (eqU y) = ys.countP fun z => eqV z y
  | _, _, .nil, _ => rfl
  | z :: ys, u :: us, .cons r t, f => by
    rw [List.all_cons, Bool.and_eq_true] at f
    rw [List.countP_cons, List.countP_cons, eqU_count t f.2, eqU_of r f.1]
theorem mt_countF {X : Cx} : MtR X "list.count" (rCntF X.K) := by
  intro pn0 st σ H x xs v us Q I rx rxs h
  obtain ⟨p, ys, y, rfl, rfl, hs, fy, fys, q⟩ := h
  cases rx
  cases rxs with
  | cons ry rt =>
    rename_i uy ut
    cases rt
    obtain ⟨items, rv, ⟨⟨c0, d0, data0, sl0⟩, n0, hget, hcl, hdc, hda⟩, _⟩ := I.list hs
    simp only at hcl hda
    subst hcl hda
    refine call_meets PySem.F.slot_list_count ⟨_, hget, rfl⟩ PySem.F.entry_list_count (PySem.F.args_list_count_2 _ _) (SeqAt.list_countAt p items.toArray n0 d0 sl0 uy (eqU y)) ⟨hget, fun z hz => mem_eqAt ry fy rv fys z (by simpa using hz), ?_⟩
    have ec : items.toArray.toList.countP (eqU y) = ys.countP fun z => eqV z y := eqU_count rv fys
    refine ⟨.int ((ys.countP fun z => eqV z y : Nat) : Int), H, I.tok _, ⟨st.toks, ?_⟩, q⟩
    rw [ec]
/-- f(e, .., k = v, ..) within a try -/
def tCallNS (n m : Nat) (sp : Sp) (gV : List V → List V → List V) (E : L2.St → XK) (t tk : TA) : TE := fun σ H Q => t σ H fun vs H1 => tk σ H1 fun zs H2 => vs.length = n ∧ zs.length = m ∧ sp (gV vs zs) H2 Q (E σ)
theorem pe_callNS {X : Cx} {CX : CXT} {k n : Nat} {f : Addr} {fd : FuncData} {ps ks : List Str} {sp : Sp} {E : L2.St → XK} {x : Str} {p pos : Pos} {e : Expr} {es : List Expr} {kws : List Keyword} {t tk : TA} {g : List Value → List Value → List Value} {gV : List V → List V → List V}
    (F : FnOk X.prog X.w X.K X.mg X.base CX k f fd ps sp) (hr : Room k X.A) (hg : Gl X x) (hm : X.mg x = some (.ref f)) (hk : PySem.W.keepIn X.K (.ref f) = true) (hb : KBn X.K fd ps n ks g gV) (hx : ∀ σ, PassesAt CX X σ (E σ))
    (pa : PA X (e :: es) t) (pk : PK X kws tk) (kA : (backToKw pos (keywordEach kws X.env)).all (·.1.isSome) = true := by rfl) (kS : (backToKw pos (keywordEach kws X.env)).filterMap (·.1) = ks := by rfl)
    (nb : (x == ("__debug__" : Str)) = false := by decide) (sE : starEach (e :: es) X.env = (false, eval e X.env) :: starEach es X.env := by rfl) (sP : ((backTo pos (starEach (e :: es) X.env)).any (·.1) || (backToKw pos (keywordEach kws X.env)).any (·.1.isNone)) = false := by rfl) :
    PE X (.Call (.Name x p) (e :: es) kws pos) (tCallNS n ks.length sp gV E t tk) := by
  refine ⟨fun pins s σ H Q I h => wpAny_Call_Name_kw (ld_glob I hg hm ?_ nb)⟩
  refine PySem.W.callWith_KW (h₀ := X.base) I.ok.mod.kin hk kA (thn (pa.run pos pins s σ H _ I h) fun us s1 ⟨vs, H1, I1, r, q1⟩ => ?_) sP sE
  refine thn (pk.run pos pins s1 σ H1 _ I1 q1) fun ws s2 ⟨zs, H2, I2, rz, l1, l2, q2⟩ => ⟨I2.kIn, ?_⟩
  rw [kS]
  refine wpAny_call (codeAny_mono (F.run X.A X.stack s2 H2 ⟨us, ks.zip ws⟩ (g us ws) (gV vs zs) Q (E σ) hr I2.env0 (hb.to s2 us ws I2.kIn (r.length.symm.trans l1) (rz.length.symm.trans l2)) (hb.rel r rz) q2) fun out s3 hq => ?_)
  match out, hq with
  | .error er, hq => exact hx σ pins H2 s2 er s3 I2 hq
  | .ok (.ret u), hq => exact I2.after hq
  | .ok .next, hq => exact False.elim hq
  | .ok .brk, hq => exact False.elim hq
  | .ok .cont, hq => exact False.elim hq
end My

namespace My
open PySem PySem.Spec PyProof.Rows L2 HotX
/-! ### any(a list) in an except suite: the end of the walk raises while an exception is handled -/
section
variable {prog : Program} {w : World} {A : Around} {E : Value → Shared → Prop} {s : Shared}
theorem list_end_hot {it l x1 : Addr} {i : Nat} {items : Array Value} {Q : Option Value → Shared → Prop} (hot : HotAt A x1 s.heap) (ne : it ≠ x1) (hit : s.heap.IsListIter it l i) (hl : s.heap.IsList l items) (hx : items[i]? = none)
    (hQ : ∀ h', (∀ b o, b ≠ it → s.heap.get? b = some o → h'.get? b = some o) → Q none { s with heap := h' }) : wpAny (model prog w) A (pyNext (.ref it)) Q E s := by
  obtain ⟨o, ho, hc, hd⟩ := id hit
  obtain ⟨ol, hol, _, nl, hdl⟩ := hl
  obtain ⟨hh, o1, vs1, h1, d1, c1⟩ := hot
  unfold pyNext
  refine wpAny_bind (wpAny_attempt (wpAny_callSpecial?_slot (name := Str.ofString "__next__") hit.typeIs PySem.slot_listiter_next
    (wpAny_call_entry PySem.slot_listiter_next hit.typeIs PySem.entry_listiter_next ?_ (PySem.args_listiter_next _))))
  show wpAny _ _ (field (.ref it) 0 >>= _) _ _ s
  refine wpAny_bind (wpAny_field ho hd (x := .ref l) rfl ?_)
  show wpAny _ _ (if (Value.ref l == Value.none) = true then _ else _) _ _ s
  rw [if_neg (show ¬ ((Value.ref l == Value.none) = true) from Bool.false_ne_true)]
  show wpAny _ _ (field (.ref it) 1 >>= _) _ _ s
  refine wpAny_bind (wpAny_field ho hd (x := .int i 0) rfl ?_)
  show wpAny _ _ (seqItems? (.ref l) >>= _) _ _ s
  refine wpAny_bind (wpAny_seqItems hol hdl ?_)
  simp only [Int.toNat_natCast, hx]
  refine wpAny_bind (wpAny_rule (wpAny_bind (wpAny_setField ho hd (by simp) ?_)))
  show wpAny _ _ (newExc (.type "StopIteration") [] >>= _) _ _ _
  refine wpAny_bind ?_
  simp only [newExc, newTuple]
  refine wpAny_bind (wpAny_newObj_type ?_ (by size_fits))
  refine wpAny_bind (m := firstArgMember _ _) (wpAny_of_eq (a := Value.none) (by first | rfl | (simp only [firstArgMember]; rfl)) ?_)
  refine wpAny_newObj_type ?_ (by size_fits)
  have keep : ∀ b u, b ≠ it → s.heap.get? b = some u → (s.heap.update it (Obj.mapFields (·.setIfInBounds 0 Value.none))).get? b = some u := fun b u n e => by
    rw [Heap.get?_update_other _ _ (Ne.symm n)]
    exact e
  have k1 := Heap.get?_push_of_some { cls := .type "StopIteration", dict := none, data := .fields #[] } (keep x1 _ (Ne.symm ne) h1)
  refine raiseNew_hot ⟨hh, o1, vs1, Heap.get?_push_of_some _ (Heap.get?_push_of_some _ (keep x1 _ (Ne.symm ne) h1)), d1, c1⟩ (Nat.ne_of_lt (Heap.lt_size (Heap.get?_push_of_some _ (keep x1 _ (Ne.symm ne) h1)))) (Heap.get?_push_size _ rfl) rfl (by first | (simp; done) | (simp; omega) | (simp only [Array.size_append]; simp; omega)) ?_
  refine wpAny_bind (wpAny_isInstance (T := "StopIteration") (b := true) ⟨_, Heap.get?_update_self _ (Heap.get?_push_size _ rfl) rfl, rfl⟩ isSubtype_stop ?_)
  refine wpAny_pure (hQ _ fun b o n e => ?_)
  rw [Heap.get?_update_other _ _ (Nat.ne_of_gt (Heap.lt_size (Heap.get?_push_of_some _ (keep b _ n e))))]
  exact Heap.get?_push_of_some _ (Heap.get?_push_of_some _ (keep b _ n e))
end
theorem walks_hot {prog : Program} {w : World} {A : Around} {x1 : Addr} {o1 : Obj} {vs1 : Array Value} (hh : A.handled = some (.ref x1)) (d1 : o1.data = .fields vs1) (c1 : vs1[2]? = some .none) (I ax : Addr) (hne : ax ≠ I) (hn1 : I ≠ x1) (items : Array Value) :
    Walks prog w A I [I, ax, x1] [I] items.size (fun i v => items[i]? = some v) (fun i h => h.IsListIter I ax i ∧ h.IsList ax items ∧ h.get? x1 = some o1) where
  sub := fun b hb => by simp at hb; simp [hb]
  frame := fun _ _ _ st hk => ⟨st.1.at fun o e => hk I (by simp) o e, st.2.1.at fun o e => hk ax (by simp) o e, hk x1 (by simp) _ st.2.2⟩
  item := fun i s Q E hi st hQ => by
    refine wpAny_pyNext_list_item st.1 st.2.1 (x := items[i]) (by simp [hi]) fun h' hit' hs' => ?_
    exact hQ _ h' s.toks (by simp [hi]) ⟨hit', st.2.1.extBut hs'.extBut hne, hs'.extBut x1 _ (Ne.symm hn1) st.2.2⟩ fun b o hb e => hs'.extBut b o (fun h => hb (by simp [h])) e
  done := fun s Q E st hQ => list_end_hot ⟨hh, o1, vs1, st.2.2, d1, c1⟩ hn1 st.1 st.2.1 (by simp) fun h' he' => hQ h' s.toks fun b o hb e => he' b o (fun h => hb (by simp [h])) e
  self := fun _ _ _ _ st hQ => wpAny_pyIter_listiter st.1 hQ
theorem call_anyHot {X : Cx} {a : Addr} {cls : Value} {d : Option Addr} {oe : Obj} {pn : List (Addr × Obj)} (hz : L2N.Zn cls d oe) (hf : ∃ vs, oe.data = .fields vs) : CallR (X.suite a ((a, oe) :: pn)) (.builtin "any") (rAny X.K) := by
  intro pins s σ H vs us Q I r h
  obtain ⟨l, bs, rfl, hs, q⟩ := h
  obtain ⟨its, rv, hl, _⟩ := I.list hs
  obtain ⟨vs, hv⟩ := hf
  obtain ⟨hget, hn, _⟩ := I.pin (a, oe) (List.mem_append.mpr (.inl List.mem_cons_self))
  rw [Vals.ref1 r]
  have hb := rv.bls
  have lt : a < s.heap.objs.size := Heap.lt_size hget
  refine call_any_walk (iter_any hl.isList fun s₂ e2 st hne => ?_)
  subst e2
  refine ⟨_, _, _, _, _, _, _, rfl, walks_hot (x1 := a) rfl hv (hz.2.2 vs hv) _ l hne (Nat.ne_of_gt lt) its.toArray, ⟨st.1, st.2, Heap.get?_push_of_some _ hget⟩, truth_bools hb, fun h' tk hk => ?_⟩
  refine ⟨.bl _, H, I.kept fun b o eo => hk b o (fun hmem => ?_) (Heap.get?_push_of_some _ eo), ?_, q⟩
  · rcases List.mem_cons.mp hmem with e1 | hmem
    · exact absurd (e1 ▸ Heap.lt_size eo) (Nat.lt_irrefl _)
    · cases hmem
  · show Value.bool _ = Value.bool _
    rw [← L2.any_range, hb, List.size_toArray, List.length_map]
/-- a def without defaults as one that might have them -/
theorem funD_of {K : PySem.W.Frag} {x qual : Str} {st : Stmt} {f : Addr} {fd : FuncData} (F : Fun K x qual st f fd) : FunD K x qual (defArgs st) (defBody st) (defScope st) [] [] f fd := by
  obtain ⟨oc, od, kV, doc, pm, an, cdv, ct, osl, e1, e2, e3⟩ := F.ex
  exact ⟨⟨oc, od, .none, kV, doc, pm, an, cdv, ct, osl, e1, e2, e3, .inl ⟨rfl, rfl⟩, .inl rfl⟩, F.kp⟩
/-! ### busiest and advance that raise, where nothing is handled -/
section
variable {P : Program} {w : World} {K : PySem.W.Frag} {mg : Str → Option Value} {base : Heap} {c : HCl}
theorem ok_BusX {f : Addr} {fd : FuncData} (F : Fun K "busiest" "busiest" sBus f fd) (R : ErS K mg) {tk : Tok} (gM : mg "MOST_TELLERS" = some (.int 8 tk)) (CI : Cal P w K mg base 2 "is_integer_from_to" ["thing", "least", "greatest"] (spInt K)) : FnOk P w K mg base (L2N.CX P w) 3 f fd ["many"] (spBusX K R.cS) := by
  refine (funD_of F).ok scBus (fun vs H Q E h => ?_) (fun cdv A outer s H vs Q E hr h => ?_)
  · obtain ⟨v, d, rfl, _⟩ := h
    rfl
  obtain ⟨v, d, rfl, hd, hf, q⟩ := h
  refine ⟨_, (pss_cons (ps_if (pt_not (pt_val (pe_call CI.G hr rfl CI.m CI.kp CI.b .nil pass0 (pa_cons (pv 0) (pa_cons pe_int (pa_cons (pe_gint rfl gM) pa_nil)))))) (pss_one (L2N.ps_raise rfl (L2N.takes_of rfl rfl rfl rfl) (L2N.pmk_own PySem.F.excBase_ValueError R.S.x R.gS R.S.k (raises_own R.S.b R.S.t) rfl))) pss_nil)
    (pss_cons ps_never (pss_cons ps_never (pss_cons ps_never (pss_one ps_never))))), ?_⟩
  refine ⟨_, rfl, v, d, 1, 8, rfl, hd, _, rfl, ?_⟩
  rw [hf]
  exact iteT (q _ (Same.refl _))
theorem ok_HoAX {f : Addr} {fd : FuncData} {dvs : List V} {kws : List (Str × V)} (F : FunD K "advance" "House.advance" (defArgs sHoA) (defBody sHoA) (defScope sHoA) dvs kws f fd) (R : ErS K mg) {tk : Tok} (gM : mg "MOST_STEPS" = some (.int mostSteps tk)) (CI : Cal P w K mg base 2 "is_integer_from_to" ["thing", "least", "greatest"] (spInt K)) :
    FnOk P w K mg base (L2N.CX P w) 3 f fd psAdv (spHoAX K R.cS) := by
  refine F.ok scHoA (fun vs H Q E h => ?_) (fun cdv A outer s H vs Q E hr h => ?_)
  · obtain ⟨h, v, wv, d, rfl, _⟩ := h
    rfl
  obtain ⟨h, v, wv, d, rfl, hd, hf, q⟩ := h
  refine ⟨_, (pss_cons (ps_if (pt_not (pt_val (pe_call CI.G hr rfl CI.m CI.kp CI.b .nil pass0 (pa_cons (pv 1) (pa_cons pe_int (pa_cons (pe_gint rfl gM) pa_nil)))))) (pss_one (L2N.ps_raise rfl (L2N.takes_of rfl rfl rfl rfl) (L2N.pmk_own PySem.F.excBase_ValueError R.S.x R.gS R.S.k (raises_own R.S.b R.S.t) rfl))) pss_nil)
    (pss_cons ps_never (pss_one ps_never))), ?_⟩
  refine ⟨_, rfl, v, d, 0, mostSteps, rfl, hd, _, rfl, ?_⟩
  rw [hf]
  exact iteT (q _ (Same.refl _))
end
end My

namespace My
open PySem L2 PySem.Spec PyProof.Rows
abbrev sRf : Stmt := top 84
structure Er47 (K : PySem.W.Frag) (mg : Str → Option Value) extends ErS K mg where
  cP : Addr
  cB : Addr
  gP : mg "BadProgram" = some (.ref cP)
  gB : mg "BadSide" = some (.ref cB)
  mV : mg "ValueError" = none
  kP : PySem.W.kitOne K (.ref cS) (.ref cP) = some false
  kB : PySem.W.kitOne K (.ref cS) (.ref cB) = some false
  kV : PySem.W.kitOne K (.ref cS) (.type "ValueError") = some true
  kS : PySem.W.kitOne K (.ref cS) (.ref cS) = some true
theorem takesN {X : Cx} : L2N.Takes X (fun _ _ _ _ => False) := fun u s' ⟨a, B, sI, pins, σ, H, cls, d, e, I, nb, up, sky, na, os, ag, w⟩ => w.elim
def spRf (K : PySem.W.Frag) (c : HCl) : Sp := fun vs H Q _ => ∃ (hs dx : Addr) (fs : List (Str × V)) (v : V) (d : PyData) (i : Int), vs = [.ref hs, v, .int i] ∧ H hs = some (.ins c.ho dx fs) ∧ fs.lookup ("advance" : Str) = none ∧ Dp K H v d ∧ (i = 0 → intIn d 1 8 = false) ∧ (i ≠ 0 → intIn d 0 mostSteps = false) ∧ ∀ H', Same H H' → Q (.bl true) H'
section
variable {P : Program} {w : World} {K : PySem.W.Frag} {mg : Str → Option Value} {base : Heap} {c : HCl}
theorem scRf : FnScope ["_law_house", "_law_thing", "_law_way", "e", "_law_others"] ["_law_house", "_law_thing", "_law_way"] (defScope sRf) := ⟨rfl, rfl, rfl, by decide +kernel, rfl, by decide +kernel, by decide +kernel⟩
theorem ok_rf {f fA fB : Addr} {fd dA dB : FuncData} (F : Fun K "_law_refused" "_law_refused" sRf f fd) (T : Gs K mg) (R : Er47 K mg) (my : mg "any" = none) (N : HoN K c.ho) (GB : FnOk P w K mg base (L2N.CX P w) 3 fB dB ["many"] (spBusX K R.cS)) (bB : Binds K dB ["many"] []) (kB : PySem.W.keepIn K (.ref fB) = true) (mB : mg "busiest" = some (.ref fB))
    (GA : FnOk P w K mg base (L2N.CX P w) 3 fA dA psAdv (spHoAX K R.cS)) (mA : Meth K c.ho "advance" fA) (bA : ∃ ds, Vals [V.non] ds ∧ Binds K dA psAdv ds) (bK : ∃ g, KBn K dA psAdv 2 ["watch"] g (fun vs zs => vs ++ zs)) :
    FnOk P w K mg base CX0 4 f fd ["_law_house", "_law_thing", "_law_way"] (spRf K c) := by
  refine F.ok scRf (fun vs H Q E h => ?_) (fun cdv A outer s H vs Q E hr h => ?_)
  · obtain ⟨hs, dx, fs, v, d, i, rfl, _⟩ := h
    rfl
  obtain ⟨hs, dx, fs, v, d, i, rfl, ho, lk, hd, h1, h0, q⟩ := h
  obtain ⟨ds, hds, bA⟩ := bA
  obtain ⟨g, bK⟩ := bK
  refine ⟨_, pss_cons (L2N.ps_try_as (i := 3) (tb := fun W => tIfS (tTest (tOp rEq (tVar 2) (tC (.int 0)))) (tDrop (tCallS (spBusX K R.cS) (WE W) (tCons (tVar 1) tNil)))
        (tIfS (tTest (tOp rEq (tVar 2) (tC (.int 1)))) (tDrop (tMethTD c.ho "advance" (spHoAX K R.cS) [V.non] (WE W) (tVar 0) (tCons (tVar 1) tNil)))
          (tDrop (tMethTK c.ho "advance" 1 (["watch"] : List Str).length (spHoAX K R.cS) (fun vs zs => vs ++ zs) (WE W) (tVar 0) (tCons (tVar 1) tNil) (tCons (tC .non) tNil)))))
      (ts := fun a cls d => tSeq (tAsg (tLst (tCons (tCB (fun xs H Q => ∃ D, cls = .ref D ∧ d = none ∧ ExcC K D ∧ rIsE K D a xs H Q) (tCons (tVar 3) (tCons (tC (.ref R.cP)) tNil))) (tCons (tCB (fun xs H Q => ∃ D, cls = .ref D ∧ d = none ∧ ExcC K D ∧ rIsE K D a xs H Q) (tCons (tVar 3) (tCons (tC (.ref R.cB)) tNil)))
          (tCons (tNotV (tCB (fun xs H Q => ∃ D, cls = .ref D ∧ d = none ∧ ExcC K D ∧ rIsE K D a xs H Q) (tCons (tVar 3) (tCons (tC (.ty "ValueError")) tNil)))) tNil)))) (gName 4))
        (tRet (tAndV (tCB (fun xs H Q => ∃ D, cls = .ref D ∧ d = none ∧ ExcC K D ∧ rIsE K D a xs H Q) (tCons (tVar 3) (tCons (tC (.ref R.cS)) tNil))) (tNotV (tCB (rAny K) (tCons (tVar 4) tNil))))))
      (Wout := fun _ _ _ _ => False) rfl rfl scRf.nd rfl rfl ⟨rfl, by decide, .inl R.gH⟩ takesN
      (fun W pn xe tk _ => pss_one (ps_if (by exact (pt_cmpR op_eq (pv 2) pe_int (nomark _))) (pss_one (ps_expr (by exact (pe_callS GB hr rfl mB kB bB (fun σ => L2N.passAt tk σ) (by exact (pa_cons (pv 1) pa_nil))))))
        (pss_one (ps_if (by exact (pt_cmpR op_eq (pv 2) pe_int (nomark _))) (pss_one (ps_expr (by exact (pe_methTD (pv 0) N.cl mA GA hr bA hds (fun σ => L2N.passAt tk σ) (by exact (pa_cons (pv 1) pa_nil))))))
          (pss_one (ps_expr (by exact (pe_methTK (pv 0) N.cl mA GA hr bK (fun σ => L2N.passAt tk σ) (by exact (pa_cons (pv 1) pa_nil)) (by exact (pk_cons pe_non pk_nil))))))))))
      (fun a oe cls d pn hz hf => pss_cons (ps_set (i := 4) scRf.nd rfl (.inl rfl) (by exact (pe_lst (pa_cons (pe_callB (call_isG hz.zc hf) (by rfl) T.isi (by decide +kernel) (pa_cons (pv 3) (pa_cons (pe_gref rfl R.gP) pa_nil))) (pa_cons (pe_callB (call_isG hz.zc hf) (by rfl) T.isi (by decide +kernel) (pa_cons (pv 3) (pa_cons (pe_gref rfl R.gB) pa_nil)))
          (pa_cons (pe_not (pe_callB (call_isG hz.zc hf) (by rfl) T.isi (by decide +kernel) (pa_cons (pv 3) (pa_cons (pe_bltn (v := .ty "ValueError") (by rfl) R.mV (by decide +kernel) rfl) pa_nil)))) pa_nil))))))
        (pss_one (ps_ret (by exact (pe_and (pe_callB (call_isG hz.zc hf) (by rfl) T.isi (by decide +kernel) (pa_cons (pv 3) (pa_cons (pe_gref rfl R.gS) pa_nil))) (pe_one (pe_not (pe_callB (call_anyHot hz hf) (by rfl) my (by decide +kernel) (pa_cons (pv 4) pa_nil))))))))))
    (pss_one (ps_ret pe_bl)), ?_⟩
  refine ⟨_, rfl, rfl, _, rfl, ?_⟩
  refine ite2 (fun ci => ?_) (fun ci => ?_)
  rotate_left
  · have h0 := h0 (fun e => ci (by rw [e]; exact decide_eq_true rfl))
    refine ⟨_, rfl, rfl, _, rfl, ?_⟩
    refine ite2 (fun _ => ?_) (fun _ => ?_)
    rotate_left
    · refine ⟨_, rfl, hs, dx, fs, rfl, ho, lk, _, rfl, rfl, rfl, .ref hs, v, .non, d, rfl, hd, h0, fun H1 s1 => ?_⟩
      refine ⟨true, R.S.e, fun _ a na => ?_, fun z => nomatch z⟩
      refine ⟨_, rfl, R.cS, rfl, rfl, R.S.c, .ref R.cP, .ref R.cP, false, rfl, fun u h => h, R.kP, _, rfl, R.cS, rfl, rfl, R.S.c, .ref R.cB, .ref R.cB, false, rfl, fun u h => h, R.kB, _, rfl, R.cS, rfl, rfl, R.S.c, .ty "ValueError", .type "ValueError", true, rfl, fun u h => h, R.kV, _, rfl, (by show 3 ≤ sizeLine; decide), fun ls nls => ?_⟩
      refine ⟨_, rfl, R.cS, rfl, rfl, R.S.c, .ref R.cS, .ref R.cS, true, rfl, fun u h => h, R.kS, _, rfl, iteT ?_⟩
      exact ⟨_, rfl, ls, [false, false, false], rfl, SqL.of upd_same, _, rfl, q _ (s1.trans (same_new nls _))⟩
    · refine ⟨_, rfl, hs, dx, fs, rfl, ho, lk, _, rfl, .ref hs, v, .non, d, rfl, hd, h0, fun H1 s1 => ?_⟩
      refine ⟨true, R.S.e, fun _ a na => ?_, fun z => nomatch z⟩
      refine ⟨_, rfl, R.cS, rfl, rfl, R.S.c, .ref R.cP, .ref R.cP, false, rfl, fun u h => h, R.kP, _, rfl, R.cS, rfl, rfl, R.S.c, .ref R.cB, .ref R.cB, false, rfl, fun u h => h, R.kB, _, rfl, R.cS, rfl, rfl, R.S.c, .ty "ValueError", .type "ValueError", true, rfl, fun u h => h, R.kV, _, rfl, (by show 3 ≤ sizeLine; decide), fun ls nls => ?_⟩
      refine ⟨_, rfl, R.cS, rfl, rfl, R.S.c, .ref R.cS, .ref R.cS, true, rfl, fun u h => h, R.kS, _, rfl, iteT ?_⟩
      exact ⟨_, rfl, ls, [false, false, false], rfl, SqL.of upd_same, _, rfl, q _ (s1.trans (same_new nls _))⟩
  · have h1 := h1 (by have := of_decide_eq_true ci; injection this)
    refine ⟨_, rfl, v, d, rfl, hd, h1, fun H1 s1 => ?_⟩
    refine ⟨true, R.S.e, fun _ a na => ?_, fun z => nomatch z⟩
    refine ⟨_, rfl, R.cS, rfl, rfl, R.S.c, .ref R.cP, .ref R.cP, false, rfl, fun u h => h, R.kP, _, rfl, R.cS, rfl, rfl, R.S.c, .ref R.cB, .ref R.cB, false, rfl, fun u h => h, R.kB, _, rfl, R.cS, rfl, rfl, R.S.c, .ty "ValueError", .type "ValueError", true, rfl, fun u h => h, R.kV, _, rfl, (by show 3 ≤ sizeLine; decide), fun ls nls => ?_⟩
    refine ⟨_, rfl, R.cS, rfl, rfl, R.S.c, .ref R.cS, .ref R.cS, true, rfl, fun u h => h, R.kS, _, rfl, iteT ?_⟩
    exact ⟨_, rfl, ls, [false, false, false], rfl, SqL.of upd_same, _, rfl, q _ (s1.trans (same_new nls _))⟩
end
/-! ### k47: what its data are -/
theorem dpi {K : PySem.W.Frag} {H : Hp} : ∀ ns : List Int, DpAll K H (ns.map V.int) (ns.map PyData.int)
  | [] => .nil
  | n :: r => .cons (.int n) (dpi r)
def Up (acc : List Int) (k : Nat) : Prop := (∀ z ∈ acc, 0 ≤ z ∧ z < 2 ^ k) ∧ 0 ≤ acc.sum ∧ acc.sum < 2 ^ k
theorem up_step {acc : List Int} {k : Nat} {z : Str} (h : Up acc k) : Up (mostStep acc z) (k + 1) := by
  obtain ⟨h1, h2, h3⟩ := h
  have e2 : (2 : Int) ^ (k + 1) = 2 * 2 ^ k := by rw [Int.pow_succ]; omega
  have hr : 0 ≤ (if z = "collector" then 1 else 1 + acc.sum) ∧ (if z = "collector" then 1 else 1 + acc.sum) ≤ 1 + acc.sum := by split <;> omega
  unfold mostStep
  generalize (if z = "collector" then 1 else 1 + acc.sum) = r at hr
  refine ⟨fun y m => ?_, ?_, ?_⟩
  · rcases List.mem_append.mp m with m | m
    · have := h1 y m
      omega
    · rw [List.mem_singleton.mp m]
      omega
  · rw [List.sum_append, List.sum_cons, List.sum_nil]
    omega
  · rw [List.sum_append, List.sum_cons, List.sum_nil]
    omega
theorem up_fold : ∀ (l : List Str) (acc : List Int) (k : Nat), Up acc k → Up (l.foldl mostStep acc) (k + l.length)
  | [], _, _, h => h
  | z :: r, acc, k, h => by
    rw [List.foldl_cons, List.length_cons, show k + (r.length + 1) = (k + 1) + r.length from by omega]
    exact up_fold r _ _ (up_step h)
theorem up_most (zs : List Str) : Up (mostM zs) zs.length := by
  have := up_fold zs [] 0 ⟨(fun z m => nomatch m), Int.le_refl _, by decide⟩
  rw [Nat.zero_add] at this
  exact this
theorem rl_ints {L : Nat} : ∀ ns : List Int, (∀ z ∈ ns, z.natAbs.log2 ≤ L) → rlAll (ns.map PyData.int) ≤ ns.length * (L + 4)
  | [], _ => by simp [rlAll]
  | n :: r, h => by
    have h1 := h n List.mem_cons_self
    have h2 := rl_ints r fun z m => h z (List.mem_cons_of_mem _ m)
    rw [List.map_cons, List.length_cons, Nat.succ_mul]
    simp only [rlAll, rlD]
    omega
theorem dep_ints : ∀ ns : List Int, PyData.depthAll (ns.map PyData.int) = 0
  | [] => rfl
  | n :: r => by simp only [List.map_cons, PyData.depthAll, PyData.depth, dep_ints r]; rfl
theorem most_sh {zs : List Str} (hz : zs.length ≤ 200) : ShOk (.list ((mostM zs).map PyData.int)) := by
  obtain ⟨h1, _, _⟩ := up_most zs
  have lg : ∀ z ∈ mostM zs, z.natAbs.log2 ≤ 200 := fun z m => by
    obtain ⟨a, b⟩ := h1 z m
    have b2 : (2 : Int) ^ zs.length ≤ 2 ^ 200 := by
      have := Nat.pow_le_pow_right (n := 2) (by decide) hz
      have e1 : ((2 ^ zs.length : Nat) : Int) = (2 : Int) ^ zs.length := Int.natCast_pow 2 zs.length
      have e2 : ((2 ^ 200 : Nat) : Int) = (2 : Int) ^ 200 := Int.natCast_pow 2 200
      omega
    have e2 : ((2 ^ 200 : Nat) : Int) = (2 : Int) ^ 200 := Int.natCast_pow 2 200
    have : z.natAbs < 2 ^ 200 := by omega
    have := PySem.Flt.log2_lt_of (by decide) this
    omega
  refine ⟨?_, ?_, ?_⟩
  · simp only [PyData.showable]
    exact PyData.showableAll_ints _ fun z m => Nat.lt_of_le_of_lt (lg z m) (by decide)
  · simp only [PyData.depth, dep_ints]
    decide
  · have := rl_ints (L := 200) _ lg
    rw [mostM_len] at this
    simp only [rlD]
    have : zs.length * (200 + 4) ≤ 200 * 204 := Nat.mul_le_mul_right _ hz
    omega
theorem progs_sh {n : Nat} (h : n ≤ 8) : ShOk (.list (progsD n)) := by
  have : n = 0 ∨ n = 1 ∨ n = 2 ∨ n = 3 ∨ n = 4 ∨ n = 5 ∨ n = 6 ∨ n = 7 ∨ n = 8 := by omega
  rcases this with rfl | rfl | rfl | rfl | rfl | rfl | rfl | rfl | rfl <;> exact ⟨by decide +kernel, by decide +kernel, by decide +kernel⟩
theorem progs_ok {n : Nat} (h : n ≤ 8) : ∀ d ∈ progsD n, isProg d = true ∧ PyData.canLay0 d = true ∧ ∃ e, d = .tuple [.str "teller", e] := by
  intro d m
  unfold progsD progsUp at m
  rw [List.mem_reverse, List.mem_map] at m
  obtain ⟨i, hi, rfl⟩ := m
  have hi := List.mem_range.mp hi
  have : i = 0 ∨ i = 1 ∨ i = 2 ∨ i = 3 ∨ i = 4 ∨ i = 5 ∨ i = 6 ∨ i = 7 := by omega
  refine ⟨?_, ?_, _, rfl⟩
  · rcases this with rfl | rfl | rfl | rfl | rfl | rfl | rfl | rfl <;> decide +kernel
  · rcases this with rfl | rfl | rfl | rfl | rfl | rfl | rfl | rfl <;> decide +kernel
theorem progs_len (n : Nat) : (progsD n).length = n := by
  unfold progsD progsUp
  rw [List.length_reverse, List.length_map, List.length_range]
theorem shaped_strs (zs : List Str) (h : zs.all PyData.strOk = true) : SeqAt.shaped (.list (zs.map PyData.str)) = true := by
  show ((PyData.list (zs.map PyData.str)).canLay0 && decide ((PyData.list (zs.map PyData.str)).depth ≤ 64)) = true
  simp only [PyData.canLay0, lay_strs zs h, PyData.depth, depth_strs]
  decide
abbrev ns47 : List Str := ["_law_script", "_law_bag", "_law_many", "_law_kinds", "_law_handed", "_law_due", "_law_kind", "_law_told", "_law_house", "_law_kept", "_law_odd", "_law_thing", "_law_turn", "_law_one", "_law_way"]
/-- what the law uses -/
structure U47 (P : Program) (w : World) (K : PySem.W.Frag) (mg : Str → Option Value) (base : Heap) (c : HCl) where
  T : Gs K mg
  mr : mg "range" = none
  ms : mg "sum" = none
  ml : mg "list" = none
  mp : mg "repr" = none
  CPu : Cal P w K mg base 1 "_law_purse" ["_law_script", "_law_at"] (spPur K)
  CTa : Cal P w K mg base 1 "_law_take" ["_law_bag", "_law_many"] spTak
  CMo : Cal P w K mg base 1 "most_acts" ["kinds"] (spMost K)
  CBu : Cal P w K mg base 3 "busiest" ["many"] (spBus K)
  CPr : Cal P w K mg base 7 "is_program" ["thing"] (spProg K)
  CRf : Cal P w K mg base 4 "_law_refused" ["_law_house", "_law_thing", "_law_way"] (spRf K c)
  CAl : CalG P w K mg base 1 "_law_alike" ["_law_found", "_law_due"] (spAlk K)
  fI : Addr
  dI : FuncData
  gH : mg "House" = some (.ref c.ho)
  MH : Mk K c.ho fI
  GI : FnOk P w K mg base CX0 4 fI dI ["self"] (spHoI K c)
  bI : Binds K dI ["self"] []
  N : HoN K c.ho
  MC : MCal P w K mg base 1 c.ho "clock" ["self"] (spHoC K c)
  MHi : MCal P w K mg base 1 c.ho "history" ["self"] (spHoH K c)
theorem tm {m : Int} (h : m ≤ 10 ^ 40) : m < takeMax := Int.lt_of_le_of_lt h (by decide +kernel)
def kd (z : Str) : Prop := z = "teller" ∨ z = "collector"
theorem kd_ok : ∀ zs : List Str, (∀ z ∈ zs, kd z) → zs.all PyData.strOk = true
  | [], _ => rfl
  | z :: r, h => by
    rw [List.all_cons, kd_ok r fun y m => h y (List.mem_cons_of_mem _ m)]
    rcases h z List.mem_cons_self with rfl | rfl <;> decide +kernel
theorem kd_step {acc : List Int} {z : Str} (h : kd z) : (1 : Int) + acc.sum * (if decide (V.str z = V.str "teller") = true then 1 else 0) = (if z = "collector" then 1 else 1 + acc.sum) := by
  rcases h with rfl | rfl
  · rw [if_pos (decide_eq_true rfl), if_neg (by decide +kernel)]
    omega
  · rw [if_neg (by decide +kernel), if_pos rfl]
    omega
theorem Fr.same {H0 H H' : Hp} {b : Addr} (s : Same H0 H) (n : H0 b = none) (f : Fr b H H') : Same H0 H' := fun a o e => f a o (ne_of_none e n) (s a o e)
theorem Bg.upd {j : Nat} {H : Hp} {b D : Addr} (g : Bg j H b) (n : D ≠ b) (o : HO) : Bg j (upd H D o) b := by
  obtain ⟨c, t, k, e, r⟩ := g
  exact ⟨c, t, k, by rw [upd_ne n.symm]; exact e, r⟩
theorem Fr.nw {b p : Addr} {H0 H H' : Hp} (f : Fr b H0 H) (n : H0 p = none) (g : Fr p H H') : Fr b H0 H' := fun a o h e => g a o (ne_of_none e n) (f a o h e)
theorem Fr.free {b p : Addr} {H0 H : Hp} (f : Fr b H0 H) {o : HO} (eb : H b = some o) (n : H p = none) : H0 p = none := by
  cases e : H0 p with
  | none => rfl
  | some u =>
    by_cases c : p = b
    · rw [c, eb] at n; cases n
    · have := f p u c e
      rw [n] at this; cases this
theorem Bg.ex {j : Nat} {H : Hp} {b : Addr} (g : Bg j H b) : ∃ o, H b = some o := by
  obtain ⟨c, t, k, e, _⟩ := g
  exact ⟨_, e⟩
theorem map_rep (n : Nat) (z : Str) : (List.replicate n z).map V.str = List.replicate n (V.str z) := List.map_replicate
theorem map_repD (n : Nat) (z : Str) : (List.replicate n z).map PyData.str = List.replicate n (PyData.str z) := List.map_replicate
theorem map_repB (n : Nat) : (List.replicate n true).map V.bl = List.replicate n (V.bl true) := List.map_replicate
theorem rep_all (n : Nat) : (List.replicate n true).all id = true := by
  rw [List.all_eq_true]
  intro x m
  rw [(List.mem_replicate.mp m).2]
  rfl
theorem rep_snoc (n : Nat) (v : V) : List.replicate n v ++ [v] = List.replicate (n + 1) v := List.replicate_succ'.symm
theorem tup_fz (H : Hp) : Fz (tupH H) H := ⟨tupH_same H, fun a xs e => by unfold tupH; rw [e], fun a o u e => by unfold tupH; rw [e]⟩
theorem Bg.tupH {j : Nat} {H : Hp} {b : Addr} (g : Bg j H b) : My.tupH H b = none := by
  obtain ⟨c, t, k, e, _⟩ := g
  unfold My.tupH
  rw [e]
theorem Bg.fr {j : Nat} {H H' : Hp} {b D : Addr} (g : Bg j H b) (n : b ≠ D) (f : Fr D H H') : Bg j H' b := by
  obtain ⟨c, t, k, e, r⟩ := g
  exact ⟨c, t, k, f _ _ n e, r⟩
section
variable {P : Program} {w : World} {K : PySem.W.Frag} {mg : Str → Option Value} {base : Heap} {c : HCl}
theorem scLaw : FnScope ns47 ["_law_script"] (defScope sLaw) := ⟨rfl, rfl, rfl, by decide +kernel, rfl, by decide +kernel, by decide +kernel⟩
theorem ok_law {f : Addr} {fd : FuncData} (F : Fun K "law" "law" sLaw f fd) (U : U47 P w K mg base c) : FnG P w K mg base CX0 8 f fd ["_law_script"] (spLaw K) := by
  refine okG0 F scLaw (fun vs H Q E h => ?_) (fun cdv A outer s H vs Q E hg hr h => ?_)
  · obtain ⟨a, ns, rfl, _⟩ := h
    rfl
  obtain ⟨a, ns, rfl, hS, h63, q⟩ := h
  have hr1 : Room 1 _ := hr.mono (by decide)
  have hr3 : Room 3 _ := hr.mono (by decide)
  have hr4 : Room 4 _ := hr.mono (by decide)
  have hr5 : Room 5 _ := hr.mono (by decide)
  obtain ⟨T, mr, ms, ml, mp, CPu, CTa, CMo, CBu, CPr, CRf, CAl, fI, dI, gH, MH, GI, bI, N, MC, MHi⟩ := U
  refine ⟨_, (pss_cons (ps_set (i := 1) scLaw.nd rfl (.inr rfl) (pe_call CPu.G hr1 rfl CPu.m CPu.kp CPu.b .nil pass0 (pa_cons (pv 0) (pa_cons pe_int pa_nil))))
  (pss_cons (ps_set (i := 2) scLaw.nd rfl (.inl rfl) (pe_call CTa.G hr1 rfl CTa.m CTa.kp CTa.b .nil pass0 (pa_cons (pv 1) (pa_cons (pe_ix ix_list (pe_lst (pa_cons pe_int (pa_cons pe_int pa_nil))) (pe_call CTa.G hr1 rfl CTa.m CTa.kp CTa.b .nil pass0 (pa_cons (pv 1) (pa_cons pe_int pa_nil))) (fun _ _ => rfl)) pa_nil))))
  (pss_cons (ps_setLc (i := 3) (own := [("_law_turn", 12)]) (g := gName 12) (tt := tYes) rfl scLaw.nd rfl rfl (sw_true rfl rfl rfl (by decide +kernel)) (pi_range1 (by rfl) mr (pa_cons (pv 2) pa_nil)) (blkOk_by (N := ns47) (sc := defScope sLaw) (by decide +kernel)) (fun _ _ _ _ _ => pg_name (i := 12) scLaw.nd rfl (.inl rfl)) (fun _ _ _ _ _ => pts_nil) (fun _ _ _ _ _ => pe_ix (r := rIxL K) ix_list (pe_lst (pa_cons pe_str (pa_cons pe_str pa_nil))) (pe_callTy call_int1 (by rfl) T.int (by decide +kernel) (pa_cons (pe_cmpR op_eq (pe_call CTa.G hr1 rfl CTa.m CTa.kp CTa.b .nil pass0 (pa_cons (pv 1) (pa_cons pe_int pa_nil))) pe_int (nomark _)) pa_nil)) (fun _ _ => rfl)))
  (pss_cons (ps_par (i := 4) (j := 5) rfl scLaw.nd rfl rfl (by decide) rfl rfl (pa_cons (pe_callTy call_list_of (by rfl) ml (by decide +kernel) (pa_cons (pv 3) pa_nil)) (pa_cons (pe_lst pa_nil) pa_nil)) (by rfl))
  (pss_cons (ps_for PassesOwn.never rfl (pi_list (pv 3)) (pg_name (i := 6) scLaw.nd rfl (.inl rfl))
    (pss_one (ps_expr (pe_bm PySem.F.plainAttrs_list PySem.F.slot_list_append PySem.F.type_list_append mt_append (pv 5) (pa_cons (pe_op op_add pe_int (pe_op op_mul (pe_callB (cr_sum rfl) (by rfl) ms (by decide +kernel) (pa_cons (pv 5) pa_nil)) (pe_callTy call_int1 (by rfl) T.int (by decide +kernel) (pa_cons (pe_cmpR op_eq (pv 6) pe_str (nomark _)) pa_nil)))) pa_nil)))))
  (pss_cons (ps_set (i := 7) scLaw.nd rfl (.inl rfl) (pe_call CMo.G hr1 rfl CMo.m CMo.kp CMo.b .nil pass0 (pa_cons (pv 4) pa_nil)))
  (pss_cons (ps_if (PW.pt (pw_or (pt_not (pt_val (pe_callG CAl.G hg hr1 rfl CAl.m CAl.kp CAl.b .nil pass0 (pa_cons (pv 7) (pa_cons (pv 5) pa_nil))))) (pw_or1 (pt_cmpR (op_neD hr.units) (pv 4) (pv 3) (nomark _)))))
    (pss_one (ps_ret pe_bl))
    pss_nil)
  (pss_cons (ps_expr (pe_bm PySem.F.plainAttrs_list PySem.F.slot_list_append PySem.F.type_list_append mt_append (pv 7) (pa_cons pe_int pa_nil)))
  (pss_cons (ps_if (PW.pt (pw_or (pt_not (pt_val (pe_callG CAl.G hg hr1 rfl CAl.m CAl.kp CAl.b .nil pass0 (pa_cons (pe_call CMo.G hr1 rfl CMo.m CMo.kp CMo.b .nil pass0 (pa_cons (pv 4) pa_nil)) (pa_cons (pv 5) pa_nil))))) (pw_or (pt_cmpR (op_neD hr.units) (pe_call CMo.G hr1 rfl CMo.m CMo.kp CMo.b .nil pass0 (pa_cons (pe_lst pa_nil) pa_nil)) (pe_lst pa_nil) (nomark _)) (pw_or1 (pt_cmpR (op_neD hr.units) (pe_call CMo.G hr1 rfl CMo.m CMo.kp CMo.b .nil pass0 (pa_cons (pe_lst (pa_cons pe_str (pa_cons pe_str pa_nil))) pa_nil)) (pe_lst (pa_cons pe_int (pa_cons pe_int pa_nil))) (nomark _))))))
    (pss_one (ps_ret pe_bl))
    pss_nil)
  (pss_cons (ps_asg (pe_tup (pa_cons (pe_call CPu.G hr1 rfl CPu.m CPu.kp CPu.b .nil pass0 (pa_cons (pv 0) (pa_cons pe_int pa_nil))) (pa_cons (pe_make0 MH GI hr5 rfl gH bI .nil pass0) pa_nil))) (pg_tup (by rfl) (pgs_cons (pg_name (i := 1) scLaw.nd rfl (.inr rfl)) (pgs_cons (pg_name (i := 8) scLaw.nd rfl (.inr rfl)) pgs_nil))))
  (pss_cons (ps_set (i := 2) scLaw.nd rfl (.inl rfl) (pe_op op_add pe_int (pe_call CTa.G hr1 rfl CTa.m CTa.kp CTa.b .nil pass0 (pa_cons (pv 1) (pa_cons pe_int pa_nil)))))
  (pss_cons (ps_set (i := 7) scLaw.nd rfl (.inl rfl) (pe_call CBu.G hr3 rfl CBu.m CBu.kp CBu.b .nil pass0 (pa_cons (pv 2) pa_nil)))
  (pss_cons (ps_if (PW.pt (pw_or (pt_not (pt_val (pe_callB call_isi (by rfl) T.isi (by decide +kernel) (pa_cons (pv 7) (pa_cons (pe_bltn (v := .ty "list") (by rfl) ml (by decide +kernel) rfl) pa_nil))))) (pw_or (pt_cmpR op_ne (pe_callB call_len_seq (by rfl) T.len PySem.boot_len (pa_cons (pv 7) pa_nil)) (pv 2) (nomark _)) (pw_or1 (pt_cmpR (op_neD hr.units) (pe_lc (own := [("_law_one", 13)]) (g := gName 13) (tt := tYes) rfl scLaw.nd (pi_list (pv 7)) (blkOk_by (N := ns47) (sc := defScope sLaw) (by decide +kernel)) (fun _ _ _ _ _ => pg_name (i := 13) scLaw.nd rfl (.inl rfl)) (fun _ _ _ _ _ => pts_nil) (fun _ _ _ _ _ => pe_ix (r := rIxT K) ix_tup (pv 13) pe_int (fun _ _ => rfl))) (pe_op op_rep (pe_lst (pa_cons pe_str pa_nil)) (pv 2)) (nomark _))))))
    (pss_one (ps_ret pe_bl))
    pss_nil)
  (pss_cons (ps_if (pt_not (pt_val (pe_callB (cr_all rfl) (by rfl) T.all (by decide +kernel) (pa_cons (pe_lc (own := [("_law_one", 13)]) (g := gName 13) (tt := tYes) rfl scLaw.nd (pi_list (pv 7)) (blkOk_by (N := ns47) (sc := defScope sLaw) (by decide +kernel)) (fun _ _ _ _ _ => pg_name (i := 13) scLaw.nd rfl (.inl rfl)) (fun _ _ _ _ _ => pts_nil) (fun _ _ _ _ _ => pe_call CPr.G hr rfl CPr.m CPr.kp CPr.b .nil pass0 (pa_cons (pv 13) pa_nil))) pa_nil))))
    (pss_one (ps_ret pe_bl))
    pss_nil)
  (pss_cons (ps_set (i := 9) scLaw.nd rfl (.inl rfl) (pe_callB (call_reprD hg (hu65 hr)) (by rfl) mp (by decide +kernel) (pa_cons (pv 7) pa_nil)))
  (pss_cons (ps_expr (pe_bm0 PySem.F.plainAttrs_list PySem.F.slot_list_clear PySem.F.type_list_clear mt_clear (pv 7)))
  (pss_cons (ps_if (pt_cmpR op_ne (pe_callB (call_reprD hg (hu65 hr)) (by rfl) mp (by decide +kernel) (pa_cons (pe_call CBu.G hr3 rfl CBu.m CBu.kp CBu.b .nil pass0 (pa_cons (pv 2) pa_nil)) pa_nil)) (pv 9) (nomark _))
    (pss_one (ps_ret pe_bl))
    pss_nil)
  (pss_cons (ps_set (i := 1) scLaw.nd rfl (.inr rfl) (pe_call CPu.G hr1 rfl CPu.m CPu.kp CPu.b .nil pass0 (pa_cons (pv 0) (pa_cons pe_int pa_nil))))
  (pss_cons (ps_set (i := 10) scLaw.nd rfl (.inl rfl) (pe_ix ix_list (pe_lst (pa_cons pe_bl (pa_cons pe_bl (pa_cons pe_non (pa_cons pe_str (pa_cons (pe_tup (pa_cons pe_int pa_nil)) (pa_cons (pe_lst (pa_cons pe_int pa_nil)) (pa_cons (pe_op op_sub (pe_un un_neg pe_int) (pe_call CTa.G hr1 rfl CTa.m CTa.kp CTa.b .nil pass0 (pa_cons (pv 1) (pa_cons (pe_op op_pow pe_int pe_int) pa_nil)))) (pa_cons pe_str pa_nil))))))))) (pe_call CTa.G hr1 rfl CTa.m CTa.kp CTa.b .nil pass0 (pa_cons (pv 1) (pa_cons pe_int pa_nil))) (fun _ _ => rfl)))
  (pss_cons (ps_for PassesOwn.never rfl (pi_list (pe_lst (pa_cons (pv 10) (pa_cons (pe_un un_neg pe_int) (pa_cons (pe_op op_add (pe_op op_pow pe_int pe_int) pe_int) (pa_cons (pe_op op_mulW (pe_op op_pow pe_int pe_int) (pe_op op_pow pe_int pe_int)) pa_nil)))))) (pg_name (i := 11) scLaw.nd rfl (.inr rfl))
    (pss_one (ps_if (pt_not (pt_val (pe_callB (cr_all rfl) (by rfl) T.all (by decide +kernel) (pa_cons (pe_lc (own := [("_law_way", 14)]) (g := gName 14) (tt := tYes) rfl scLaw.nd (pi_range1 (by rfl) mr (pa_cons pe_int pa_nil)) (blkOk_by (N := ns47) (sc := defScope sLaw) (by decide +kernel)) (fun _ _ _ _ _ => pg_name (i := 14) scLaw.nd rfl (.inl rfl)) (fun _ _ _ _ _ => pts_nil) (fun _ _ _ _ _ => pe_call CRf.G hr4 rfl CRf.m CRf.kp CRf.b .nil pass0 (pa_cons (pv 8) (pa_cons (pv 11) (pa_cons (pv 14) pa_nil))))) pa_nil))))
      (pss_one (ps_ret pe_bl))
      pss_nil)))
  (pss_cons (ps_if (PW.pt (pw_or (pt_not (pt_val (pe_call CRf.G hr4 rfl CRf.m CRf.kp CRf.b .nil pass0 (pa_cons (pv 8) (pa_cons pe_int (pa_cons pe_int pa_nil)))))) (pw_or1 (pt_not (pt_val (pe_call CRf.G hr4 rfl CRf.m CRf.kp CRf.b .nil pass0 (pa_cons (pv 8) (pa_cons (pe_op op_add pe_int (pe_call CTa.G hr1 rfl CTa.m CTa.kp CTa.b .nil pass0 (pa_cons (pv 1) (pa_cons (pe_op op_pow pe_int pe_int) pa_nil)))) (pa_cons pe_int pa_nil)))))))))
    (pss_one (ps_ret pe_bl))
    pss_nil)
  (pss_one (ps_ret (pe_and (pe_cmpR op_eq (pe_meth0 (pv 8) N.cl MC.m MC.G hr1 MC.b .nil pass0) pe_int (nomark _)) (pe_one (pe_cmpR (op_eqD hr.units) (pe_meth0 (pv 8) N.cl MHi.m MHi.G hr1 MHi.b .nil pass0) (pe_lst pa_nil) (nomark _))))))))))))))))))))))))))), ?_⟩
  -- the first bag, the number of kinds
  refine ⟨_, rfl, a, ns, 0, rfl, hS, h63, by decide, fun H1 b s1 nb g1 => ?_⟩
  refine ⟨_, rfl, (by show 2 ≤ sizeLine; decide), fun l nl => ⟨_, rfl, b, 2, 0, rfl, g1.keep (same_new nl _), by decide, tm (by decide), by decide, fun H2 r f2 g2 r0 r1 => ?_⟩⟩
  have nlb : l ≠ b := (g1.ne nl).symm
  have el := f2 l _ nlb upd_same
  have s2 : Same H H2 := Fr.same (s1.trans (same_new nl _)) nb f2
  obtain ⟨v, hv, hvv⟩ := at2 (x := V.int 5) (y := V.int 201) r0 r1
  obtain ⟨m, rfl, m0, m1⟩ : ∃ m : Int, v = .int m ∧ 0 < m ∧ m ≤ 201 := by
    rcases hvv with rfl | rfl
    · exact ⟨5, rfl, by decide, by decide⟩
    · exact ⟨201, rfl, by decide, by decide⟩
  refine ⟨l, _, r, _, rfl, rfl, SqL.of el, hv, b, m, 50, rfl, g2, m0, tm (Int.le_trans m1 (by decide)), by decide, fun H3 k f3 g3 k0 k1 => ?_⟩
  have s3 : Same H H3 := Fr.same s2 nb f3
  clear hv hvv el f2 g2 f3
  -- the kinds
  refine ⟨_, rfl, k, rfl, by omega, by omega, fun D nD => ?_⟩
  have nbD : D ≠ b := (g3.ne nD).symm
  have nHD : H D = none := s3.free nD
  refine lc_it (walk_range (lo := 0) (n := k.toNat)) (fun i Hx => Same H Hx ∧ Bg (100 + 50 * i) Hx b ∧ ∃ zs : List Str, zs.length = i ∧ (∀ z ∈ zs, kd z) ∧ Hx D = some (.lst (zs.map V.str))) ⟨s3.trans (same_new nD _), g3.keep (same_new nD _), [], rfl, (fun z h => nomatch h), upd_same⟩ (fun _ _ _ _ => trivial) ?_ ?_
  · rintro i x Hx Hy hi ⟨sx, gx, zs, hl, hz, eD⟩ ⟨rfl, rfl⟩
    refine ⟨rfl, ?_⟩
    have hi2 : i < 201 := by omega
    refine (show _ from ⟨(by show 2 ≤ sizeLine; decide), fun l2 nl2 => ⟨_, rfl, b, 4, _, rfl, gx.keep (same_new nl2 _), by decide, tm (by decide), (by have : 100 + 50 * i ≤ 20000 := (by omega); exact Nat.le_trans this (by decide)), fun H5 t f5 g5 t0 t1 => ⟨rfl, .inr ⟨_, rfl, ?_⟩⟩⟩⟩)
    have nl2b : l2 ≠ b := (gx.ne nl2).symm
    have el2 := f5 l2 _ nl2b upd_same
    have eD5 := f5 D _ nbD (same_new nl2 _ _ _ eD)
    have s5 : Same H H5 := Fr.same (sx.trans (same_new nl2 _)) nb f5
    obtain ⟨v, hv, hvv⟩ := at2 (x := V.str "teller") (y := V.str "collector") (r := (if decide (V.int t = V.int 0) = true then 1 else 0)) (by split <;> decide) (by split <;> decide)
    obtain ⟨z, rfl, hz2⟩ : ∃ z, v = .str z ∧ kd z := by
      rcases hvv with rfl | rfl
      · exact ⟨_, rfl, .inl rfl⟩
      · exact ⟨_, rfl, .inr rfl⟩
    refine ⟨l2, _, _, _, rfl, rfl, SqL.of el2, hv, _, eD5, ?_, same_upd s5 nHD _, (g5.mono (by omega)).upd nbD _, zs ++ [z], ?_, ?_, ?_⟩
    · rw [List.length_map, hl]
      exact Nat.lt_of_lt_of_le hi2 (by decide)
    · rw [List.length_append, hl]
      rfl
    · intro y m
      rcases List.mem_append.mp m with m | m
      · exact hz y m
      · rw [List.mem_singleton.mp m]
        exact hz2
    · rw [upd_same, List.map_append]
      rfl
  rintro H4 ⟨s4, g4, zs, hl, hz, eD⟩
  have hl2 : zs.length ≤ 200 := by omega
  -- copies
  refine ⟨_, rfl, D, _, rfl, .inl (SqL.of eD), fun l4 n4 => ⟨(by show 0 ≤ sizeLine; decide), fun l5 n5 => ⟨_, _, rfl, ?_⟩⟩⟩
  have u4 := same_new n4 (.lst (zs.map V.str))
  have e4 : (upd H4 l4 (.lst (zs.map V.str))) l4 = some (.lst (zs.map V.str)) := upd_same
  have s4' := s4.trans u4
  have g4' := g4.keep u4
  have eD' := u4 _ _ eD
  generalize upd H4 l4 (.lst (zs.map V.str)) = H5 at u4 e4 s4' g4' eD' n5 ⊢
  have u5 := same_new n5 (.lst [])
  have e5 : (upd H5 l5 (.lst [])) l5 = some (.lst []) := upd_same
  have s5 := s4'.trans u5
  have g5 := g4'.keep u5
  have eD5 := u5 _ _ eD'
  have e45 := u5 _ _ e4
  have n5D : D ≠ l5 := ne_of_none eD' n5
  have n54 : l4 ≠ l5 := ne_of_none e4 n5
  have n5b : b ≠ l5 := g4'.ne n5
  have nH5 : H l5 = none := s4'.free n5
  generalize upd H5 l5 (.lst []) = H6 at u5 e5 s5 g5 eD5 e45 ⊢
  clear u4 u5
  -- what is due
  refine ⟨_, rfl, D, rfl, ⟨_, SqL.of eD5⟩, for_it (walk_list (K := K) (a := D) (xs := zs.map V.str)) (fun i σ Hx => ∃ s6 : Option V, σ = [some (.ref a), some (.ref b), some (.int k), some (.ref D), some (.ref l4), some (.ref l5), s6, none, none, none, none, none, none, none, none] ∧ Fr l5 H6 Hx ∧ Hx l5 = some (.lst ((mostM (zs.take i)).map V.int))) ⟨none, rfl, Fr.refl _ _, e5⟩ (fun i σ Hx _ ⟨_, _, fx, _⟩ => SqL.of (fx _ _ n5D eD5)) ?_ ?_⟩
  · rintro i x σ Hx H2 hi ⟨s6, rfl, fx, ex⟩ ⟨rfl, hx⟩
    obtain ⟨z, hz1, hz2⟩ : ∃ z, zs[i]? = some z ∧ x = .str z := by
      rw [List.getElem?_map] at hx
      cases e : zs[i]? with
      | none => rw [e] at hx; cases hx
      | some z => rw [e] at hx; cases hx; exact ⟨z, rfl, rfl⟩
    subst hz2
    have hk := hz z (List.mem_of_getElem? hz1)
    refine ⟨_, rfl, .inl ⟨rfl, _, SqL.of ex⟩, _, rfl, l5, mostM (zs.take i), rfl, SqL.of ex, _, rfl, rfl, .inr ⟨_, rfl, _, _, rfl, rfl, Or.inr (one_or _), _, _, rfl, rfl, l5, _, _, rfl, rfl, ex, ?_, some (.str z), rfl, fx.trans (Fr.upd _), ?_⟩⟩
    · rw [List.length_map, mostM_len, List.length_take]
      exact Nat.lt_of_le_of_lt (Nat.le_trans (Nat.min_le_right _ _) hl2) (by decide)
    · rw [upd_same, mostM_take hz1]
      unfold mostStep
      rw [List.map_append, ← kd_step hk]
      rfl
  rintro σ H7 ⟨s6, rfl, f7, e7⟩
  rw [List.length_map, List.take_length] at e7
  have eD7 := f7 _ _ n5D eD5
  have e47 := f7 _ _ n54 e45
  have g7 := g5.fr n5b f7
  have s7 : Same H H7 := Fr.same s5 nH5 f7
  clear f7 e5 s5 g5 eD5 e45 eD' e4 g4' s4' nD eD g4 s4
  -- what is told
  refine ⟨_, rfl, l4, zs, rfl, SqL.of e47, Nat.le_trans hl2 (by decide), fun H8 p8 u8 n8 e8 => ?_⟩
  have sh := most_sh hl2
  have dp : ∀ {Hx : Hp} {p : Addr}, Hx p = some (.lst ((mostM zs).map V.int)) → Dp K Hx (.ref p) (.list ((mostM zs).map PyData.int)) := fun e => .lst (SqL.of e) (dpi _)
  have ds : ∀ {Hx : Hp} {p : Addr}, Hx p = some (.lst (zs.map V.str)) → Dp K Hx (.ref p) (.list (zs.map PyData.str)) := fun e => .lst (SqL.of e) (dp_strs _)
  have hsz := shaped_strs zs (kd_ok zs hz)
  refine ⟨_, rfl, _, rfl, p8, l5, _, rfl, dp e8, dp (u8 _ _ e7), sh, _, rfl, iteF ⟨_, rfl, _, rfl, _, _, ds (u8 _ _ e47), ds (u8 _ _ eD7), hsz, hsz, _, rfl, ?_⟩⟩
  rw [SeqAt.eqv_refl _ (SeqAt.canLay_of_shaped hsz)]
  refine iteF ?_
  -- it is changed
  refine ⟨_, rfl, .inl ⟨rfl, _, SqL.of e8⟩, p8, _, _, rfl, rfl, e8, ?_, ?_⟩
  · rw [List.length_map, mostM_len]
    exact Nat.lt_of_le_of_lt hl2 (by decide)
  have n58 : l5 ≠ p8 := ne_of_none e7 n8
  have n48 : l4 ≠ p8 := ne_of_none e47 n8
  have nb8 : b ≠ p8 := g7.ne n8
  have f9 : Fr p8 H8 (upd H8 p8 (.lst ((mostM zs).map V.int ++ [.int 0]))) := Fr.upd _
  have e79 := f9 _ _ n58 (u8 _ _ e7)
  have e49 := f9 _ _ n48 (u8 _ _ e47)
  have g9 := (g7.keep u8).fr nb8 f9
  have s9 : Same H (upd H8 p8 (.lst ((mostM zs).map V.int ++ [.int 0]))) := Fr.same (s7.trans u8) (s7.free n8) f9
  change tSeq _ _ _ _ (upd H8 p8 (.lst ((mostM zs).map V.int ++ [.int 0])))
  generalize upd H8 p8 (.lst ((mostM zs).map V.int ++ [.int 0])) = H9 at e79 e49 g9 s9 ⊢
  clear f9 u8 e8 n8 g7 s7 e47 e7 eD7 n5b n5D n54 n58 n48 nb8
  -- told again, and of two lists
  refine ⟨_, rfl, l4, zs, rfl, SqL.of e49, Nat.le_trans hl2 (by decide), fun H10 p10 u10 n10 e10 => ⟨_, rfl, p10, l5, _, rfl, dp e10, dp (u10 _ _ e79), sh, _, rfl, iteF ?_⟩⟩
  refine ⟨(by show 0 ≤ sizeLine; decide), fun la na => ⟨la, [], rfl, SqL.of upd_same, by decide, fun H11 p11 u11 n11 e11 => ⟨(by show 0 ≤ sizeLine; decide), fun lb nlb => ?_⟩⟩⟩
  have ua := same_new na (.lst [])
  have ub := same_new nlb (.lst [])
  refine ⟨.list [], .list [], .lst (SqL.of (ub _ _ e11)) .nil, .lst (SqL.of upd_same) .nil, by decide +kernel, by decide +kernel, _, rfl, ?_⟩
  rw [SeqAt.eqv_refl _ (by decide +kernel)]
  refine iteF ⟨(by show 2 ≤ sizeLine; decide), fun lc nlc => ⟨lc, ["teller", "teller"], rfl, SqL.of upd_same, by decide, fun H12 p12 u12 n12 e12 => ⟨(by show 2 ≤ sizeLine; decide), fun ld nld => ?_⟩⟩⟩
  have uc := same_new nlc (.lst [.str "teller", .str "teller"])
  have ud := same_new nld (.lst [.int 1, .int 2])
  have em : mostM ["teller", "teller"] = [1, 2] := by decide +kernel
  rw [em] at e12
  refine ⟨.list [.int 1, .int 2], .list [.int 1, .int 2], .lst (SqL.of (ud _ _ e12)) (.cons (.int _) (.cons (.int _) .nil)), .lst (SqL.of upd_same) (.cons (.int _) (.cons (.int _) .nil)), by decide +kernel, by decide +kernel, _, rfl, ?_⟩
  rw [SeqAt.eqv_refl _ (by decide +kernel)]
  refine iteF ?_
  have uz : Same H9 (upd H12 ld (.lst [.int 1, .int 2])) := u10.trans (ua.trans (u11.trans (ub.trans (uc.trans (u12.trans ud)))))
  have sA : Same H (upd H12 ld (.lst [.int 1, .int 2])) := s9.trans uz
  change tSeq _ _ _ _ (upd H12 ld (.lst [.int 1, .int 2]))
  generalize upd H12 ld (.lst [.int 1, .int 2]) = HA at sA ⊢
  clear uz ud uc ub ua e79 e49 g9 s9 e10 e11 e12 n10 n11 n12 nld nlc nlb na u10 u11 u12 sh dp ds hsz hl hl2 hz
  -- the second bag, a house
  refine ⟨_, rfl, a, ns, 1, rfl, Same.seq sA hS, h63, by decide, fun HB b2 uB nb2 gB => ?_⟩
  have fz := tup_fz HB
  have fb2 : tupH HB b2 = none := gB.tupH
  refine fun x dx nx ndx ne => ⟨x, dx, tupH HB, rfl, upd_same, (fz.made nx ndx).fz, fz.out nx, fun F1 HC de pa A hou nde npa => ⟨rfl, ?_⟩⟩
  refine ⟨(by show 2 ≤ sizeLine; decide), fun tp ntp => ⟨tp, _, rfl, SqT.of upd_same, rfl, ⟨_, _, rfl, _, _, rfl, rfl, ?_⟩⟩⟩
  have b2x : b2 ≠ x := gB.ne nx
  have b2d : b2 ≠ dx := gB.ne ndx
  have gC : Bg 0 HC b2 := by
    obtain ⟨c1, t1, k1', e, r⟩ := gB
    exact ⟨c1, t1, k1', A.kh b2 _ (by simp; exact b2x) (by rw [upd_ne b2x, upd_ne b2d]; exact e), r⟩
  have nHb2 : H b2 = none := sA.free (nb2)
  have sHC : Same H HC := fun p o e => by
    have e2 := uB _ _ (sA _ _ e)
    have p1 : p ≠ x := ne_of_none e2 nx
    exact A.kh p o (by simp; exact p1) (by rw [upd_ne p1, upd_ne (ne_of_none e2 ndx)]; exact e2)
  have fF1 : F1 b2 = none := A.off (by rw [upd_ne b2x, upd_ne b2d]; obtain ⟨o, e⟩ := gB.ex; rw [e]; simp) fb2
  have sF1 : Same F1 HC := A.fz.sm
  have deb : de ≠ b2 := fun e => by
    rw [e, upd_ne b2x, upd_ne b2d] at nde
    obtain ⟨o, eo⟩ := gB.ex
    rw [eo] at nde
    cases nde
  have pab : pa ≠ b2 := fun e => by
    rw [e, upd_ne b2x, upd_ne b2d] at npa
    obtain ⟨o, eo⟩ := gB.ex
    rw [eo] at npa
    cases npa
  clear A fz fb2 ne nde npa
  have ud := same_new ntp (.tup [.ref b2, .ref x])
  have gD := gC.keep ud
  have kD : Fr b2 HC (upd HC tp (.tup [.ref b2, .ref x])) := Fr.of ud
  change tSeq _ _ _ _ (upd HC tp (.tup [.ref b2, .ref x]))
  generalize upd HC tp (.tup [.ref b2, .ref x]) = HD at gD kD ⊢
  clear ud
  -- the busiest programs
  refine ⟨_, rfl, b2, 8, 0, rfl, gD, by decide, tm (by decide), by decide, fun HE u fE gE u0 u1 => ⟨_, _, rfl, rfl, ?_⟩⟩
  have kE := kD.trans fE
  obtain ⟨n, hn⟩ : ∃ n : Nat, 1 + u = n := ⟨(1 + u).toNat, by omega⟩
  have n1 : 1 ≤ n := by omega
  have n8 : n ≤ 8 := by omega
  refine (show tSeq _ _ _ (List.set _ 2 (some (V.int (1 + u)))) HE from ?_)
  rw [hn]
  clear u0 u1 hn
  refine ⟨_, rfl, n, rfl, n1, n8, fun HG p7 ys uG nG eG dG => ?_⟩
  have hlen : ys.length = n := by rw [dpAll_len dG, progs_len]
  have kG := kE.trans (Fr.of uG)
  have gG := gE.keep uG
  have nC7 : HC p7 = none := by obtain ⟨o, e⟩ := gE.ex; exact kE.free e nG
  have dl : ∀ {Hx : Hp}, Same HG Hx → Dp K Hx (.ref p7) (.list (progsD n)) := fun sx => .lst (SqL.of (sx _ _ eG)) (dpAll_mono sx _ _ dG)
  have row : ∀ {i : Nat} {y : V}, ys[i]? = some y → ∃ t xs d, y = .ref t ∧ SqT K HG t xs ∧ xs[0]? = some (.str "teller") ∧ Dp K HG y d ∧ isProg d = true ∧ Lay d := fun {i y} hy => by
    obtain ⟨d, hd, dp⟩ := dpAll_get dG hy
    obtain ⟨p1, p2, e, rfl⟩ := progs_ok n8 d (List.mem_of_getElem? hd)
    obtain ⟨t, xs, rfl, ht, ha⟩ := dp_tup_inv dp
    obtain ⟨x0, x1, rfl, hx0, hx1⟩ := dp_pair ha
    cases hx0
    exact ⟨t, _, _, rfl, ht, rfl, dp, p1, p2⟩
  have n7b : p7 ≠ b2 := (gE.ne nG).symm
  clear uG fE gE kE gD kD
  have d7 := dl (Same.refl HG)
  refine ⟨_, rfl, .ref p7, .ty "list", _, _, _, rfl, .ty _, dp_ty d7, kit_isT (.list (progsD n)) (by simp) (dp_nd d7), _, rfl, ?_⟩
  rw [show isT (.list (progsD n)) "list" = true from rfl]
  refine iteF ⟨_, rfl, p7, ys, rfl, .inl (SqL.of eG), _, rfl, rfl, _, rfl, ?_⟩
  refine iteNS (show V.int ((ys.length : Nat) : Int) = V.int ((n : Nat) : Int) from by rw [hlen]) ?_
  refine ⟨_, rfl, p7, rfl, ⟨_, SqL.of eG⟩, fun D1 nD1 => lc_it (walk_list (K := K) (a := p7) (xs := ys)) (fun i Hx => Same HG Hx ∧ Hx D1 = some (.lst (List.replicate i (V.str "teller")))) ⟨same_new nD1 _, upd_same⟩ (fun i Hx _ ⟨sx, _⟩ => SqL.of (sx _ _ eG)) ?_ ?_⟩
  · rintro i y Hx Hy hi ⟨sx, eD⟩ ⟨rfl, hy⟩
    obtain ⟨t, xs, d, rfl, ht, h0, _⟩ := row hy
    refine ⟨rfl, ?_⟩
    refine (show _ from ⟨_, rfl, t, xs, 0, _, rfl, rfl, Same.tup sx ht, atI_nat (j := 0) h0, _, eD, ?_, same_upd sx nD1 _, ?_⟩)
    · rw [List.length_replicate]
      exact Nat.lt_of_lt_of_le hi (Nat.le_trans (by omega) (by decide : 8 ≤ sizeLine))
    · rw [upd_same, rep_snoc]
  rintro HI ⟨sI, eI⟩
  rw [hlen] at eI
  refine ⟨(by show 1 ≤ sizeLine; decide), fun lx nlx => ⟨_, rfl, lx, (n : Nat), [.str "teller"], rfl, rfl, upd_same, Int.le_trans (by decide) (Int.natCast_nonneg n), Int.lt_of_le_of_lt (by omega : ((n : Nat) : Int) ≤ 8) (by decide), ?_, fun ly nly => ?_⟩⟩
  · rw [Int.toNat_natCast]
    exact Nat.le_trans (by show 1 * n ≤ 8; omega) (by decide)
  have hZ : SeqAt.shaped (.list ((List.replicate n ("teller" : Str)).map PyData.str)) = true := shaped_strs _ (kd_ok _ fun z m => .inl (List.mem_replicate.mp m).2)
  have ux := same_new nlx (.lst [.str "teller"])
  have uy := same_new nly (.lst (List.replicate ((n : Nat) : Int).toNat [V.str "teller"]).flatten)
  have efl : (List.replicate ((n : Nat) : Int).toNat [V.str "teller"]).flatten = (List.replicate n ("teller" : Str)).map V.str := by
    rw [Int.toNat_natCast, map_rep]
    exact List.flatten_replicate_singleton
  rw [← map_rep] at eI
  refine ⟨_, _, .lst (SqL.of (uy _ _ (ux _ _ eI))) (dp_strs (List.replicate n ("teller" : Str))), .lst (SqL.of (by rw [upd_same, efl])) (dp_strs (List.replicate n ("teller" : Str))), hZ, hZ, _, rfl, ?_⟩
  rw [SeqAt.eqv_refl _ (SeqAt.canLay_of_shaped hZ)]
  refine iteF ?_
  have sJ : Same HG (upd (upd HI lx (.lst [.str "teller"])) ly (.lst (List.replicate ((n : Nat) : Int).toNat [V.str "teller"]).flatten)) := sI.trans (ux.trans uy)
  change tSeq _ _ _ _ (upd (upd HI lx (.lst [.str "teller"])) ly (.lst (List.replicate ((n : Nat) : Int).toNat [V.str "teller"]).flatten))
  generalize upd (upd HI lx (.lst [.str "teller"])) ly (.lst (List.replicate ((n : Nat) : Int).toNat [V.str "teller"]).flatten) = HJ at sJ ⊢
  clear ux uy efl hZ eI sI nlx nly
  -- all of them are programs
  refine ⟨_, rfl, p7, rfl, ⟨_, SqL.of (sJ _ _ eG)⟩, fun D2 nD2 => lc_it (walk_list (K := K) (a := p7) (xs := ys)) (fun i Hx => Same HG Hx ∧ Hx D2 = some (.lst (List.replicate i (V.bl true)))) ⟨sJ.trans (same_new nD2 _), upd_same⟩ (fun i Hx _ ⟨sx, _⟩ => SqL.of (sx _ _ eG)) ?_ ?_⟩
  · rintro i y Hx Hy hi ⟨sx, eD⟩ ⟨rfl, hy⟩
    obtain ⟨t, xs, d, rfl, ht, h0, dp, p1, p2⟩ := row hy
    refine ⟨rfl, ?_⟩
    refine (show _ from ⟨_, rfl, .ref t, d, rfl, dp_mono sx _ _ dp, p2, fun Hz sz => ⟨_, sz _ _ eD, ?_, same_upd (sx.trans sz) (sJ.free nD2) _, ?_⟩⟩)
    · rw [List.length_replicate]
      exact Nat.lt_of_lt_of_le hi (Nat.le_trans (by omega) (by decide : 8 ≤ sizeLine))
    · rw [upd_same, p1, rep_snoc]
  rintro HK ⟨sK, eK⟩
  rw [hlen, ← map_repB] at eK
  refine ⟨D2, _, rfl, SqL.of eK, _, rfl, ?_⟩
  rw [rep_all]
  refine iteF ?_
  -- shown, cleared, made again
  refine ⟨_, rfl, p7, _, rfl, dl sK, progs_sh n8, ?_⟩
  have eG7 := sK _ _ eG
  refine ⟨_, rfl, .inl ⟨rfl, _, SqL.of eG7⟩, p7, _, rfl, rfl, eG7, ?_⟩
  have kL : Fr b2 HC (upd HK p7 (.lst [])) := (kG.trans (Fr.of sK)).nw nC7 (Fr.upd _)
  have gL := (gG.keep sK).upd n7b (.lst [])
  change tSeq _ _ _ _ (upd HK p7 (.lst []))
  generalize upd HK p7 (.lst []) = HL at kL gL ⊢
  clear sK eK eG7 sJ nD2 nD1 row dl d7 dG eG gG kG
  refine ⟨_, rfl, n, rfl, n1, n8, fun HM p8 zs8 uM nM eM dM => ⟨p8, _, rfl, .lst (SqL.of eM) dM, progs_sh n8, _, rfl, rfl, _, rfl, ?_⟩⟩
  refine iteNS rfl ?_
  have kM := kL.trans (Fr.of uM)
  have gM := gL.keep uM
  have sM : Same H HM := Fr.same sHC nHb2 kM
  -- the third bag, what is no number of steps
  refine ⟨_, rfl, a, ns, 2, rfl, Same.seq sM hS, h63, by decide, fun HN b3 uN nN gN => ?_⟩
  have kN := kM.trans (Fr.of uN)
  have nC3 : HC b3 = none := by obtain ⟨o, e⟩ := gM.ex; exact kM.free e nN
  clear uM nM eM dM uN kL gL kM gM
  refine ⟨(by show 1 ≤ sizeLine; decide), fun t1 nt1 => ⟨(by show 1 ≤ sizeLine; decide), fun l1 nl1 => ⟨1, rfl, _, rfl, _, _, rfl, rfl, ⟨by decide, by decide, by decide⟩, b3, _, 0, rfl, (gN.keep (same_new nt1 _)).keep (same_new nl1 _), by decide, tm (by decide), by decide, fun Ho u2 fO gO v0 v1 => ⟨_, _, rfl, rfl, (by show 8 ≤ sizeLine; decide), fun l8 nl8 => ⟨_, rfl, b3, 8, _, rfl, gO.keep (same_new nl8 _), by decide, tm (by decide), by decide, fun Hq r8 fP gP w0 w1 => ?_⟩⟩⟩⟩⟩
  have n3t : t1 ≠ b3 := (gN.ne nt1).symm
  have n3l : l1 ≠ b3 := ((gN.keep (same_new nt1 (.tup [.int 1]))).ne nl1).symm
  have n38 : l8 ≠ b3 := (gO.ne nl8).symm
  have et := fP t1 _ n3t (same_new nl8 _ _ _ (fO t1 _ n3t (same_new nl1 _ _ _ upd_same)))
  have el := fP l1 _ n3l (same_new nl8 _ _ _ (fO l1 _ n3l upd_same))
  have e8 := fP l8 _ n38 upd_same
  have kP : Fr b2 HC Hq := ((((kN.trans (Fr.of (same_new nt1 _))).trans (Fr.of (same_new nl1 _))).nw nC3 fO).trans (Fr.of (same_new nl8 _))).nw nC3 fP
  obtain ⟨v, d, hv, hd, h1, h0⟩ : ∃ v d, atI [V.bl true, V.bl false, V.non, V.str "1", V.ref t1, V.ref l1, V.int (-1 - u2), V.str ""] r8 = some v ∧ Dp K Hq v d ∧ intIn d 1 8 = false ∧ intIn d 0 mostSteps = false := by
    have : r8 = 0 ∨ r8 = 1 ∨ r8 = 2 ∨ r8 = 3 ∨ r8 = 4 ∨ r8 = 5 ∨ r8 = 6 ∨ r8 = 7 := by omega
    rcases this with rfl | rfl | rfl | rfl | rfl | rfl | rfl | rfl
    · exact ⟨_, _, rfl, .bl _, rfl, rfl⟩
    · exact ⟨_, _, rfl, .bl _, rfl, rfl⟩
    · exact ⟨_, _, rfl, .non, rfl, rfl⟩
    · exact ⟨_, _, rfl, .str _, rfl, rfl⟩
    · exact ⟨_, _, rfl, .tup (SqT.of et) (.cons (.int 1) .nil), rfl, rfl⟩
    · exact ⟨_, _, rfl, .lst (SqL.of el) (.cons (.int 1) .nil), rfl, rfl⟩
    · refine ⟨_, _, rfl, .int _, ?_, ?_⟩
      · show (decide (1 ≤ -1 - u2) && decide (-1 - u2 ≤ 8)) = false
        rw [decide_eq_false (by omega)]
        rfl
      · show (decide (0 ≤ -1 - u2) && decide (-1 - u2 ≤ mostSteps)) = false
        rw [decide_eq_false (by omega)]
        rfl
    · exact ⟨_, _, rfl, .str _, rfl, rfl⟩
  refine ⟨l8, _, r8, v, rfl, rfl, SqL.of e8, hv, ?_⟩
  clear et el e8 fP fO nl8 nl1 nt1 n3t n3l n38 hv
  -- each of four is refused in three ways
  obtain ⟨⟨dxh, st, ho, hSt⟩, hd2, hp2, f1, f2, f3, nn⟩ := id hou
  have b2x' : x ≠ b2 := b2x.symm
  have hoq := kP _ _ b2x' ho
  refine ⟨_, rfl, 1, rfl, _, _, rfl, rfl, ⟨by decide, by decide, by decide⟩, _, _, rfl, rfl, _, _, rfl, rfl, ⟨by decide, by decide, by decide⟩, _, _, rfl, rfl, ⟨by decide, by decide, by decide⟩, _, _, rfl, rfl, (by unfold CMulW; decide +kernel), (by show 4 ≤ sizeLine; decide), fun lt nlt => ?_⟩
  have ut := same_new nlt (.lst [v, .int (-1), .int (10 ^ (60 : Int).toNat + 1), .int (10 ^ (49 : Int).toNat * 10 ^ (50 : Int).toNat)])
  have elt : (upd Hq lt (.lst [v, .int (-1), .int (10 ^ (60 : Int).toNat + 1), .int (10 ^ (49 : Int).toNat * 10 ^ (50 : Int).toNat)])) lt = some (.lst [v, .int (-1), .int (10 ^ (60 : Int).toNat + 1), .int (10 ^ (49 : Int).toNat * 10 ^ (50 : Int).toNat)]) := upd_same
  refine ⟨lt, rfl, ⟨_, SqL.of elt⟩, for_it (walk_list (K := K) (a := lt) (xs := [v, .int (-1), .int (10 ^ (60 : Int).toNat + 1), .int (10 ^ (49 : Int).toNat * 10 ^ (50 : Int).toNat)])) (fun i σ Hx => ∃ s11 : Option V, σ = [some (.ref a), some (.ref b3), some (.int (n : Nat)), some (.ref D), some (.ref l4), some (.ref l5), s6, some (.ref p7), some (.ref x), some (.str (PyData.list (progsD n)).shown), some v, s11, none, none, none] ∧ Same Hq Hx ∧ Hx lt = some (.lst [v, .int (-1), .int (10 ^ (60 : Int).toNat + 1), .int (10 ^ (49 : Int).toNat * 10 ^ (50 : Int).toNat)])) ⟨none, rfl, ut, elt⟩ (fun i σ Hx _ ⟨_, _, _, e⟩ => SqL.of e) ?_ ?_⟩
  · rintro i y σ Hx Hy hi ⟨s11, rfl, sx, ex⟩ ⟨rfl, hy⟩
    obtain ⟨d', hd', q1, q0⟩ : ∃ d', Dp K Hy y d' ∧ intIn d' 1 8 = false ∧ intIn d' 0 mostSteps = false := by
      have : i = 0 ∨ i = 1 ∨ i = 2 ∨ i = 3 := by
        have : i < 4 := hi
        omega
      rcases this with rfl | rfl | rfl | rfl
      · cases hy
        exact ⟨d, dp_mono sx _ _ hd, h1, h0⟩
      · cases hy
        exact ⟨_, .int _, by decide +kernel, by decide +kernel⟩
      · cases hy
        exact ⟨_, .int _, by decide +kernel, by decide +kernel⟩
      · cases hy
        exact ⟨_, .int _, by decide +kernel, by decide +kernel⟩
    refine ⟨3, rfl, by decide, by decide, fun D3 nD3 => lc_it (walk_range (lo := 0) (n := (3 : Int).toNat)) (fun j Hz => Same Hy Hz ∧ Hz D3 = some (.lst (List.replicate j (V.bl true)))) ⟨same_new nD3 _, upd_same⟩ (fun _ _ _ _ => trivial) ?_ ?_⟩
    · rintro j z Hz Hw hj ⟨sz, eD⟩ ⟨rfl, rfl⟩
      refine ⟨rfl, ?_⟩
      refine (show _ from ⟨_, rfl, _, rfl, _, rfl, x, dxh, _, y, d', _, rfl, sz _ _ (sx _ _ hoq), rfl, dp_mono sz _ _ hd', (fun _ => q1), (fun _ => q0), fun Hw sw => ⟨_, sw _ _ eD, ?_, same_upd (sz.trans sw) nD3 _, ?_⟩⟩)
      · rw [List.length_replicate]
        exact Nat.lt_of_lt_of_le hj (by decide)
      · rw [upd_same, rep_snoc]
    · rintro Hz ⟨sz, eD⟩
      rw [← map_repB] at eD
      refine ⟨D3, _, rfl, SqL.of eD, _, rfl, ?_⟩
      rw [rep_all]
      exact iteF ⟨_, rfl, sx.trans sz, sz _ _ ex⟩
  rintro σ Hr ⟨s11, rfl, sr, _⟩
  refine ⟨_, rfl, x, dxh, _, .int 0, .int 0, 0, rfl, sr _ _ hoq, rfl, .int 0, (fun _ => by decide), (fun e => absurd rfl e), fun Hs ss => ⟨_, rfl, iteF ?_⟩⟩
  have gS := (gP.keep sr).keep ss
  refine ⟨_, rfl, _, rfl, _, _, rfl, rfl, ⟨by decide, by decide, by decide⟩, b3, _, _, rfl, gS, by decide, tm (by decide), by decide, fun Ht u3 fT gT x0 x1 => ?_⟩
  have kT := (kP.trans (Fr.of (sr.trans ss))).nw nC3 fT
  have hot := kT _ _ b2x' ho
  refine ⟨_, _, rfl, rfl, x, dxh, _, .int (9 + u3), .int (9 + u3), 0, rfl, hot, rfl, .int _, (fun _ => ?_), (fun e => absurd rfl e), fun Hu su => ⟨_, rfl, iteF ?_⟩⟩
  · show (decide (1 ≤ 9 + u3) && decide (9 + u3 ≤ 8)) = false
    rw [decide_eq_false (show ¬ 9 + u3 ≤ 8 by omega), Bool.and_false]
  have kU := kT.trans (Fr.of su)
  have hou2 : HouR K F1 Hu c x de pa emptyM [] [] false := by
    obtain ⟨vs0, ev, dv⟩ := hd2
    obtain ⟨us0, eu, du⟩ := hp2
    exact ⟨⟨dxh, st, kU _ _ b2x' ho, hSt⟩, ⟨vs0, kU _ _ deb ev, dv⟩, ⟨us0, kU _ _ pab eu, du⟩, f1, f2, f3, nn⟩
  have sU : Same F1 Hu := fun p o e => kU p o (ne_of_none e fF1) (sF1 p o e)
  refine ⟨_, rfl, x, dxh, _, rfl, kU _ _ b2x' ho, rfl, x, de, pa, F1, emptyM, [], [], false, rfl, sU, hou2, rfl, _, rfl, ?_⟩
  rw [show decide (V.int emptyM.now = V.int 0) = true from decide_eq_true rfl]
  refine iteT ⟨_, rfl, x, dxh, _, rfl, kU _ _ b2x' ho, rfl, x, de, pa, F1, emptyM, [], [], false, rfl, hou2, fun p xs np dd => ⟨(by show 0 ≤ sizeLine; decide), fun lz nz => ?_⟩⟩
  cases dd
  refine ⟨.list [], .list [], .lst (SqL.of (same_new nz _ _ _ upd_same)) .nil, .lst (SqL.of upd_same) .nil, by decide +kernel, by decide +kernel, ?_⟩
  rw [SeqAt.eqv_refl _ (by decide +kernel)]
  exact q _
end
end My

namespace My
open PySem PySem.Spec PyProof.Rows L2
/-! ### the end of a proof whose law compares by repr: the law is called where no repr is under way -/
theorem kit_s47 {K : PySem.W.Frag} {D : Addr} : PySem.W.kitOne K (.ref D) (.ref D) = some true := by
  unfold PySem.W.kitOne
  rw [if_pos (beq_self_eq_true _)]
theorem kit_n47 {K : PySem.W.Frag} {D C : Addr} (hs : PySem.W.subIn K (.ref D) (.ref D) = some true) (hd : PySem.W.hasDictIn K C = true) (ht : PySem.W.typeIn K (.ref C) = some (.type "type")) (hf : PySem.W.subIn K (.ref D) (.ref C) = some false) : PySem.W.kitOne K (.ref D) (.ref C) = some false := by
  obtain ⟨cd, hc, _⟩ := PySem.W.any_some hd
  unfold PySem.W.kitOne
  rw [if_neg (fun q => by have e := Value.ref.inj (beq_iff_eq.mp q); subst e; rw [hs] at hf; cases hf)]
  have e2 : ((PySem.W.clsIn K C).isSome && PySem.W.typeIn K (.ref C) == some (.type "type")) = true := by rw [hc, ht] <;> rfl
  show (if ((PySem.W.clsIn K C).isSome && PySem.W.typeIn K (.ref C) == some (.type "type")) = true then PySem.W.subIn K (.ref D) (.ref C) else none) = some false
  rw [if_pos e2]
  exact hf
theorem kit_t47 {K : PySem.W.Frag} {D : Addr} {T : String} {b : Bool} (hm : PySem.W.kitMeta T = true) (hs : PySem.W.subIn K (.ref D) (.type T) = some b) : PySem.W.kitOne K (.ref D) (.type T) = some b := by
  unfold PySem.W.kitOne
  have hn : ¬ (Value.ref D == Value.type T) = true := fun q => by have e := beq_iff_eq.mp q; cases e
  rw [if_neg hn]
  show (if PySem.W.kitMeta T = true then PySem.W.subIn K (.ref D) (.type T) else none) = some b
  rw [if_pos hm]
  exact hs
/-- what must be known of the tracked heap that a law starts with: at most the script is tracked -/
structure StartH (P : Program) (w : World) (K : PySem.W.Frag) (h : Heap) (a : Addr) (ns : List Int) (H : Hp) : Prop where
  only : Only H
  seq : SqL K H a (ns.map V.int)
  ok : HOk P w H h
  at_ : ∀ b, H b ≠ none → b = a
  free : H a ≠ none → K.lookup a = none
theorem startH {P : Program} {w : World} {K : PySem.W.Frag} {h : Heap} {a : Addr} {vs : List Value} {ns : List Int} (KX : K.In h) (ha : h.get? a = some { cls := .type "list", data := .seq vs.toArray }) (hi : IntsAre vs ns) (hl : ns.length ≤ sizeLine) : ∃ H, StartH P w K h a ns H := by
  have rv := vals_ints hi
  cases hk : K.lookup a with
  | some o =>
    have e := KX a o hk
    rw [ha] at e
    cases e
    exact ⟨fun _ => none, fun _ => .inl rfl, .inr ⟨_, vs.toArray, _, hk, rfl, rfl, rfl, by rw [List.size_toArray, hi.length]; exact hl, by simpa using rv⟩, (fun b u z => nomatch (show (none : Option HO) = some u from z)), fun b z => absurd rfl z, fun z => absurd rfl z⟩
  | none =>
    have me : ∀ b, b ≠ a → (if b = a then some (HO.frz { cls := .type "list", data := .seq vs.toArray } (.lst (ns.map V.int))) else none) = none := fun b n => if_neg n
    refine ⟨fun b => if b = a then some (.frz { cls := .type "list", data := .seq vs.toArray } (.lst (ns.map V.int))) else none, fun b => ?_, .inl (.inr ⟨_, if_pos rfl⟩), fun b u z => ?_, fun b z => ?_, fun _ => hk⟩
    · by_cases c : b = a
      · exact .inr ⟨_, _, if_pos c⟩
      · exact .inl (if_neg c)
    · by_cases c : b = a
      · subst c
        obtain rfl : (HO.frz { cls := .type "list", data := .seq vs.toArray } (.lst (ns.map V.int))) = u := Option.some.inj ((if_pos rfl).symm.trans z)
        exact ⟨ha, by rw [List.length_map]; exact hl, vs, _, rv, ha⟩
      · exact nomatch (if_neg c).symm.trans z
    · by_cases c : b = a
      · exact c
      · exact absurd (if_neg c) z
theorem law_callG {P : Program} {w : World} {K : PySem.W.Frag} {mg mb : Str → Option Value} {k : Nat} {fa a : Addr} {fd : FuncData} {x : Str} {sp : Sp} {s₁ : Shared} {vs : List Value} {ns : List Int}
    (KX : K.In s₁.heap) (hns : s₁.heap.Ns mainGlobals mg) (hb : s₁.heap.Ns builtinsNs mb) (hbb : ∀ x : Str, x ≠ "__name__" → mb x = bootBuiltins x) (hlim : s₁.heap.NoLimit) (hg : s₁.gens = #[])
    (ha : s₁.heap.get? a = some { cls := .type "list", data := .seq vs.toArray }) (hi : IntsAre vs ns) (hl : ns.length ≤ sizeLine) (hr : Room k callerA)
    (F : ∀ base : Heap, K.In base → base.Ns mainGlobals mg → FnG P w K mg base CX0 k fa fd [x] sp) (hbind : ∀ (s : Shared) (u : Value), BindsTo s fd ⟨[u], []⟩ [(x, u)])
    (hsp : ∀ H : Hp, Only H → SqL K H a (ns.map V.int) → sp [.ref a] H (fun v _ => v = .bl true) fun _ _ _ => False) :
    codeAny (model P w) callerA (.call (.ref fa) ⟨[.ref a], []⟩) (fun r s' => r = .ok (.ret (.bool true)) ∧ OldK s₁.heap s'.heap ∧ s'.os = s₁.os ∧ AllBare s'.gens) s₁ := by
  obtain ⟨H, only, seq, hok, at_, free⟩ := startH (P := P) (w := w) KX ha hi hl
  -- what K or a namespace knows is not tracked
  have inK : ∀ b o, K.lookup b = some o → H b = none := fun b o e => by
    cases q : H b with
    | none => rfl
    | some u =>
      have eb : b = a := at_ b (by rw [q]; simp)
      rw [eb, free (by rw [← eb, q]; simp)] at e
      cases e
  have noDict : ∀ {b : Addr} {o : Obj} {es : Array DictEntry} {ep : Nat}, s₁.heap.get? b = some o → o.data = .dict es ep → H b = none := fun {b o es ep} e d => by
    cases q : H b with
    | none => rfl
    | some u =>
      have eb : b = a := at_ b (by rw [q]; simp)
      rw [eb, ha] at e
      cases e
      exact nomatch (show Data.seq vs.toArray _ = Data.dict es ep from d)
  have hid : ∀ {b : Addr} {m : Str → Option Value}, s₁.heap.Ns b m → (hidT s₁.heap H).Ns b m := fun {b m} ⟨o, es, ep, e, d, r⟩ => ⟨o, es, ep, hidT_get e (noDict e d), d, r⟩
  have KB : K.In (hidT s₁.heap H) := fun b o e => hidT_get (KX b o e) (inK b o e)
  have M : L2.Mod K mg (hidT s₁.heap H) := ⟨KB, hid hns, ⟨mb, hid hb, hbb⟩, let ⟨mc, h1, h2⟩ := hlim; ⟨mc, hid h1, h2⟩⟩
  have e0 : Env0 P w K mg (hidT s₁.heap H) callerA [] s₁ H := ⟨rfl, M, fun b o e => of_hidT e, Nat.le_of_eq (hidT_size _ _), trivial, fun b z => absurd (show b ∈ ([] : List Addr) from z) (by simp), hok, .of_eq hg⟩
  refine codeAny_mono ((F _ KB (hid hns)).run callerA rfl [] s₁ H ⟨[.ref a], []⟩ [.ref a] [.ref a] _ _ hr e0 (hbind s₁ (.ref a)) (.cons rfl .nil) (hsp H only seq)) fun r s' h => ?_
  match r, h with
  | .error _, h => exact h.elim
  | .ok .next, h => exact h.elim
  | .ok .brk, h => exact h.elim
  | .ok .cont, h => exact h.elim
  | .ok (.ret u), ⟨v, H', os, bare, un, hok', rv, q⟩ =>
    have q' : v = .bl true := q
    subst q'
    obtain rfl : u = Value.bool true := rv
    refine ⟨rfl, OldK.of_keep fun b o e => ?_, os, bare⟩
    rcases only b with z | ⟨ob, xs, z⟩
    · exact un.keep b o e z (fun y => absurd (show b ∈ ([] : List Addr) from y) (by simp)) (by simp)
    · obtain ⟨e1, _⟩ := hok b _ z
      obtain ⟨e2, _⟩ := hok' b _ (un.frzs b ob _ z)
      rw [e] at e1
      cases e1
      exact e2
theorem walk_ofG {l : PySem.W.OpenLaw} {n k : Nat} {q : Program} {loose : List Str} {XP : (Str → Option Value) → Heap → Prop} {YP : World → Heap → Prop} {d : DefRec} {K : Params → PySem.W.Frag} {sp : World → Sp} {x : Str}
    (hn : l.most = some n) (hn2 : n ≤ sizeLine) (hdf : d.params.defaults = []) (hr : Room k callerA)
    (hY : ∀ (w : World) (h : Heap), YP w h → (K w.params).In h)
    (F : ∀ (w : World) (mg : Str → Option Value) (fa : Addr) (h : Heap), (K w.params).In h → h.Ns mainGlobals mg → mg d.name = some (.ref fa) →
      ∃ fd : FuncData, (∀ (s : Shared) (u : Value), BindsTo s fd ⟨[u], []⟩ [(x, u)]) ∧
        ∀ base : Heap, (K w.params).In base → base.Ns mainGlobals mg → FnG l.prog w (K w.params) mg base CX0 k fa fd [x] (sp w))
    (hsp : ∀ (w : World) (H : Hp) (a : Addr) (ns : List Int), ns.length ≤ n → Only H → SqL (K w.params) H a (ns.map V.int) → sp w [.ref a] H (fun v _ => v = .bl true) fun _ _ _ => False) :
    PySem.W.WalkO q loose XP YP l.row.toRowW d [] (fun f vs => PySem.call f vs) := by
  refine Att.attach_call hn hdf fun w s₀ s₁ mg mb fa o pm cd doc a vs ns G Y ho hd hcd hmg hobj hints hlen hg => ?_
  obtain ⟨fd, hb, hF⟩ := F w mg fa _ (hY w _ Y) G.T.g hmg
  exact law_callG (hY w _ Y) G.T.g G.T.b G.T.builtins G.T.nolimit hg hobj hints (Nat.le_trans hlen hn2) hr hF hb fun H hO hS => hsp w H a ns hlen hO hS
theorem sqt_of {K : PySem.W.Frag} {a : Addr} {od : Option Addr} {sl : Array (Option Value)} {n : Nat} {its : Array Value} {xs : List V} (h : K.lookup a = some ⟨.type "tuple", od, .seq its n, sl⟩) (hz : its.size ≤ sizeLine) (r : Vals xs its.toList) : ∀ H, SqT K H a xs := fun H => .inr ⟨_, its, n, h, rfl, rfl, hz, r⟩
theorem all_mk {l : PySem.W.OpenLaw} {w : World} {K : PySem.W.Frag} {h : Heap} {mg : Str → Option Value} {fa : Addr} (X : K.In h) (G : h.Ns mainGlobals mg) (hfa : mg "law" = some (.ref fa))
    {fFrom : Addr} {odFrom anFrom : Option Addr} {slFrom : Array (Option Value)} {ocFrom kVFrom dcFrom pmFrom cdFrom ctFrom : Value}
    {fInt : Addr} {odInt anInt : Option Addr} {slInt : Array (Option Value)} {ocInt kVInt dcInt pmInt cdInt ctInt : Value}
    {fTerm : Addr} {odTerm anTerm : Option Addr} {slTerm : Array (Option Value)} {ocTerm kVTerm dcTerm pmTerm cdTerm ctTerm : Value}
    {fCond : Addr} {odCond anCond : Option Addr} {slCond : Array (Option Value)} {ocCond kVCond dcCond pmCond cdCond ctCond : Value}
    {fPart : Addr} {odPart anPart : Option Addr} {slPart : Array (Option Value)} {ocPart kVPart dcPart pmPart cdPart ctPart : Value}
    {fWord : Addr} {odWord anWord : Option Addr} {slWord : Array (Option Value)} {ocWord kVWord dcWord pmWord cdWord ctWord : Value}
    {fRoles : Addr} {odRoles anRoles : Option Addr} {slRoles : Array (Option Value)} {ocRoles kVRoles dcRoles pmRoles cdRoles ctRoles : Value}
    {fPlain : Addr} {odPlain anPlain : Option Addr} {slPlain : Array (Option Value)} {ocPlain kVPlain dcPlain pmPlain cdPlain ctPlain : Value}
    {fOut : Addr} {odOut anOut : Option Addr} {slOut : Array (Option Value)} {ocOut kVOut dcOut pmOut cdOut ctOut : Value}
    {fBodies : Addr} {odBodies anBodies : Option Addr} {slBodies : Array (Option Value)} {ocBodies kVBodies dcBodies pmBodies cdBodies ctBodies : Value}
    {fProg : Addr} {odProg anProg : Option Addr} {slProg : Array (Option Value)} {ocProg kVProg dcProg pmProg cdProg ctProg : Value}
    {fPur : Addr} {odPur anPur : Option Addr} {slPur : Array (Option Value)} {ocPur kVPur dcPur pmPur cdPur ctPur : Value}
    {fTak : Addr} {odTak anTak : Option Addr} {slTak : Array (Option Value)} {ocTak kVTak dcTak pmTak cdTak ctTak : Value}
    {fAlk : Addr} {odAlk anAlk : Option Addr} {slAlk : Array (Option Value)} {ocAlk kVAlk dcAlk pmAlk cdAlk ctAlk : Value}
    {fRf : Addr} {odRf anRf : Option Addr} {slRf : Array (Option Value)} {ocRf kVRf dcRf pmRf cdRf ctRf : Value}
    {fMo : Addr} {odMo anMo : Option Addr} {slMo : Array (Option Value)} {ocMo kVMo dcMo pmMo cdMo ctMo : Value}
    {fBu : Addr} {odBu anBu : Option Addr} {slBu : Array (Option Value)} {ocBu kVBu dcBu pmBu cdBu ctBu : Value}
    {fPa : Addr} {odPa anPa : Option Addr} {slPa : Array (Option Value)} {ocPa kVPa dcPa pmPa cdPa ctPa : Value}
    {fEmp : Addr} {odEmp anEmp : Option Addr} {slEmp : Array (Option Value)} {ocEmp kVEmp dcEmp pmEmp cdEmp ctEmp : Value}
    {fLaw : Addr} {odLaw anLaw : Option Addr} {slLaw : Array (Option Value)} {ocLaw kVLaw dcLaw pmLaw cdLaw ctLaw : Value}
    {tG : Tok}
    {tL : Tok}
    {tS : Tok}
    {tD : Tok}
    {aV : Addr} {odV : Option Addr} {slV : Array (Option Value)} {nV : Nat} {tV0 tV1 : Tok}
    {aC : Addr} {odC : Option Addr} {slC : Array (Option Value)} {nC : Nat} {tC0 tC1 tC2 : Tok}
    {aA : Addr} {odA : Option Addr} {slA : Array (Option Value)} {nA : Nat} {tA0 tA1 tA2 : Tok}
    {aK : Addr} {odK : Option Addr} {slK : Array (Option Value)} {nK : Nat} {tK0 tK1 : Tok}
    {aB : Addr} {nB : Nat} {hB0 hB1 : Int} {tB0 tB1 tB2 tB3 : Tok}
    {aSh : Addr} {nSh : Nat} {hSh0 hSh1 hSh2 : Int} {tSh0 tSh1 tSh2 : Tok}
    {aSh0 : Addr} {odSh0 : Option Addr} {slSh0 : Array (Option Value)} {nSh0 : Nat} {tSh00 tSh01 : Tok}
    {aSh1 : Addr} {odSh1 : Option Addr} {slSh1 : Array (Option Value)} {nSh1 : Nat} {tSh10 tSh11 : Tok}
    {aSh2 : Addr} {odSh2 : Option Addr} {slSh2 : Array (Option Value)} {nSh2 : Nat} {tSh20 : Tok}
    {aTe : Addr} {nTe : Nat} {hTe0 hTe1 : Int} {tTe0 tTe1 : Tok}
    {aTe0 : Addr} {odTe0 : Option Addr} {slTe0 : Array (Option Value)} {nTe0 : Nat} {tTe00 tTe01 tTe02 : Tok}
    {aTe1 : Addr} {odTe1 : Option Addr} {slTe1 : Array (Option Value)} {nTe1 : Nat} {tTe10 : Tok}
    {aCo : Addr} {nCo : Nat} {hCo0 hCo1 : Int} {tCo0 tCo1 : Tok}
    {aCo0 : Addr} {odCo0 : Option Addr} {slCo0 : Array (Option Value)} {nCo0 : Nat} {tCo00 : Tok}
    {aCo1 : Addr} {odCo1 : Option Addr} {slCo1 : Array (Option Value)} {nCo1 : Nat} {tCo10 : Tok}
    {cSt cHo : Addr}
    {fSnI : Addr} {odSnI anSnI : Option Addr} {slSnI : Array (Option Value)} {ocSnI kVSnI dcSnI pmSnI cdSnI ctSnI : Value}
    {fHoI : Addr} {odHoI anHoI : Option Addr} {slHoI : Array (Option Value)} {ocHoI kVHoI dcHoI pmHoI cdHoI ctHoI : Value}
    {fHoC : Addr} {odHoC anHoC : Option Addr} {slHoC : Array (Option Value)} {ocHoC kVHoC dcHoC pmHoC cdHoC ctHoC : Value}
    {fHoH : Addr} {odHoH anHoH : Option Addr} {slHoH : Array (Option Value)} {ocHoH kVHoH dcHoH pmHoH cdHoH ctHoH : Value}
    {TAv DAv : Addr} {toAv : Option Addr} {nAv : Nat} {tsAv : Array (Option Value)} {tkAv : Tok}
    {fHoA : Addr} {odHoA anHoA : Option Addr} {slHoA : Array (Option Value)} {ocHoA dcHoA pmHoA cdHoA ctHoA : Value}
    {tkMT tkMS : Tok}
    {aO : Addr} {nO : Nat} {hO0 hO1 : Int} {tO0 tO1 tO2 tO3 : Tok}
    {cP cB cS cH : Addr}
    (aFrom : PySem.W.nsIn K mainGlobals "is_integer_from" = some (some (.ref fFrom)))
    (lFrom : K.lookup fFrom = some ⟨ocFrom, odFrom, .func (PySem.W.fnOf "is_integer_from" "is_integer_from" (defArgs sFrom) (defBody sFrom) (defScope sFrom) .none kVFrom dcFrom pmFrom anFrom cdFrom ctFrom), slFrom⟩)
    (cFrom : PySem.W.codeIn K cdFrom "is_integer_from" = true)
    (kFrom : PySem.W.keepIn K (.ref fFrom) = true)
    (aInt : PySem.W.nsIn K mainGlobals "is_integer_from_to" = some (some (.ref fInt)))
    (lInt : K.lookup fInt = some ⟨ocInt, odInt, .func (PySem.W.fnOf "is_integer_from_to" "is_integer_from_to" (defArgs sInt) (defBody sInt) (defScope sInt) .none kVInt dcInt pmInt anInt cdInt ctInt), slInt⟩)
    (cInt : PySem.W.codeIn K cdInt "is_integer_from_to" = true)
    (kInt : PySem.W.keepIn K (.ref fInt) = true)
    (aTerm : PySem.W.nsIn K mainGlobals "is_term" = some (some (.ref fTerm)))
    (lTerm : K.lookup fTerm = some ⟨ocTerm, odTerm, .func (PySem.W.fnOf "is_term" "is_term" (defArgs sTerm) (defBody sTerm) (defScope sTerm) .none kVTerm dcTerm pmTerm anTerm cdTerm ctTerm), slTerm⟩)
    (cTerm : PySem.W.codeIn K cdTerm "is_term" = true)
    (kTerm : PySem.W.keepIn K (.ref fTerm) = true)
    (aCond : PySem.W.nsIn K mainGlobals "is_condition" = some (some (.ref fCond)))
    (lCond : K.lookup fCond = some ⟨ocCond, odCond, .func (PySem.W.fnOf "is_condition" "is_condition" (defArgs sCond) (defBody sCond) (defScope sCond) .none kVCond dcCond pmCond anCond cdCond ctCond), slCond⟩)
    (cCond : PySem.W.codeIn K cdCond "is_condition" = true)
    (kCond : PySem.W.keepIn K (.ref fCond) = true)
    (aPart : PySem.W.nsIn K mainGlobals "is_part" = some (some (.ref fPart)))
    (lPart : K.lookup fPart = some ⟨ocPart, odPart, .func (PySem.W.fnOf "is_part" "is_part" (defArgs sPart) (defBody sPart) (defScope sPart) .none kVPart dcPart pmPart anPart cdPart ctPart), slPart⟩)
    (cPart : PySem.W.codeIn K cdPart "is_part" = true)
    (kPart : PySem.W.keepIn K (.ref fPart) = true)
    (aWord : PySem.W.nsIn K mainGlobals "word_of" = some (some (.ref fWord)))
    (lWord : K.lookup fWord = some ⟨ocWord, odWord, .func (PySem.W.fnOf "word_of" "word_of" (defArgs sWord) (defBody sWord) (defScope sWord) .none kVWord dcWord pmWord anWord cdWord ctWord), slWord⟩)
    (cWord : PySem.W.codeIn K cdWord "word_of" = true)
    (kWord : PySem.W.keepIn K (.ref fWord) = true)
    (aRoles : PySem.W.nsIn K mainGlobals "roles_of" = some (some (.ref fRoles)))
    (lRoles : K.lookup fRoles = some ⟨ocRoles, odRoles, .func (PySem.W.fnOf "roles_of" "roles_of" (defArgs sRoles) (defBody sRoles) (defScope sRoles) .none kVRoles dcRoles pmRoles anRoles cdRoles ctRoles), slRoles⟩)
    (cRoles : PySem.W.codeIn K cdRoles "roles_of" = true)
    (kRoles : PySem.W.keepIn K (.ref fRoles) = true)
    (aPlain : PySem.W.nsIn K mainGlobals "is_plain_statement" = some (some (.ref fPlain)))
    (lPlain : K.lookup fPlain = some ⟨ocPlain, odPlain, .func (PySem.W.fnOf "is_plain_statement" "is_plain_statement" (defArgs sPlain) (defBody sPlain) (defScope sPlain) .none kVPlain dcPlain pmPlain anPlain cdPlain ctPlain), slPlain⟩)
    (cPlain : PySem.W.codeIn K cdPlain "is_plain_statement" = true)
    (kPlain : PySem.W.keepIn K (.ref fPlain) = true)
    (aOut : PySem.W.nsIn K mainGlobals "is_outside_of_statement" = some (some (.ref fOut)))
    (lOut : K.lookup fOut = some ⟨ocOut, odOut, .func (PySem.W.fnOf "is_outside_of_statement" "is_outside_of_statement" (defArgs sOut) (defBody sOut) (defScope sOut) .none kVOut dcOut pmOut anOut cdOut ctOut), slOut⟩)
    (cOut : PySem.W.codeIn K cdOut "is_outside_of_statement" = true)
    (kOut : PySem.W.keepIn K (.ref fOut) = true)
    (aBodies : PySem.W.nsIn K mainGlobals "bodies_of" = some (some (.ref fBodies)))
    (lBodies : K.lookup fBodies = some ⟨ocBodies, odBodies, .func (PySem.W.fnOf "bodies_of" "bodies_of" (defArgs sBodies) (defBody sBodies) (defScope sBodies) .none kVBodies dcBodies pmBodies anBodies cdBodies ctBodies), slBodies⟩)
    (cBodies : PySem.W.codeIn K cdBodies "bodies_of" = true)
    (kBodies : PySem.W.keepIn K (.ref fBodies) = true)
    (aProg : PySem.W.nsIn K mainGlobals "is_program" = some (some (.ref fProg)))
    (lProg : K.lookup fProg = some ⟨ocProg, odProg, .func (PySem.W.fnOf "is_program" "is_program" (defArgs sProg) (defBody sProg) (defScope sProg) .none kVProg dcProg pmProg anProg cdProg ctProg), slProg⟩)
    (cProg : PySem.W.codeIn K cdProg "is_program" = true)
    (kProg : PySem.W.keepIn K (.ref fProg) = true)
    (aPur : PySem.W.nsIn K mainGlobals "_law_purse" = some (some (.ref fPur)))
    (lPur : K.lookup fPur = some ⟨ocPur, odPur, .func (PySem.W.fnOf "_law_purse" "_law_purse" (defArgs sPur) (defBody sPur) (defScope sPur) .none kVPur dcPur pmPur anPur cdPur ctPur), slPur⟩)
    (cPur : PySem.W.codeIn K cdPur "_law_purse" = true)
    (kPur : PySem.W.keepIn K (.ref fPur) = true)
    (aTak : PySem.W.nsIn K mainGlobals "_law_take" = some (some (.ref fTak)))
    (lTak : K.lookup fTak = some ⟨ocTak, odTak, .func (PySem.W.fnOf "_law_take" "_law_take" (defArgs sTak) (defBody sTak) (defScope sTak) .none kVTak dcTak pmTak anTak cdTak ctTak), slTak⟩)
    (cTak : PySem.W.codeIn K cdTak "_law_take" = true)
    (kTak : PySem.W.keepIn K (.ref fTak) = true)
    (aAlk : PySem.W.nsIn K mainGlobals "_law_alike" = some (some (.ref fAlk)))
    (lAlk : K.lookup fAlk = some ⟨ocAlk, odAlk, .func (PySem.W.fnOf "_law_alike" "_law_alike" (defArgs sAlk) (defBody sAlk) (defScope sAlk) .none kVAlk dcAlk pmAlk anAlk cdAlk ctAlk), slAlk⟩)
    (cAlk : PySem.W.codeIn K cdAlk "_law_alike" = true)
    (kAlk : PySem.W.keepIn K (.ref fAlk) = true)
    (aRf : PySem.W.nsIn K mainGlobals "_law_refused" = some (some (.ref fRf)))
    (lRf : K.lookup fRf = some ⟨ocRf, odRf, .func (PySem.W.fnOf "_law_refused" "_law_refused" (defArgs sRf) (defBody sRf) (defScope sRf) .none kVRf dcRf pmRf anRf cdRf ctRf), slRf⟩)
    (cRf : PySem.W.codeIn K cdRf "_law_refused" = true)
    (kRf : PySem.W.keepIn K (.ref fRf) = true)
    (aMo : PySem.W.nsIn K mainGlobals "most_acts" = some (some (.ref fMo)))
    (lMo : K.lookup fMo = some ⟨ocMo, odMo, .func (PySem.W.fnOf "most_acts" "most_acts" (defArgs sMost) (defBody sMost) (defScope sMost) .none kVMo dcMo pmMo anMo cdMo ctMo), slMo⟩)
    (cMo : PySem.W.codeIn K cdMo "most_acts" = true)
    (kMo : PySem.W.keepIn K (.ref fMo) = true)
    (aBu : PySem.W.nsIn K mainGlobals "busiest" = some (some (.ref fBu)))
    (lBu : K.lookup fBu = some ⟨ocBu, odBu, .func (PySem.W.fnOf "busiest" "busiest" (defArgs sBus) (defBody sBus) (defScope sBus) .none kVBu dcBu pmBu anBu cdBu ctBu), slBu⟩)
    (cBu : PySem.W.codeIn K cdBu "busiest" = true)
    (kBu : PySem.W.keepIn K (.ref fBu) = true)
    (aPa : PySem.W.nsIn K mainGlobals "patient_teller" = some (some (.ref fPa)))
    (lPa : K.lookup fPa = some ⟨ocPa, odPa, .func (PySem.W.fnOf "patient_teller" "patient_teller" (defArgs sPat) (defBody sPat) (defScope sPat) .none kVPa dcPa pmPa anPa cdPa ctPa), slPa⟩)
    (cPa : PySem.W.codeIn K cdPa "patient_teller" = true)
    (kPa : PySem.W.keepIn K (.ref fPa) = true)
    (aEmp : PySem.W.nsIn K mainGlobals "empty_standing" = some (some (.ref fEmp)))
    (lEmp : K.lookup fEmp = some ⟨ocEmp, odEmp, .func (PySem.W.fnOf "empty_standing" "empty_standing" (defArgs sEmp) (defBody sEmp) (defScope sEmp) .none kVEmp dcEmp pmEmp anEmp cdEmp ctEmp), slEmp⟩)
    (cEmp : PySem.W.codeIn K cdEmp "empty_standing" = true)
    (kEmp : PySem.W.keepIn K (.ref fEmp) = true)
    (aLaw : PySem.W.nsIn K mainGlobals "law" = some (some (.ref fLaw)))
    (lLaw : K.lookup fLaw = some ⟨ocLaw, odLaw, .func (PySem.W.fnOf "law" "law" (defArgs sLaw) (defBody sLaw) (defScope sLaw) .none kVLaw dcLaw pmLaw anLaw cdLaw ctLaw), slLaw⟩)
    (cLaw : PySem.W.codeIn K cdLaw "law" = true)
    (kLaw : PySem.W.keepIn K (.ref fLaw) = true)
    (zisinstance : PySem.W.nsIn K mainGlobals "isinstance" = some none)
    (zint : PySem.W.nsIn K mainGlobals "int" = some none)
    (zbool : PySem.W.nsIn K mainGlobals "bool" = some none)
    (zstr : PySem.W.nsIn K mainGlobals "str" = some none)
    (ztuple : PySem.W.nsIn K mainGlobals "tuple" = some none)
    (zlen : PySem.W.nsIn K mainGlobals "len" = some none)
    (zzip : PySem.W.nsIn K mainGlobals "zip" = some none)
    (zall : PySem.W.nsIn K mainGlobals "all" = some none)
    (zabs : PySem.W.nsIn K mainGlobals "abs" = some none)
    (zmax : PySem.W.nsIn K mainGlobals "max" = some none)
    (zmin : PySem.W.nsIn K mainGlobals "min" = some none)
    (zany : PySem.W.nsIn K mainGlobals "any" = some none)
    (zrange : PySem.W.nsIn K mainGlobals "range" = some none)
    (zlist : PySem.W.nsIn K mainGlobals "list" = some none)
    (zsum : PySem.W.nsIn K mainGlobals "sum" = some none)
    (zrepr : PySem.W.nsIn K mainGlobals "repr" = some none)
    (zValueError : PySem.W.nsIn K mainGlobals "ValueError" = some none)
    (gG : PySem.W.nsIn K mainGlobals "GREATEST_VALUE" = some (some (.int 15 tG)))
    (gL : PySem.W.nsIn K mainGlobals "LONGEST_WAIT" = some (some (.int longest tL)))
    (gS : PySem.W.nsIn K mainGlobals "MOST_STATEMENTS" = some (some (.int 24 tS)))
    (gD : PySem.W.nsIn K mainGlobals "MOST_DEPTH" = some (some (.int 4 tD)))
    (mV : PySem.W.nsIn K mainGlobals "VARIABLES" = some (some (.ref aV)))
    (qV : K.lookup aV = some ⟨.type "tuple", odV, .seq #[.str "a" tV0, .str "b" tV1] nV, slV⟩)
    (mC : PySem.W.nsIn K mainGlobals "CONDITION_SIGNS" = some (some (.ref aC)))
    (qC : K.lookup aC = some ⟨.type "tuple", odC, .seq #[.str "==" tC0, .str "!=" tC1, .str "<" tC2] nC, slC⟩)
    (mA : PySem.W.nsIn K mainGlobals "ASK_SIGNS" = some (some (.ref aA)))
    (qA : K.lookup aA = some ⟨.type "tuple", odA, .seq #[.str "+" tA0, .str "-" tA1, .str "=" tA2] nA, slA⟩)
    (mK : PySem.W.nsIn K mainGlobals "KINDS" = some (some (.ref aK)))
    (qK : K.lookup aK = some ⟨.type "tuple", odK, .seq #[.str "teller" tK0, .str "collector" tK1] nK, slK⟩)
    (mB : PySem.W.nsIn K mainGlobals "BODIES" = some (some (.ref aB)))
    (qB : K.lookup aB = some ⟨.type "dict", none, .dict #[⟨hB0, .str "if" tB0, .int 2 tB2⟩, ⟨hB1, .str "while" tB1, .int 1 tB3⟩] nB, #[]⟩)
    (yB : PySem.W.KeysLit w.params (#[⟨hB0, .str "if" tB0, .int 2 tB2⟩, ⟨hB1, .str "while" tB1, .int 1 tB3⟩] : Array DictEntry).toList)
    (wB : (aB == sysModules) = false)
    (mSh : PySem.W.nsIn K mainGlobals "SHARED_ROLES" = some (some (.ref aSh)))
    (qSh : K.lookup aSh = some ⟨.type "dict", none, .dict #[⟨hSh0, .str "set" tSh0, .ref aSh0⟩, ⟨hSh1, .str "add" tSh1, .ref aSh1⟩, ⟨hSh2, .str "wait" tSh2, .ref aSh2⟩] nSh, #[]⟩)
    (ySh : PySem.W.KeysLit w.params (#[⟨hSh0, .str "set" tSh0, .ref aSh0⟩, ⟨hSh1, .str "add" tSh1, .ref aSh1⟩, ⟨hSh2, .str "wait" tSh2, .ref aSh2⟩] : Array DictEntry).toList)
    (wSh : (aSh == sysModules) = false)
    (qSh0 : K.lookup aSh0 = some ⟨.type "tuple", odSh0, .seq #[.str "variable" tSh00, .str "value" tSh01] nSh0, slSh0⟩)
    (qSh1 : K.lookup aSh1 = some ⟨.type "tuple", odSh1, .seq #[.str "variable" tSh10, .str "term" tSh11] nSh1, slSh1⟩)
    (qSh2 : K.lookup aSh2 = some ⟨.type "tuple", odSh2, .seq #[.str "steps" tSh20] nSh2, slSh2⟩)
    (mTe : PySem.W.nsIn K mainGlobals "TELLER_ROLES" = some (some (.ref aTe)))
    (qTe : K.lookup aTe = some ⟨.type "dict", none, .dict #[⟨hTe0, .str "ask" tTe0, .ref aTe0⟩, ⟨hTe1, .str "answer" tTe1, .ref aTe1⟩] nTe, #[]⟩)
    (yTe : PySem.W.KeysLit w.params (#[⟨hTe0, .str "ask" tTe0, .ref aTe0⟩, ⟨hTe1, .str "answer" tTe1, .ref aTe1⟩] : Array DictEntry).toList)
    (wTe : (aTe == sysModules) = false)
    (qTe0 : K.lookup aTe0 = some ⟨.type "tuple", odTe0, .seq #[.str "sign" tTe00, .str "term" tTe01, .str "variable" tTe02] nTe0, slTe0⟩)
    (qTe1 : K.lookup aTe1 = some ⟨.type "tuple", odTe1, .seq #[.str "answer" tTe10] nTe1, slTe1⟩)
    (mCo : PySem.W.nsIn K mainGlobals "COLLECTOR_ROLES" = some (some (.ref aCo)))
    (qCo : K.lookup aCo = some ⟨.type "dict", none, .dict #[⟨hCo0, .str "grow" tCo0, .ref aCo0⟩, ⟨hCo1, .str "list" tCo1, .ref aCo1⟩] nCo, #[]⟩)
    (yCo : PySem.W.KeysLit w.params (#[⟨hCo0, .str "grow" tCo0, .ref aCo0⟩, ⟨hCo1, .str "list" tCo1, .ref aCo1⟩] : Array DictEntry).toList)
    (wCo : (aCo == sysModules) = false)
    (qCo0 : K.lookup aCo0 = some ⟨.type "tuple", odCo0, .seq #[.str "term" tCo00] nCo0, slCo0⟩)
    (qCo1 : K.lookup aCo1 = some ⟨.type "tuple", odCo1, .seq #[.str "term" tCo10] nCo1, slCo1⟩)
    (ucSt : PySem.W.nsIn K mainGlobals "Standing" = some (some (.ref cSt)))
    (ucHo : PySem.W.nsIn K mainGlobals "House" = some (some (.ref cHo)))
    (pgS : PySem.W.plainGet K cSt Str.empty = true)
    (hdS : PySem.W.hasDictIn K cSt = true)
    (poS : PySem.W.plainOver K cSt = true)
    (saS : PySem.W.findIn K (.ref cSt) "__setattr__" = some (some (.builtin "object.__setattr__")))
    (mkS : PySem.W.makesIn K cSt = true)
    (kcS : PySem.W.keepIn K (.ref cSt) = true)
    (nS_now : PySem.W.findIn K (.ref cSt) "now" = some none)
    (nS_sets : PySem.W.findIn K (.ref cSt) "sets" = some none)
    (nS_machines : PySem.W.findIn K (.ref cSt) "machines" = some none)
    (nS_ahead : PySem.W.findIn K (.ref cSt) "ahead" = some none)
    (nS_mark : PySem.W.findIn K (.ref cSt) "mark" = some none)
    (pgH : PySem.W.plainGet K cHo Str.empty = true)
    (hdH : PySem.W.hasDictIn K cHo = true)
    (poH : PySem.W.plainOver K cHo = true)
    (saH : PySem.W.findIn K (.ref cHo) "__setattr__" = some (some (.builtin "object.__setattr__")))
    (mkH : PySem.W.makesIn K cHo = true)
    (kcH : PySem.W.keepIn K (.ref cHo) = true)
    (nH_standing : PySem.W.findIn K (.ref cHo) "standing" = some none)
    (nH_deeds : PySem.W.findIn K (.ref cHo) "deeds" = some none)
    (nH_past : PySem.W.findIn K (.ref cHo) "past" = some none)
    (nH_busy : PySem.W.findIn K (.ref cHo) "busy" = some none)
    (aSnI : PySem.W.findIn K (.ref cSt) "__init__" = some (some (.ref fSnI)))
    (iSnI : PySem.W.isFn K (.ref fSnI) = true)
    (lSnI : K.lookup fSnI = some ⟨ocSnI, odSnI, .func (PySem.W.fnOf "__init__" "Standing.__init__" (defArgs sSnI) (defBody sSnI) (defScope sSnI) .none kVSnI dcSnI pmSnI anSnI cdSnI ctSnI), slSnI⟩)
    (cSnI : PySem.W.codeIn K cdSnI "Standing.__init__" = true)
    (kSnI : PySem.W.keepIn K (.ref fSnI) = true)
    (aHoI : PySem.W.findIn K (.ref cHo) "__init__" = some (some (.ref fHoI)))
    (iHoI : PySem.W.isFn K (.ref fHoI) = true)
    (lHoI : K.lookup fHoI = some ⟨ocHoI, odHoI, .func (PySem.W.fnOf "__init__" "House.__init__" (defArgs sHoI) (defBody sHoI) (defScope sHoI) .none kVHoI dcHoI pmHoI anHoI cdHoI ctHoI), slHoI⟩)
    (cHoI : PySem.W.codeIn K cdHoI "House.__init__" = true)
    (kHoI : PySem.W.keepIn K (.ref fHoI) = true)
    (aHoC : PySem.W.findIn K (.ref cHo) "clock" = some (some (.ref fHoC)))
    (iHoC : PySem.W.isFn K (.ref fHoC) = true)
    (lHoC : K.lookup fHoC = some ⟨ocHoC, odHoC, .func (PySem.W.fnOf "clock" "House.clock" (defArgs sHoC) (defBody sHoC) (defScope sHoC) .none kVHoC dcHoC pmHoC anHoC cdHoC ctHoC), slHoC⟩)
    (cHoC : PySem.W.codeIn K cdHoC "House.clock" = true)
    (kHoC : PySem.W.keepIn K (.ref fHoC) = true)
    (aHoH : PySem.W.findIn K (.ref cHo) "history" = some (some (.ref fHoH)))
    (iHoH : PySem.W.isFn K (.ref fHoH) = true)
    (lHoH : K.lookup fHoH = some ⟨ocHoH, odHoH, .func (PySem.W.fnOf "history" "House.history" (defArgs sHoH) (defBody sHoH) (defScope sHoH) .none kVHoH dcHoH pmHoH anHoH cdHoH ctHoH), slHoH⟩)
    (cHoH : PySem.W.codeIn K cdHoH "House.history" = true)
    (kHoH : PySem.W.keepIn K (.ref fHoH) = true)
    (aHoA : PySem.W.findIn K (.ref cHo) "advance" = some (some (.ref fHoA)))
    (iHoA : PySem.W.isFn K (.ref fHoA) = true)
    (lHoA : K.lookup fHoA = some ⟨ocHoA, odHoA, .func (PySem.W.fnOf "advance" "House.advance" (defArgs sHoA) (defBody sHoA) (defScope sHoA) (.ref TAv) (.ref DAv) dcHoA pmHoA anHoA cdHoA ctHoA), slHoA⟩)
    (cHoA : PySem.W.codeIn K cdHoA "House.advance" = true)
    (kHoA : PySem.W.keepIn K (.ref fHoA) = true)
    (tA : K.lookup TAv = some ⟨.type "tuple", toAv, .seq [.int 1 tkAv].toArray nAv, tsAv⟩)
    (dA : PySem.W.nsIn K DAv "watch" = some (some .none))
    (gMT : PySem.W.nsIn K mainGlobals "MOST_TELLERS" = some (some (.int 8 tkMT)))
    (gMS : PySem.W.nsIn K mainGlobals "MOST_STEPS" = some (some (.int mostSteps tkMS)))
    (mO : PySem.W.nsIn K mainGlobals "OTHER_SIDE" = some (some (.ref aO)))
    (qO : K.lookup aO = some ⟨.type "dict", none, .dict #[⟨hO0, .str "left" tO0, .str "right" tO1⟩, ⟨hO1, .str "right" tO2, .str "left" tO3⟩] nO, #[]⟩)
    (yO : PySem.W.KeysLit w.params (#[⟨hO0, .str "left" tO0, .str "right" tO1⟩, ⟨hO1, .str "right" tO2, .str "left" tO3⟩] : Array DictEntry).toList)
    (wO : (aO == sysModules) = false)
    (rcP : PySem.W.nsIn K mainGlobals "BadProgram" = some (some (.ref cP)))
    (rcB : PySem.W.nsIn K mainGlobals "BadSide" = some (some (.ref cB)))
    (rcS : PySem.W.nsIn K mainGlobals "BadSteps" = some (some (.ref cS)))
    (rcH : PySem.W.nsIn K mainGlobals "HouseError" = some (some (.ref cH)))
    (hH1 : PySem.W.subIn K (.ref cH) (.type "BaseException") = some true)
    (hH2 : PySem.W.hasDictIn K cH = true)
    (hH3 : PySem.W.typeIn K (.ref cH) = some (.type "type"))
    (oc2 : PySem.W.specialIn K (.builtin "object.__class__") "__get__" = some (some (.builtin "getset_descriptor.__get__")))
    (oc3 : PySem.W.takesIn K (.builtin "object.__class__") = some true)
    (xS : PySem.W.excIn K cS [.type "ValueError", .type "Exception", .type "BaseException", .type "object"] "ValueError.__new__" = true)
    (xkS : PySem.W.keepIn K (.ref cS) = true)
    (xbS : PySem.W.subIn K (.ref cS) (.type "BaseException") = some true)
    (xtS : PySem.W.typeIn K (.ref cS) = some (.type "type"))
    (xhS : PySem.W.subIn K (.ref cS) (.ref cH) = some true)
    (xgaS : PySem.W.findIn K (.ref cS) "__getattribute__" = some (some (.builtin "BaseException.__getattribute__")))
    (xgbS : PySem.W.findIn K (.ref cS) "__getattr__" = some none)
    (xdS : PySem.W.hasDictIn K cS = true)
    (xcS : PySem.W.findIn K (.ref cS) "__class__" = some (some (.builtin "object.__class__")))
    (xmS : PySem.W.mroIn K cS (.type "object") = some true)
    (xsS : PySem.W.subIn K (.ref cS) (.ref cS) = some true)
    (xvS : PySem.W.subIn K (.ref cS) (.type "ValueError") = some true)
    (xncP : PySem.W.subIn K (.ref cS) (.ref cP) = some false)
    (odcP : PySem.W.hasDictIn K cP = true)
    (oycP : PySem.W.typeIn K (.ref cP) = some (.type "type"))
    (xncB : PySem.W.subIn K (.ref cS) (.ref cB) = some false)
    (odcB : PySem.W.hasDictIn K cB = true)
    (oycB : PySem.W.typeIn K (.ref cB) = some (.type "type"))
    : ∃ fd : FuncData, (∀ (s : Shared) (v : Value), BindsTo s fd ⟨[v], []⟩ [("_law_script", v)]) ∧ ∀ base : Heap, K.In base → base.Ns mainGlobals mg → FnG l.prog w K mg base CX0 8 fa fd ["_law_script"] (spLaw K) := by
  have e := hfa.symm.trans (PySem.W.mg_of X G aLaw)
  cases e
  have FFrom := fun_mk (st := sFrom) lFrom cFrom kFrom
  have bFrom := FFrom.binds (ps := ["thing", "least"]) fun _ _ _ _ _ _ us hl => match us, hl with | [_, _], _ => rfl
  have FInt := fun_mk (st := sInt) lInt cInt kInt
  have bInt := FInt.binds (ps := ["thing", "least", "greatest"]) fun _ _ _ _ _ _ us hl => match us, hl with | [_, _, _], _ => rfl
  have FTerm := fun_mk (st := sTerm) lTerm cTerm kTerm
  have bTerm := FTerm.binds (ps := ["thing"]) fun _ _ _ _ _ _ us hl => match us, hl with | [_], _ => rfl
  have FCond := fun_mk (st := sCond) lCond cCond kCond
  have bCond := FCond.binds (ps := ["thing"]) fun _ _ _ _ _ _ us hl => match us, hl with | [_], _ => rfl
  have FPart := fun_mk (st := sPart) lPart cPart kPart
  have bPart := FPart.binds (ps := ["thing", "role"]) fun _ _ _ _ _ _ us hl => match us, hl with | [_, _], _ => rfl
  have FWord := fun_mk (st := sWord) lWord cWord kWord
  have bWord := FWord.binds (ps := ["thing"]) fun _ _ _ _ _ _ us hl => match us, hl with | [_], _ => rfl
  have FRoles := fun_mk (st := sRoles) lRoles cRoles kRoles
  have bRoles := FRoles.binds (ps := ["word", "kind"]) fun _ _ _ _ _ _ us hl => match us, hl with | [_, _], _ => rfl
  have FPlain := fun_mk (st := sPlain) lPlain cPlain kPlain
  have bPlain := FPlain.binds (ps := ["thing", "kind"]) fun _ _ _ _ _ _ us hl => match us, hl with | [_, _], _ => rfl
  have FOut := fun_mk (st := sOut) lOut cOut kOut
  have bOut := FOut.binds (ps := ["thing", "kind"]) fun _ _ _ _ _ _ us hl => match us, hl with | [_, _], _ => rfl
  have FBodies := fun_mk (st := sBodies) lBodies cBodies kBodies
  have bBodies := FBodies.binds (ps := ["statement"]) fun _ _ _ _ _ _ us hl => match us, hl with | [_], _ => rfl
  have FProg := fun_mk (st := sProg) lProg cProg kProg
  have bProg := FProg.binds (ps := ["thing"]) fun _ _ _ _ _ _ us hl => match us, hl with | [_], _ => rfl
  have FPur := fun_mk (st := sPur) lPur cPur kPur
  have bPur := FPur.binds (ps := ["_law_script", "_law_at"]) fun _ _ _ _ _ _ us hl => match us, hl with | [_, _], _ => rfl
  have FTak := fun_mk (st := sTak) lTak cTak kTak
  have bTak := FTak.binds (ps := ["_law_bag", "_law_many"]) fun _ _ _ _ _ _ us hl => match us, hl with | [_, _], _ => rfl
  have FAlk := fun_mk (st := sAlk) lAlk cAlk kAlk
  have bAlk := FAlk.binds (ps := ["_law_found", "_law_due"]) fun _ _ _ _ _ _ us hl => match us, hl with | [_, _], _ => rfl
  have FRf := fun_mk (st := sRf) lRf cRf kRf
  have bRf := FRf.binds (ps := ["_law_house", "_law_thing", "_law_way"]) fun _ _ _ _ _ _ us hl => match us, hl with | [_, _, _], _ => rfl
  have FMo := fun_mk (st := sMost) lMo cMo kMo
  have bMo := FMo.binds (ps := ["kinds"]) fun _ _ _ _ _ _ us hl => match us, hl with | [_], _ => rfl
  have FBu := fun_mk (st := sBus) lBu cBu kBu
  have bBu := FBu.binds (ps := ["many"]) fun _ _ _ _ _ _ us hl => match us, hl with | [_], _ => rfl
  have FPa := fun_mk (st := sPat) lPa cPa kPa
  have bPa := FPa.binds (ps := ["length"]) fun _ _ _ _ _ _ us hl => match us, hl with | [_], _ => rfl
  have FEmp := fun_mk (st := sEmp) lEmp cEmp kEmp
  have FLaw := fun_mk (st := sLaw) lLaw cLaw kLaw
  let T : Gs K mg := ⟨PySem.W.mg_none_of X G zisinstance, PySem.W.mg_none_of X G zint, PySem.W.mg_none_of X G zbool, PySem.W.mg_none_of X G zstr, PySem.W.mg_none_of X G ztuple, PySem.W.mg_none_of X G zlen, PySem.W.mg_none_of X G zzip, PySem.W.mg_none_of X G zall,
    aV, PySem.W.mg_of X G mV, sqt_of qV (by show 2 ≤ sizeLine; decide) (.cons ⟨_, rfl⟩ (.cons ⟨_, rfl⟩ (.nil))), aC, PySem.W.mg_of X G mC, sqt_of qC (by show 3 ≤ sizeLine; decide) (.cons ⟨_, rfl⟩ (.cons ⟨_, rfl⟩ (.cons ⟨_, rfl⟩ (.nil)))), aA, PySem.W.mg_of X G mA, sqt_of qA (by show 3 ≤ sizeLine; decide) (.cons ⟨_, rfl⟩ (.cons ⟨_, rfl⟩ (.cons ⟨_, rfl⟩ (.nil)))), aK, PySem.W.mg_of X G mK, sqt_of qK (by show 2 ≤ sizeLine; decide) (.cons ⟨_, rfl⟩ (.cons ⟨_, rfl⟩ (.nil))),
    tG, PySem.W.mg_of X G gG, tL, PySem.W.mg_of X G gL, tS, PySem.W.mg_of X G gS, tD, PySem.W.mg_of X G gD⟩
  have T2 : G2 mg := ⟨PySem.W.mg_none_of X G zabs, PySem.W.mg_none_of X G zmax, PySem.W.mg_none_of X G zmin, PySem.W.mg_none_of X G zrange⟩
  have msum := PySem.W.mg_none_of X G zsum
  have mlist := PySem.W.mg_none_of X G zlist
  let D : Gd K w mg := ⟨aB, PySem.W.mg_of X G mB, ⟨⟨_, _, qB, yB, .cons ⟨_, rfl⟩ (.cons ⟨_, rfl⟩ (.nil))⟩, wB⟩,
    aSh, aSh0, aSh1, aSh2, PySem.W.mg_of X G mSh, ⟨⟨_, _, qSh, ySh, .cons rfl (.cons rfl (.cons rfl (.nil)))⟩, wSh⟩, sqt_of qSh0 (by show 2 ≤ sizeLine; decide) (.cons ⟨_, rfl⟩ (.cons ⟨_, rfl⟩ (.nil))), sqt_of qSh1 (by show 2 ≤ sizeLine; decide) (.cons ⟨_, rfl⟩ (.cons ⟨_, rfl⟩ (.nil))), sqt_of qSh2 (by show 1 ≤ sizeLine; decide) (.cons ⟨_, rfl⟩ (.nil)),
    aTe, aTe0, aTe1, PySem.W.mg_of X G mTe, ⟨⟨_, _, qTe, yTe, .cons rfl (.cons rfl (.nil))⟩, wTe⟩, sqt_of qTe0 (by show 3 ≤ sizeLine; decide) (.cons ⟨_, rfl⟩ (.cons ⟨_, rfl⟩ (.cons ⟨_, rfl⟩ (.nil)))), sqt_of qTe1 (by show 1 ≤ sizeLine; decide) (.cons ⟨_, rfl⟩ (.nil)),
    aCo, aCo0, aCo1, PySem.W.mg_of X G mCo, ⟨⟨_, _, qCo, yCo, .cons rfl (.cons rfl (.nil))⟩, wCo⟩, sqt_of qCo0 (by show 1 ≤ sizeLine; decide) (.cons ⟨_, rfl⟩ (.nil)), sqt_of qCo1 (by show 1 ≤ sizeLine; decide) (.cons ⟨_, rfl⟩ (.nil))⟩
  have zab := PySem.W.mg_none_of X G zabs
  have zsu := PySem.W.mg_none_of X G zsum
  have zra := PySem.W.mg_none_of X G zrange
  have zli := PySem.W.mg_none_of X G zlist
  have zre := PySem.W.mg_none_of X G zrepr
  have zan := PySem.W.mg_none_of X G zany
  let c : HCl := ⟨0, 0, 0, cSt, 0, 0, cHo⟩
  have NS : SnN K c.st := ⟨⟨pgS, hdS, poS, saS⟩, nS_now, nS_sets, nS_machines, nS_ahead, nS_mark⟩
  have NH : HoN K c.ho := ⟨⟨pgH, hdH, poH, saH⟩, nH_standing, nH_deeds, nH_past, nH_busy⟩
  have FSnI := fun_mk (st := sSnI) lSnI cSnI kSnI
  have bSnI := FSnI.binds (ps := ["self", "now", "sets", "machines", "ahead", "mark"]) fun _ _ _ _ _ _ us hl => match us, hl with | [_, _, _, _, _, _], _ => rfl
  have FHoI := fun_mk (st := sHoI) lHoI cHoI kHoI
  have bHoI := FHoI.binds (ps := ["self"]) fun _ _ _ _ _ _ us hl => match us, hl with | [_], _ => rfl
  have FHoC := fun_mk (st := sHoC) lHoC cHoC kHoC
  have bHoC := FHoC.binds (ps := ["self"]) fun _ _ _ _ _ _ us hl => match us, hl with | [_], _ => rfl
  have FHoH := fun_mk (st := sHoH) lHoH cHoH kHoH
  have bHoH := FHoH.binds (ps := ["self"]) fun _ _ _ _ _ _ us hl => match us, hl with | [_], _ => rfl
  have bEmp := FEmp.binds (ps := []) fun _ _ _ _ _ _ us hl => match us, hl with | [], _ => rfl
  have FHoA : FunD K "advance" "House.advance" (defArgs sHoA) (defBody sHoA) (defScope sHoA) [V.int 1] [("watch", V.non)] fHoA _ := ⟨⟨ocHoA, odHoA, .ref TAv, .ref DAv, dcHoA, pmHoA, anHoA, cdHoA, ctHoA, slHoA, rfl, lHoA, cHoA, .inr ⟨by simp, TAv, _, [.int 1 tkAv], nAv, rfl, tA, rfl, .cons ⟨_, rfl⟩ .nil⟩, .inr ⟨DAv, rfl, fun q m => by rw [List.mem_singleton.mp m]; exact ⟨_, dA, rfl⟩⟩⟩, kHoA⟩
  let O : OsT K w mg := ⟨aO, PySem.W.mg_of X G mO, ⟨⟨_, _, qO, yO, .cons ⟨_, rfl⟩ (.cons ⟨_, rfl⟩ .nil)⟩, wO⟩⟩
  let R : Er47 K mg := ⟨⟨cS, cH, PySem.W.mg_of X G rcS, PySem.W.mg_of X G rcH, ⟨xS, xkS, xbS, xtS, PySem.W.exm_ref hH1 hH2 hH3 xhS, ⟨xgaS, xgbS, xbS, xdS, xcS, oc2, oc3, xmS⟩⟩⟩, cP, cB, PySem.W.mg_of X G rcP, PySem.W.mg_of X G rcB, PySem.W.mg_none_of X G zValueError, kit_n47 xsS odcP oycP xncP, kit_n47 xsS odcB oycB xncB, kit_t47 (by decide +kernel) xvS, kit_s47⟩
  refine ⟨PySem.W.fnOf "law" "law" (defArgs sLaw) (defBody sLaw) (defScope sLaw) .none kVLaw dcLaw pmLaw anLaw cdLaw ctLaw, fun s v => .of_eq rfl, fun base _ _ => ?_⟩
  let CFrom : Cal l.prog w K mg base 1 "is_integer_from" ["thing", "least"] (spFrom K) := ⟨_, _, ok_from FFrom T, bFrom, kFrom, PySem.W.mg_of X G aFrom⟩
  let CInt : Cal l.prog w K mg base 2 "is_integer_from_to" ["thing", "least", "greatest"] (spInt K) := ⟨_, _, ok_int FInt CFrom, bInt, kInt, PySem.W.mg_of X G aInt⟩
  let CTerm : Cal l.prog w K mg base 3 "is_term" ["thing"] (sp1 isTerm K) := ⟨_, _, ok_term FTerm T CInt, bTerm, kTerm, PySem.W.mg_of X G aTerm⟩
  let CCond : Cal l.prog w K mg base 4 "is_condition" ["thing"] (sp1 isCond K) := ⟨_, _, ok_cond FCond T CTerm, bCond, kCond, PySem.W.mg_of X G aCond⟩
  let CPart : Cal l.prog w K mg base 4 "is_part" ["thing", "role"] (spPart K) := ⟨_, _, ok_part FPart T CInt CTerm, bPart, kPart, PySem.W.mg_of X G aPart⟩
  let CWord : Cal l.prog w K mg base 1 "word_of" ["thing"] (spWord K) := ⟨_, _, ok_word FWord T, bWord, kWord, PySem.W.mg_of X G aWord⟩
  let CRoles : Cal l.prog w K mg base 1 "roles_of" ["word", "kind"] (spRoles K) := ⟨_, _, ok_roles FRoles D, bRoles, kRoles, PySem.W.mg_of X G aRoles⟩
  let CPlain : Cal l.prog w K mg base 5 "is_plain_statement" ["thing", "kind"] (sp2 isPlain K) := ⟨_, _, ok_plain FPlain T CWord CRoles CPart, bPlain, kPlain, PySem.W.mg_of X G aPlain⟩
  let COut : Cal l.prog w K mg base 6 "is_outside_of_statement" ["thing", "kind"] (sp2 isOut K) := ⟨_, _, ok_out FOut T D CWord CCond CPlain, bOut, kOut, PySem.W.mg_of X G aOut⟩
  let CBodies : Cal l.prog w K mg base 1 "bodies_of" ["statement"] (spBods K) := ⟨_, _, ok_bodies FBodies T D, bBodies, kBodies, PySem.W.mg_of X G aBodies⟩
  let CProg : Cal l.prog w K mg base 7 "is_program" ["thing"] (spProg K) := ⟨_, _, ok_prog FProg T COut CBodies, bProg, kProg, PySem.W.mg_of X G aProg⟩
  let CPur : Cal l.prog w K mg base 1 "_law_purse" ["_law_script", "_law_at"] (spPur K) := ⟨_, _, ok_pur FPur T zab, bPur, kPur, PySem.W.mg_of X G aPur⟩
  let CTak : Cal l.prog w K mg base 1 "_law_take" ["_law_bag", "_law_many"] spTak := ⟨_, _, ok_tak FTak, bTak, kTak, PySem.W.mg_of X G aTak⟩
  let CMo : Cal l.prog w K mg base 1 "most_acts" ["kinds"] (spMost K) := ⟨_, _, ok_Most FMo zsu, bMo, kMo, PySem.W.mg_of X G aMo⟩
  let CPa : Cal l.prog w K mg base 1 "patient_teller" ["length"] (spPat K) := ⟨_, _, ok_Pat FPa, bPa, kPa, PySem.W.mg_of X G aPa⟩
  let CBu : Cal l.prog w K mg base 3 "busiest" ["many"] (spBus K) := ⟨_, _, ok_Bus FBu zra (PySem.W.mg_of X G gMT) CInt CPa, bBu, kBu, PySem.W.mg_of X G aBu⟩
  let CAl : CalG l.prog w K mg base 1 "_law_alike" ["_law_found", "_law_due"] (spAlk K) := ⟨_, _, ok_alk FAlk zre, bAlk, kAlk, PySem.W.mg_of X G aAlk⟩
  have GSn := ok_SnI (P := l.prog) (w := w) (mg := mg) (base := base) (C := c.st) FSnI NS
  let KS : Kl l.prog w K mg base c.st "Standing" nSn := ⟨fSnI, _, PySem.W.mg_of X G ucSt, ⟨mkS, aSnI, iSnI, kcS⟩, GSn, bSnI⟩
  let CEmp : Cal l.prog w K mg base 3 "empty_standing" [] (spEmp K c) := ⟨_, _, ok_Emp FEmp KS O, bEmp, kEmp, PySem.W.mg_of X G aEmp⟩
  have GHo := ok_HoI (P := l.prog) (w := w) (mg := mg) (base := base) (c := c) FHoI NH CEmp
  let MC : MCal l.prog w K mg base 1 c.ho "clock" ["self"] (spHoC K c) := ⟨_, _, ok_HoC FHoC NH NS, bHoC, ⟨aHoC, iHoC, kHoC⟩⟩
  let MH : MCal l.prog w K mg base 1 c.ho "history" ["self"] (spHoH K c) := ⟨_, _, ok_HoH FHoH NH zli, bHoH, ⟨aHoH, iHoH, kHoH⟩⟩
  have GBX := ok_BusX (P := l.prog) (w := w) (mg := mg) (base := base) FBu R.toErS (PySem.W.mg_of X G gMT) CInt
  have GAX := ok_HoAX (P := l.prog) (w := w) (mg := mg) (base := base) FHoA R.toErS (PySem.W.mg_of X G gMS) CInt
  let CRf : Cal l.prog w K mg base 4 "_law_refused" ["_law_house", "_law_thing", "_law_way"] (spRf K c) := ⟨_, _, ok_rf FRf T R zan NH GBX bBu kBu (PySem.W.mg_of X G aBu) GAX ⟨aHoA, iHoA, kHoA⟩ (adv_b2 FHoA) (adv_k2 FHoA), bRf, kRf, PySem.W.mg_of X G aRf⟩
  exact ok_law FLaw ⟨T, zra, zsu, zli, zre, CPur, CTak, CMo, CBu, CProg, CRf, CAl, fHoI, _, PySem.W.mg_of X G ucHo, ⟨mkH, aHoI, iHoI, kcH⟩, GHo, bHoI, NH, MC, MH⟩
theorem walk {l : PySem.W.OpenLaw} {q : Program} {loose : List Str} {XP : (Str → Option Value) → Heap → Prop} {YP : World → Heap → Prop} {d : DefRec} {K : Params → PySem.W.Frag} (hn : l.most = some 63) (hdf : d.params.defaults = [])
    (hY : ∀ (w : World) (h : Heap), YP w h → (K w.params).In h)
    (F : ∀ (w : World) (mg : Str → Option Value) (fa : Addr) (h : Heap), (K w.params).In h → h.Ns mainGlobals mg → mg d.name = some (.ref fa) →
      ∃ fd : FuncData, (∀ (s : Shared) (u : Value), BindsTo s fd ⟨[u], []⟩ [("_law_script", u)]) ∧ ∀ base : Heap, (K w.params).In base → base.Ns mainGlobals mg → FnG l.prog w (K w.params) mg base CX0 8 fa fd ["_law_script"] (spLaw (K w.params))) :
    PySem.W.WalkO q loose XP YP l.row.toRowW d [] (fun f vs => PySem.call f vs) :=
  walk_ofG (n := 63) (k := 8) (x := "_law_script") (sp := fun w => spLaw (K w.params)) hn (by decide) hdf ⟨rfl, by decide, by decide⟩ hY F fun _ _ a ns hl _ hS => ⟨a, ns, rfl, hS, hl, fun _ => rfl⟩
end My
open PySem PySem.W PyProof.Rows
set_option maxRecDepth 100000 in
set_option maxHeartbeats 0 in
theorem PySem.Challenge.cw_neithertells_k47_bounds_holds : PySem.Challenge.rw_neithertells_k47_bounds.Holds := by
  w_on; o_law; k_head; (case hw => w_witness2)
  k_fill
  refine My.walk (l := PySem.Challenge.rw_neithertells_k47_bounds) rfl rfl (fun w h Y => PySem.W.kIn_of Y) ?F
  case F =>
    intro w mg fa h KX G hmg
    refine' My.all_mk KX G hmg ?aFrom ?lFrom ?cFrom ?kFrom ?aInt ?lInt ?cInt ?kInt ?aTerm ?lTerm ?cTerm ?kTerm ?aCond ?lCond ?cCond ?kCond ?aPart ?lPart ?cPart ?kPart ?aWord ?lWord ?cWord ?kWord ?aRoles ?lRoles ?cRoles ?kRoles ?aPlain ?lPlain ?cPlain ?kPlain ?aOut ?lOut ?cOut ?kOut ?aBodies ?lBodies ?cBodies ?kBodies ?aProg ?lProg ?cProg ?kProg ?aPur ?lPur ?cPur ?kPur ?aTak ?lTak ?cTak ?kTak ?aAlk ?lAlk ?cAlk ?kAlk ?aRf ?lRf ?cRf ?kRf ?aMo ?lMo ?cMo ?kMo ?aBu ?lBu ?cBu ?kBu ?aPa ?lPa ?cPa ?kPa ?aEmp ?lEmp ?cEmp ?kEmp ?aLaw ?lLaw ?cLaw ?kLaw ?zisinstance ?zint ?zbool ?zstr ?ztuple ?zlen ?zzip ?zall ?zabs ?zmax ?zmin ?zany ?zrange ?zlist ?zsum ?zrepr ?zValueError ?gG ?gL ?gS ?gD ?mV ?qV ?mC ?qC ?mA ?qA ?mK ?qK ?mB ?qB ?yB ?wB ?mSh ?qSh ?ySh ?wSh ?qSh0 ?qSh1 ?qSh2 ?mTe ?qTe ?yTe ?wTe ?qTe0 ?qTe1 ?mCo ?qCo ?yCo ?wCo ?qCo0 ?qCo1 ?ucSt ?ucHo ?pgS ?hdS ?poS ?saS ?mkS ?kcS ?nS_now ?nS_sets ?nS_machines ?nS_ahead ?nS_mark ?pgH ?hdH ?poH ?saH ?mkH ?kcH ?nH_standing ?nH_deeds ?nH_past ?nH_busy ?aSnI ?iSnI ?lSnI ?cSnI ?kSnI ?aHoI ?iHoI ?lHoI ?cHoI ?kHoI ?aHoC ?iHoC ?lHoC ?cHoC ?kHoC ?aHoH ?iHoH ?lHoH ?cHoH ?kHoH ?aHoA ?iHoA ?lHoA ?cHoA ?kHoA ?tA ?dA ?gMT ?gMS ?mO ?qO ?yO ?wO ?rcP ?rcB ?rcS ?rcH ?hH1 ?hH2 ?hH3 ?oc2 ?oc3 ?xS ?xkS ?xbS ?xtS ?xhS ?xgaS ?xgbS ?xdS ?xcS ?xmS ?xsS ?xvS ?xncP ?odcP ?oycP ?xncB ?odcB ?oycB
    (case aFrom => k_is)
    (case lFrom => k_is)
    (case cFrom => k_is)
    (case kFrom => k_is)
    (case aInt => k_is)
    (case lInt => k_is)
    (case cInt => k_is)
    (case kInt => k_is)
    (case aTerm => k_is)
    (case lTerm => k_is)
    (case cTerm => k_is)
    (case kTerm => k_is)
    (case aCond => k_is)
    (case lCond => k_is)
    (case cCond => k_is)
    (case kCond => k_is)
    (case aPart => k_is)
    (case lPart => k_is)
    (case cPart => k_is)
    (case kPart => k_is)
    (case aWord => k_is)
    (case lWord => k_is)
    (case cWord => k_is)
    (case kWord => k_is)
    (case aRoles => k_is)
    (case lRoles => k_is)
    (case cRoles => k_is)
    (case kRoles => k_is)
    (case aPlain => k_is)
    (case lPlain => k_is)
    (case cPlain => k_is)
    (case kPlain => k_is)
    (case aOut => k_is)
    (case lOut => k_is)
    (case cOut => k_is)
    (case kOut => k_is)
    (case aBodies => k_is)
    (case lBodies => k_is)
    (case cBodies => k_is)
    (case kBodies => k_is)
    (case aProg => k_is)
    (case lProg => k_is)
    (case cProg => k_is)
    (case kProg => k_is)
    (case aPur => k_is)
    (case lPur => k_is)
    (case cPur => k_is)
    (case kPur => k_is)
    (case aTak => k_is)
    (case lTak => k_is)
    (case cTak => k_is)
    (case kTak => k_is)
    (case aAlk => k_is)
    (case lAlk => k_is)
    (case cAlk => k_is)
    (case kAlk => k_is)
    (case aRf => k_is)
    (case lRf => k_is)
    (case cRf => k_is)
    (case kRf => k_is)
    (case aMo => k_is)
    (case lMo => k_is)
    (case cMo => k_is)
    (case kMo => k_is)
    (case aBu => k_is)
    (case lBu => k_is)
    (case cBu => k_is)
    (case kBu => k_is)
    (case aPa => k_is)
    (case lPa => k_is)
    (case cPa => k_is)
    (case kPa => k_is)
    (case aEmp => k_is)
    (case lEmp => k_is)
    (case cEmp => k_is)
    (case kEmp => k_is)
    (case aLaw => k_is)
    (case lLaw => k_is)
    (case cLaw => k_is)
    (case kLaw => k_is)
    (case zisinstance => k_is)
    (case zint => k_is)
    (case zbool => k_is)
    (case zstr => k_is)
    (case ztuple => k_is)
    (case zlen => k_is)
    (case zzip => k_is)
    (case zall => k_is)
    (case zabs => k_is)
    (case zmax => k_is)
    (case zmin => k_is)
    (case zany => k_is)
    (case zrange => k_is)
    (case zlist => k_is)
    (case zsum => k_is)
    (case zrepr => k_is)
    (case zValueError => k_is)
    (case gG => k_is)
    (case gL => k_is)
    (case gS => k_is)
    (case gD => k_is)
    (case mV => k_is)
    (case qV => k_is)
    (case mC => k_is)
    (case qC => k_is)
    (case mA => k_is)
    (case qA => k_is)
    (case mK => k_is)
    (case qK => k_is)
    (case mB => k_is)
    (case qB => k_is)
    (case yB => first | k_is | (simp [PySem.W.KeysLit]))
    (case wB => first | rfl | decide | k_is)
    (case mSh => k_is)
    (case qSh => k_is)
    (case ySh => first | k_is | (simp [PySem.W.KeysLit]))
    (case wSh => first | rfl | decide | k_is)
    (case qSh0 => k_is)
    (case qSh1 => k_is)
    (case qSh2 => k_is)
    (case mTe => k_is)
    (case qTe => k_is)
    (case yTe => first | k_is | (simp [PySem.W.KeysLit]))
    (case wTe => first | rfl | decide | k_is)
    (case qTe0 => k_is)
    (case qTe1 => k_is)
    (case mCo => k_is)
    (case qCo => k_is)
    (case yCo => first | k_is | (simp [PySem.W.KeysLit]))
    (case wCo => first | rfl | decide | k_is)
    (case qCo0 => k_is)
    (case qCo1 => k_is)
    (case ucSt => k_is)
    (case ucHo => k_is)
    (case pgS => k_is)
    (case hdS => k_is)
    (case poS => k_is)
    (case saS => k_is)
    (case mkS => k_is)
    (case kcS => k_is)
    (case nS_now => k_is)
    (case nS_sets => k_is)
    (case nS_machines => k_is)
    (case nS_ahead => k_is)
    (case nS_mark => k_is)
    (case pgH => k_is)
    (case hdH => k_is)
    (case poH => k_is)
    (case saH => k_is)
    (case mkH => k_is)
    (case kcH => k_is)
    (case nH_standing => k_is)
    (case nH_deeds => k_is)
    (case nH_past => k_is)
    (case nH_busy => k_is)
    (case aSnI => k_is)
    (case iSnI => k_is)
    (case lSnI => k_is)
    (case cSnI => k_is)
    (case kSnI => k_is)
    (case aHoI => k_is)
    (case iHoI => k_is)
    (case lHoI => k_is)
    (case cHoI => k_is)
    (case kHoI => k_is)
    (case aHoC => k_is)
    (case iHoC => k_is)
    (case lHoC => k_is)
    (case cHoC => k_is)
    (case kHoC => k_is)
    (case aHoH => k_is)
    (case iHoH => k_is)
    (case lHoH => k_is)
    (case cHoH => k_is)
    (case kHoH => k_is)
    (case aHoA => k_is)
    (case iHoA => k_is)
    (case lHoA => k_is)
    (case cHoA => k_is)
    (case kHoA => k_is)
    (case tA => k_is)
    (case dA => k_is)
    (case gMT => k_is)
    (case gMS => k_is)
    (case mO => k_is)
    (case qO => k_is)
    (case yO => first | k_is | (simp [PySem.W.KeysLit]))
    (case wO => first | rfl | decide | k_is)
    (case rcP => k_is)
    (case rcB => k_is)
    (case rcS => k_is)
    (case rcH => k_is)
    (case hH1 => k_is)
    (case hH2 => k_is)
    (case hH3 => k_is)
    (case oc2 => k_is)
    (case oc3 => k_is)
    (case xS => k_exc)
    (case xkS => k_is)
    (case xbS => k_is)
    (case xtS => k_is)
    (case xhS => k_is)
    (case xgaS => k_is)
    (case xgbS => k_is)
    (case xdS => k_is)
    (case xcS => k_is)
    (case xmS => k_is)
    (case xsS => k_is)
    (case xvS => k_is)
    (case xncP => k_is)
    (case odcP => k_is)
    (case oycP => k_is)
    (case xncB => k_is)
    (case odcB => k_is)
    (case oycB => k_is)


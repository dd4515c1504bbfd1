import PyProof.Rows.All
import Wide.All
import OpenK.AllK
import Wide.FinOn
import HandS.ForMost
import HandS.IsInst
import HandS.Zip
import HandS.More
import HandS.TupAny
import HandS.TupLe
import HandS.Wide
import HandS.NoneIn
import HandS.Deep
import HandS.Star
import HandS.ForExc
import HandS.ExcIs
import HandS.ClsMeth
import HandS.MakeKw
import HandS.DictComp
import HandS.SortInts
import HandS.Defaults
import HandS.Conv
import HandS.Text
import HandS.Walk
import HandS.SetKeys
import HandS.SortRule
import HandS.SlotsOwn
import HandS.OwnEq
import HandS.Style
import PySem.Challenge.RW_neithertells_k20_whole_lists_as_walked
set_option Elab.async false
set_option linter.all false
set_option maxRecDepth 100000
set_option maxHeartbeats 8000000
namespace My
open PySem L2
def top (i : Nat) : Stmt := PySem.Challenge.pw_neithertells_k20_whole_lists_as_walked.main.body.getD i (.Pass ⟨0, 0, 0, 0⟩)
abbrev sFrom : Stmt := top 19
abbrev sInt : Stmt := top 20
abbrev sTerm : Stmt := top 21
abbrev sCond : Stmt := top 22
abbrev sPart : Stmt := top 23
abbrev sWord : Stmt := top 24
abbrev sRoles : Stmt := top 25
abbrev sPlain : Stmt := top 26
abbrev sOut : Stmt := top 27
abbrev sBodies : Stmt := top 28
abbrev sProg : Stmt := top 29

/-! ### the mathematics of programs -/
def inS (d : PyData) (zs : List Str) : Bool := match d with | .str z => zs.any (· == z) | _ => false
def intIn (d : PyData) (lo hi : Int) : Bool := match d with | .int i => decide (lo ≤ i) && decide (i ≤ hi) | _ => false
def intFrom (d : PyData) (lo : Int) : Bool := match d with | .int i => decide (lo ≤ i) | _ => false
def vars : List Str := ["a", "b"]
def signs : List Str := ["==", "!=", "<"]
def asks : List Str := ["+", "-", "="]
def kinds : List Str := ["teller", "collector"]
def isTerm (d : PyData) : Bool := inS d vars || intIn d 0 15
def isCond (d : PyData) : Bool := match d with
  | .tuple [x, y, z] => inS x vars && inS y signs && isTerm z
  | _ => false
def longest : Int := 1000000000000000000000000000000
def isPart (d : PyData) (r : Str) : Bool :=
  if r = "variable" then inS d vars else if r = "term" then isTerm d else if r = "sign" then inS d asks else if r = "steps" then intIn d 1 longest
  else if r = "answer" then intIn d 0 1 else intIn d 0 15

/-! ### rules -/
section
variable {X : Cx}
theorem depth_strs (zs : List Str) : PyData.depthAll (zs.map PyData.str) = 0 := by
  induction zs with
  | nil => rfl
  | cons z r ih => simp only [List.map_cons, PyData.depthAll, PyData.depth, ih]; rfl
theorem lay_strs : ∀ (zs : List Str), zs.all PyData.strOk = true → PyData.canLayAll0 (zs.map PyData.str) = true
  | [], _ => by simp [PyData.canLayAll0]
  | z :: r, h => by
    simp only [List.all_cons, Bool.and_eq_true] at h
    simp only [List.map_cons, PyData.canLayAll0, PyData.canLay0, Bool.and_eq_true]
    exact ⟨h.1, lay_strs r h.2⟩
theorem any_strs (d : PyData) : ∀ (zs : List Str), ((zs.map PyData.str).any fun y => PyData.eqv y d) = inS d zs
  | [] => by cases d <;> rfl
  | z :: r => by
    have ih := any_strs d r
    rw [List.map_cons, List.any_cons, ih]
    cases d <;> simp [inS, PyData.eqv]
theorem dp_strs {K : PySem.W.Frag} {H : Hp} : ∀ zs : List Str, DpAll K H (zs.map V.str) (zs.map PyData.str)
  | [] => .nil
  | z :: r => .cons (.str z) (dp_strs r)
def rInS (K : PySem.W.Frag) (neg : Bool) : R2 := fun x y H Q => ∃ (d : PyData) (zs : List Str) (p : Addr), y = .ref p ∧ Dp K H x d ∧ d.canLay0 = true ∧ SqT K H p (zs.map V.str) ∧ zs.all PyData.strOk = true ∧
  Q (.bl (if neg then !inS d zs else inS d zs)) H
theorem op_inS (hu : X.A.units + 65 < cLine) : OpR X (compareOp .In) (rInS X.K false) := by
  intro pins s σ H x y v u Q I rx ry h
  obtain ⟨d, zs, p, rfl, hd, ld, hz, oz, q⟩ := h
  obtain ⟨as, r1⟩ := Dp.reads I d x v hd rx
  obtain ⟨bs, r2⟩ := Dp.reads I (.tuple (zs.map PyData.str)) (.ref p) u (.tup hz (dp_strs zs)) ry
  refine SeqAt.in_tuple_reads r2 r1 (lay_strs zs oz) ld ?_ ⟨.bl _, H, I, rfl, ?_⟩
  · rw [depth_strs]
    have := Nat.min_le_left 0 d.depth
    omega
  · rw [any_strs]; exact q
theorem op_notInS (hu : X.A.units + 65 < cLine) : OpR X (compareOp .NotIn) (rInS X.K true) := by
  intro pins s σ H x y v u Q I rx ry h
  obtain ⟨d, zs, p, rfl, hd, ld, hz, oz, q⟩ := h
  obtain ⟨as, r1⟩ := Dp.reads I d x v hd rx
  obtain ⟨bs, r2⟩ := Dp.reads I (.tuple (zs.map PyData.str)) (.ref p) u (.tup hz (dp_strs zs)) ry
  refine SeqAt.notIn_tuple_reads r2 r1 (lay_strs zs oz) ld ?_ ⟨.bl _, H, I, rfl, ?_⟩
  · rw [depth_strs]
    have := Nat.min_le_left 0 d.depth
    omega
  · rw [any_strs]; exact q
end
section
variable {X : Cx}
theorem pe_gref {x : Str} {a : Addr} {pos : Pos} (hg : Gl X x) (hm : X.mg x = some (.ref a)) (hd : (x == ("__debug__" : Str)) = false := by decide) : PE X (.Name x pos) (tC (.ref a)) := pe_glob hg hm rfl hd
theorem pe_gint {x : Str} {i : Int} {t : Tok} {pos : Pos} (hg : Gl X x) (hm : X.mg x = some (.int i t)) (hd : (x == ("__debug__" : Str)) = false := by decide) : PE X (.Name x pos) (tC (.int i)) := pe_glob hg hm ⟨t, rfl⟩ hd
end
/-- the name of the type -/
def tyN : PyData → String
  | .none => "NoneType"
  | .bool _ => "bool"
  | .int _ => "int"
  | .str _ => "str"
  | .list _ => "list"
  | .tuple _ => "tuple"
  | .dict _ => "dict"
theorem dp_ty {K : PySem.W.Frag} {H : Hp} {v : V} {d : PyData} (h : Dp K H v d) : TyX K H v (.type (tyN d)) := by
  cases h with
  | non => exact .base .non
  | bl b => exact .base (.bl b)
  | int i => exact .base (.int i)
  | str x => exact .base (.str x)
  | lst hs _ =>
    rcases hs with (h | ⟨o, h⟩) | ⟨o, its, n, hk, hc, _⟩
    · exact .base (.lst h)
    · exact .base (.frz h)
    · exact .kList hk hc
  | tup hs _ =>
    rcases hs with (h | ⟨o, h⟩) | ⟨o, its, n, hk, hc, _⟩
    · exact .base (.tup h)
    · exact .fTuple h
    · exact .kTuple hk hc
def isT (d : PyData) (T : String) : Bool := match d with
  | .bool _ => T == "bool" || T == "int"
  | _ => tyN d == T
theorem kit_isT {K : PySem.W.Frag} (d : PyData) {T : String} (h : T = "int" ∨ T = "bool" ∨ T = "str" ∨ T = "tuple" ∨ T = "list") (nd : ∀ k, d ≠ .dict k) : PySem.W.kitOne K (.type (tyN d)) (.type T) = some (isT d T) := by
  refine kit_ty ?_
  rcases h with rfl | rfl | rfl | rfl | rfl <;> cases d <;> first | (exact absurd rfl (nd _)) | (simp only [tyN, isT]; decide +kernel)

/-! ### what the module's names hold -/
structure Gs (K : PySem.W.Frag) (mg : Str → Option Value) where
  isi : mg "isinstance" = none
  int : mg "int" = none
  bool : mg "bool" = none
  str : mg "str" = none
  tup : mg "tuple" = none
  len : mg "len" = none
  zip : mg "zip" = none
  all : mg "all" = none
  aV : Addr
  mV : mg "VARIABLES" = some (.ref aV)
  kV : ∀ H, SqT K H aV (vars.map V.str)
  aC : Addr
  mC : mg "CONDITION_SIGNS" = some (.ref aC)
  kC : ∀ H, SqT K H aC (signs.map V.str)
  aA : Addr
  mA : mg "ASK_SIGNS" = some (.ref aA)
  kA : ∀ H, SqT K H aA (asks.map V.str)
  aK : Addr
  mK : mg "KINDS" = some (.ref aK)
  kK : ∀ H, SqT K H aK (kinds.map V.str)
  tG : Tok
  mG : mg "GREATEST_VALUE" = some (.int 15 tG)
  tL : Tok
  mL : mg "LONGEST_WAIT" = some (.int longest tL)
  tS : Tok
  mS : mg "MOST_STATEMENTS" = some (.int 24 tS)
  tD : Tok
  mD : mg "MOST_DEPTH" = some (.int 4 tD)

/-! ### promises -/
abbrev Lay (d : PyData) : Prop := d.canLay0 = true
def spInt (K : PySem.W.Frag) : Sp := fun vs H Q _ => ∃ (v : V) (d : PyData) (lo hi : Int), vs = [v, .int lo, .int hi] ∧ Dp K H v d ∧ Q (.bl (intIn d lo hi)) H
def spFrom (K : PySem.W.Frag) : Sp := fun vs H Q _ => ∃ (v : V) (d : PyData) (lo : Int), vs = [v, .int lo] ∧ Dp K H v d ∧ Q (.bl (intFrom d lo)) H
def sp1 (f : PyData → Bool) (K : PySem.W.Frag) : Sp := fun vs H Q _ => ∃ (v : V) (d : PyData), vs = [v] ∧ Dp K H v d ∧ Lay d ∧ Q (.bl (f d)) H
theorem dp_nd {K : PySem.W.Frag} {H : Hp} {v : V} {d : PyData} (h : Dp K H v d) : ∀ k, d ≠ .dict k := by
  intro k e
  subst e
  cases h
section
variable {P : Program} {w : World} {K : PySem.W.Frag} {mg : Str → Option Value} {base : Heap}
theorem scFrom : FnScope ["thing", "least"] ["thing", "least"] (defScope sFrom) := ⟨rfl, rfl, rfl, by decide +kernel, rfl, by decide +kernel, by decide +kernel⟩
theorem ok_from {f : Addr} {fd : FuncData} (F : Fun K "is_integer_from" "is_integer_from" sFrom f fd) (T : Gs K mg) : FnOk P w K mg base CX0 1 f fd ["thing", "least"] (spFrom K) := by
  refine F.ok scFrom (fun vs H Q E h => ?_) (fun cdv A outer s H vs Q E hr h => ?_)
  · obtain ⟨v, d, lo, rfl, _⟩ := h
    rfl
  obtain ⟨v, d, lo, rfl, hd, q⟩ := h
  refine ⟨_, pss_one (ps_ret (pe_and (pe_callB call_isi (by rfl) T.isi (by decide +kernel) (pa_cons (pv 0) (pa_cons (pe_bltn (v := .ty "int") (by rfl) T.int (by decide +kernel) rfl) pa_nil)))
    (pe_and (pe_not (pe_callB call_isi (by rfl) T.isi (by decide +kernel) (pa_cons (pv 0) (pa_cons (pe_bltn (v := .ty "bool") (by rfl) T.bool (by decide +kernel) rfl) pa_nil))))
      (pe_one (pe_cmpR op_le (pv 1) (pv 0) (by rfl)))))), ?_⟩
  refine ⟨_, rfl, v, .ty "int", _, _, _, rfl, .ty _, dp_ty hd, kit_isT d (by simp) (dp_nd hd), _, rfl, ?_⟩
  cases hd with
  | int i =>
    refine ite2 (fun _ => ?_) (fun c => absurd (by rfl) c)
    refine ⟨_, rfl, _, .ty "bool", _, _, _, rfl, .ty _, dp_ty (.int i), kit_isT (.int i) (by simp) (fun _ e => nomatch e), _, rfl, _, rfl, ?_⟩
    refine ite2 (fun _ => ?_) (fun c => absurd (by rfl) c)
    exact ⟨_, rfl, _, rfl, _, _, rfl, rfl, q⟩
  | bl b =>
    refine ite2 (fun _ => ?_) (fun c => absurd (by rfl) c)
    refine ⟨_, rfl, _, .ty "bool", _, _, _, rfl, .ty _, dp_ty (.bl b), kit_isT (.bool b) (by simp) (fun _ e => nomatch e), _, rfl, _, rfl, ?_⟩
    exact ite2 (fun c => absurd (show false = true from c) (by decide)) (fun _ => q)
  | non => exact ite2 (fun c => absurd (show false = true from c) (by decide)) (fun _ => q)
  | str x => exact ite2 (fun c => absurd (show false = true from c) (by decide)) (fun _ => q)
  | lst _ _ => exact ite2 (fun c => absurd (show false = true from c) (by decide)) (fun _ => q)
  | tup _ _ => exact ite2 (fun c => absurd (show false = true from c) (by decide)) (fun _ => q)
structure Cal (P : Program) (w : World) (K : PySem.W.Frag) (mg : Str → Option Value) (base : Heap) (k : Nat) (x : Str) (ps : List Str) (sp : Sp) where
  f : Addr
  fd : FuncData
  G : FnOk P w K mg base CX0 k f fd ps sp
  b : Binds K fd ps []
  kp : PySem.W.keepIn K (.ref f) = true
  m : mg x = some (.ref f)
theorem scInt : FnScope ["thing", "least", "greatest"] ["thing", "least", "greatest"] (defScope sInt) := ⟨rfl, rfl, rfl, by decide +kernel, rfl, by decide +kernel, by decide +kernel⟩
theorem ok_int {f : Addr} {fd : FuncData} (F : Fun K "is_integer_from_to" "is_integer_from_to" sInt f fd) (CF : Cal P w K mg base 1 "is_integer_from" ["thing", "least"] (spFrom K)) : FnOk P w K mg base CX0 2 f fd ["thing", "least", "greatest"] (spInt K) := by
  refine F.ok scInt (fun vs H Q E h => ?_) (fun cdv A outer s H vs Q E hr h => ?_)
  · obtain ⟨v, d, lo, hi, rfl, _⟩ := h
    rfl
  obtain ⟨v, d, lo, hi, rfl, hd, q⟩ := h
  refine ⟨_, pss_one (ps_ret (pe_and (pe_call CF.G hr rfl CF.m CF.kp CF.b .nil pass0 (pa_cons (pv 0) (pa_cons (pv 1) pa_nil))) (pe_one (pe_cmpR op_le (pv 0) (pv 2) (by rfl))))), ?_⟩
  refine ⟨_, rfl, _, rfl, v, d, lo, rfl, hd, _, rfl, ?_⟩
  cases hd with
  | int i =>
    by_cases h1 : lo ≤ i
    · have e : intIn (.int i) lo hi = decide (i ≤ hi) := by simp [intIn, h1]
      rw [e] at q
      refine ite2 (fun _ => ⟨_, rfl, _, rfl, _, _, rfl, rfl, q⟩) (fun c => absurd (show decide (lo ≤ i) = true from decide_eq_true h1) c)
    · have e : intIn (.int i) lo hi = false := by simp [intIn, h1]
      rw [e] at q
      have e2 : intFrom (.int i) lo = false := decide_eq_false h1
      rw [e2]
      exact iteF q
  | bl b => exact ite2 (fun c => absurd (show false = true from c) (by decide)) (fun _ => q)
  | non => exact ite2 (fun c => absurd (show false = true from c) (by decide)) (fun _ => q)
  | str x => exact ite2 (fun c => absurd (show false = true from c) (by decide)) (fun _ => q)
  | lst _ _ => exact ite2 (fun c => absurd (show false = true from c) (by decide)) (fun _ => q)
  | tup _ _ => exact ite2 (fun c => absurd (show false = true from c) (by decide)) (fun _ => q)
end
theorem hu65 {k : Nat} {A : Around} (hr : Room k A) : A.units + 65 < cLine := by have := hr.un; omega
theorem dp_tup_inv {K : PySem.W.Frag} {H : Hp} {v : V} {ds : List PyData} (h : Dp K H v (.tuple ds)) : ∃ a xs, v = .ref a ∧ SqT K H a xs ∧ DpAll K H xs ds := by
  cases h with
  | tup hs ha => exact ⟨_, _, rfl, hs, ha⟩
theorem dpAll_len {K : PySem.W.Frag} {H : Hp} : ∀ {xs : List V} {ds : List PyData}, DpAll K H xs ds → xs.length = ds.length
  | _, _, .nil => rfl
  | _, _, .cons _ t => by rw [List.length_cons, List.length_cons, dpAll_len t]
theorem dpAll_get {K : PySem.W.Frag} {H : Hp} : ∀ {xs : List V} {ds : List PyData} {i : Nat} {x : V}, DpAll K H xs ds → xs[i]? = some x → ∃ d, ds[i]? = some d ∧ Dp K H x d
  | _, _, 0, _, .cons h _, e => by
    cases e
    exact ⟨_, rfl, h⟩
  | _, _, i + 1, _, .cons _ t, e => dpAll_get (i := i) t e
theorem lay_mem : ∀ {ds : List PyData}, PyData.canLayAll0 ds = true → ∀ d ∈ ds, Lay d
  | x :: r, h, d, m => by
    simp only [PyData.canLayAll0, Bool.and_eq_true] at h
    rcases List.mem_cons.mp m with e | m
    · rw [e]; exact h.1
    · exact lay_mem h.2 d m
theorem lay_tup {ds : List PyData} (h : Lay (.tuple ds)) : PyData.canLayAll0 ds = true := by
  unfold Lay at h
  simpa only [PyData.canLay0] using h
theorem isT_tup {d : PyData} (h : isT d "tuple" = true) : ∃ ds, d = .tuple ds := by
  cases d with
  | tuple ds => exact ⟨ds, rfl⟩
  | _ => simp [isT, tyN] at h
theorem isT_str {d : PyData} (h : isT d "str" = true) : ∃ z, d = .str z := by
  cases d with
  | str ds => exact ⟨ds, rfl⟩
  | _ => simp [isT, tyN] at h
theorem same_new {H : Hp} {p : Addr} (h : H p = none) (o : HO) : Same H (upd H p o) := fun b u q => by rw [upd_ne (ne_of_none q h)]; exact q
theorem Same.tup {K : PySem.W.Frag} {H H' : Hp} {a : Addr} {xs : List V} (e : Same H H') (h : SqT K H a xs) : SqT K H' a xs := by
  rcases h with (h | ⟨o, h⟩) | h
  · exact .inl (.inl (e _ _ h))
  · exact .inl (.inr ⟨o, e _ _ h⟩)
  · exact .inr h
mutual
theorem dp_mono {K : PySem.W.Frag} {H H' : Hp} (e : Same H H') : ∀ (d : PyData) (v : V), Dp K H v d → Dp K H' v d
  | .none, _, h => by cases h; exact .non
  | .bool b, _, h => by cases h; exact .bl b
  | .int i, _, h => by cases h; exact .int i
  | .str x, _, h => by cases h; exact .str x
  | .list ds, _, h => by
    cases h with
    | lst hs ha => exact .lst (e.seq hs) (dpAll_mono e ds _ ha)
  | .tuple ds, _, h => by
    cases h with
    | tup hs ha => exact .tup (Same.tup e hs) (dpAll_mono e ds _ ha)
  | .dict _, _, h => by cases h
theorem dpAll_mono {K : PySem.W.Frag} {H H' : Hp} (e : Same H H') : ∀ (ds : List PyData) (vs : List V), DpAll K H vs ds → DpAll K H' vs ds
  | [], _, h => by cases h; exact .nil
  | d :: ds, _, h => by
    cases h with
    | cons hd ht => exact .cons (dp_mono e d _ hd) (dpAll_mono e ds _ ht)
end
def wordOf : PyData → Option Str
  | .tuple (.str z :: _) => some z
  | _ => none
def wV : Option Str → V
  | some z => .str z
  | none => .non
def spPart (K : PySem.W.Frag) : Sp := fun vs H Q _ => ∃ (v : V) (d : PyData) (r : Str), vs = [v, .str r] ∧ Dp K H v d ∧ Lay d ∧ Q (.bl (isPart d r)) H
def spWord (K : PySem.W.Frag) : Sp := fun vs H Q _ => ∃ (v : V) (d : PyData), vs = [v] ∧ Dp K H v d ∧ Q (wV (wordOf d)) H
section
variable {P : Program} {w : World} {K : PySem.W.Frag} {mg : Str → Option Value} {base : Heap}
theorem scTerm : FnScope ["thing"] ["thing"] (defScope sTerm) := ⟨rfl, rfl, rfl, by decide +kernel, rfl, by decide +kernel, by decide +kernel⟩
theorem ok_term {f : Addr} {fd : FuncData} (F : Fun K "is_term" "is_term" sTerm f fd) (T : Gs K mg) (CI : Cal P w K mg base 2 "is_integer_from_to" ["thing", "least", "greatest"] (spInt K)) :
    FnOk P w K mg base CX0 3 f fd ["thing"] (sp1 isTerm K) := by
  refine F.ok scTerm (fun vs H Q E h => ?_) (fun cdv A outer s H vs Q E hr h => ?_)
  · obtain ⟨v, d, rfl, _⟩ := h
    rfl
  obtain ⟨v, d, rfl, hd, ld, q⟩ := h
  refine ⟨_, pss_one (ps_ret (pe_or (pe_cmpR (op_inS (hu65 hr)) (pv 0) (pe_gref rfl T.mV) (by rfl)) (pe_one (pe_call CI.G hr rfl CI.m CI.kp CI.b .nil pass0 (pa_cons (pv 0) (pa_cons pe_int (pa_cons (pe_gint rfl T.mG) pa_nil))))))), ?_⟩
  refine ⟨_, rfl, d, vars, T.aV, rfl, hd, ld, T.kV _, by decide +kernel, _, rfl, ?_⟩
  refine ite2 (fun c => ?_) (fun c => ?_)
  · have e : isTerm d = true := by unfold isTerm; rw [show inS d vars = true from c]; rfl
    rw [e] at q
    exact q
  · refine ⟨_, rfl, v, d, 0, 15, rfl, hd, ?_⟩
    have e : isTerm d = intIn d 0 15 := by unfold isTerm; rw [show inS d vars = false from Bool.eq_false_iff.mpr c]; rfl
    rw [e] at q
    exact q
theorem scCond : FnScope ["thing", "variable", "sign", "term"] ["thing"] (defScope sCond) := ⟨rfl, rfl, rfl, by decide +kernel, rfl, by decide +kernel, by decide +kernel⟩
theorem ok_cond {f : Addr} {fd : FuncData} (F : Fun K "is_condition" "is_condition" sCond f fd) (T : Gs K mg) (CT : Cal P w K mg base 3 "is_term" ["thing"] (sp1 isTerm K)) :
    FnOk P w K mg base CX0 4 f fd ["thing"] (sp1 isCond K) := by
  refine F.ok scCond (fun vs H Q E h => ?_) (fun cdv A outer s H vs Q E hr h => ?_)
  · obtain ⟨v, d, rfl, _⟩ := h
    rfl
  obtain ⟨v, d, rfl, hd, ld, q⟩ := h
  refine ⟨_, pss_cons (ps_if (PW.pt (pw_or (pt_not (pt_val (pe_callB call_isi (by rfl) T.isi (by decide +kernel) (pa_cons (pv 0) (pa_cons (pe_bltn (v := .ty "tuple") (by rfl) T.tup (by decide +kernel) rfl) pa_nil)))))
      (pw_or1 (pt_cmpR op_ne (pe_callB call_len_seq (by rfl) T.len PySem.boot_len (pa_cons (pv 0) pa_nil)) pe_int (nomark _))))) (pss_one (ps_ret pe_bl)) pss_nil)
    (pss_cons (ps_asg (pv 0) (pg_tup (by rfl) (pgs_cons (pg_name (i := 1) scCond.nd rfl (.inl rfl)) (pgs_cons (pg_name (i := 2) scCond.nd rfl (.inl rfl)) (pgs_cons (pg_name (i := 3) scCond.nd rfl (.inl rfl)) pgs_nil)))))
    (pss_one (ps_ret (pe_and (pe_cmpR (op_inS (hu65 hr)) (pv 1) (pe_gref rfl T.mV) (by rfl)) (pe_and (pe_cmpR (op_inS (hu65 hr)) (pv 2) (pe_gref rfl T.mC) (by rfl))
      (pe_one (pe_call CT.G hr rfl CT.m CT.kp CT.b .nil pass0 (pa_cons (pv 3) pa_nil)))))))), ?_⟩
  refine ⟨_, rfl, v, .ty "tuple", _, _, _, rfl, .ty _, dp_ty hd, kit_isT d (by simp) (dp_nd hd), _, rfl, ?_⟩
  cases ht : isT d "tuple" with
  | false =>
    refine iteT (iteT ?_)
    have e : isCond d = false := by cases d <;> first | rfl | (simp [isT, tyN] at ht)
    rw [e] at q
    exact q
  | true =>
    obtain ⟨ds, rfl⟩ := isT_tup ht
    obtain ⟨a, xs, rfl, hs, ha⟩ := dp_tup_inv hd
    have hl := dpAll_len ha
    refine iteF ⟨_, rfl, a, xs, rfl, .inr hs, rfl, _, rfl, ?_⟩
    by_cases h3 : ds.length = 3
    · have c : V.int ((xs.length : Nat) : Int) = V.int 3 := by rw [hl, h3]; rfl
      refine iteNS c ?_
      cases ha with
      | nil => cases h3
      | cons h0 t1 =>
        cases t1 with
        | nil => cases h3
        | cons h1 t2 =>
          cases t2 with
          | nil => cases h3
          | cons h2 t3 =>
            cases t3 with
            | cons _ _ => simp at h3
            | nil =>
              rename_i x0 d0 x1 d1 x2 d2
              have lm := lay_mem (lay_tup ld)
              refine ⟨_, rfl, a, _, rfl, hs, rfl, _, _, rfl, _, _, rfl, _, _, rfl, rfl, ?_⟩
              refine ⟨_, rfl, d0, vars, T.aV, rfl, h0, lm _ (by simp), T.kV _, by decide +kernel, _, rfl, ?_⟩
              have e : isCond (.tuple [d0, d1, d2]) = (inS d0 vars && inS d1 signs && isTerm d2) := rfl
              rw [e] at q
              cases c1 : inS d0 vars with
              | false => rw [c1] at q; exact iteF q
              | true =>
                refine iteT ⟨_, rfl, d1, signs, T.aC, rfl, h1, lm _ (by simp), T.kC _, by decide +kernel, _, rfl, ?_⟩
                cases c2 : inS d1 signs with
                | false => rw [c1, c2] at q; exact iteF q
                | true =>
                  rw [c1, c2] at q
                  exact iteT ⟨_, rfl, _, d2, rfl, h2, lm _ (by simp), q⟩
    · refine ite2 (fun _ => ?_) (fun c => absurd ?_ c)
      · have e : isCond (.tuple ds) = false := by
          match ds, h3 with
          | [], _ => rfl
          | [_], _ => rfl
          | [_, _], _ => rfl
          | [_, _, _], h => exact absurd rfl h
          | _ :: _ :: _ :: _ :: _, _ => rfl
        rw [e] at q
        exact q
      · rw [Bool.not_eq_true', decide_eq_false_iff_not]
        intro z
        have z' : ((xs.length : Nat) : Int) = 3 := by injection z
        omega
end
section
variable {P : Program} {w : World} {K : PySem.W.Frag} {mg : Str → Option Value} {base : Heap}
theorem scPart : FnScope ["thing", "role"] ["thing", "role"] (defScope sPart) := ⟨rfl, rfl, rfl, by decide +kernel, rfl, by decide +kernel, by decide +kernel⟩
theorem ok_part {f : Addr} {fd : FuncData} (F : Fun K "is_part" "is_part" sPart f fd) (T : Gs K mg) (CI : Cal P w K mg base 2 "is_integer_from_to" ["thing", "least", "greatest"] (spInt K)) (CT : Cal P w K mg base 3 "is_term" ["thing"] (sp1 isTerm K)) :
    FnOk P w K mg base CX0 4 f fd ["thing", "role"] (spPart K) := by
  refine F.ok scPart (fun vs H Q E h => ?_) (fun cdv A outer s H vs Q E hr h => ?_)
  · obtain ⟨v, d, r, rfl, _⟩ := h
    rfl
  obtain ⟨v, d, r, rfl, hd, ld, q⟩ := h
  have hr1 : Room 2 _ := hr.mono (by decide)
  refine ⟨_, pss_cons (ps_if (pt_cmpR op_eq (pv 1) pe_str (nomark _)) (pss_one (ps_ret (pe_cmpR (op_inS (hu65 hr)) (pv 0) (pe_gref rfl T.mV) (by rfl)))) pss_nil)
    (pss_cons (ps_if (pt_cmpR op_eq (pv 1) pe_str (nomark _)) (pss_one (ps_ret (pe_call CT.G hr rfl CT.m CT.kp CT.b .nil pass0 (pa_cons (pv 0) pa_nil)))) pss_nil)
    (pss_cons (ps_if (pt_cmpR op_eq (pv 1) pe_str (nomark _)) (pss_one (ps_ret (pe_cmpR (op_inS (hu65 hr)) (pv 0) (pe_gref rfl T.mA) (by rfl)))) pss_nil)
    (pss_cons (ps_if (pt_cmpR op_eq (pv 1) pe_str (nomark _)) (pss_one (ps_ret (pe_call CI.G hr1 rfl CI.m CI.kp CI.b .nil pass0 (pa_cons (pv 0) (pa_cons pe_int (pa_cons (pe_gint rfl T.mL) pa_nil)))))) pss_nil)
    (pss_cons (ps_if (pt_cmpR op_eq (pv 1) pe_str (nomark _)) (pss_one (ps_ret (pe_call CI.G hr1 rfl CI.m CI.kp CI.b .nil pass0 (pa_cons (pv 0) (pa_cons pe_int (pa_cons pe_int pa_nil)))))) pss_nil)
    (pss_one (ps_ret (pe_call CI.G hr1 rfl CI.m CI.kp CI.b .nil pass0 (pa_cons (pv 0) (pa_cons pe_int (pa_cons (pe_gint rfl T.mG) pa_nil)))))))))), ?_⟩
  have ne : ∀ {z : Str}, ¬ decide (V.str r = V.str z) = true → ¬ r = z := fun c e => c (decide_eq_true (by rw [e]))
  have eq : ∀ {z : Str}, decide (V.str r = V.str z) = true → r = z := fun c => by
    have c' := of_decide_eq_true c
    injection c'
  unfold isPart at q
  refine ⟨_, rfl, rfl, _, rfl, ite2 (fun c => ?_) (fun c => ?_)⟩
  · rw [if_pos (eq c)] at q
    exact ⟨_, rfl, d, vars, T.aV, rfl, hd, ld, T.kV _, by decide +kernel, q⟩
  rw [if_neg (ne c)] at q
  refine ⟨_, rfl, rfl, _, rfl, ite2 (fun c => ?_) (fun c => ?_)⟩
  · rw [if_pos (eq c)] at q
    exact ⟨_, rfl, v, d, rfl, hd, ld, q⟩
  rw [if_neg (ne c)] at q
  refine ⟨_, rfl, rfl, _, rfl, ite2 (fun c => ?_) (fun c => ?_)⟩
  · rw [if_pos (eq c)] at q
    exact ⟨_, rfl, d, asks, T.aA, rfl, hd, ld, T.kA _, by decide +kernel, q⟩
  rw [if_neg (ne c)] at q
  refine ⟨_, rfl, rfl, _, rfl, ite2 (fun c => ?_) (fun c => ?_)⟩
  · rw [if_pos (eq c)] at q
    exact ⟨_, rfl, v, d, _, _, rfl, hd, q⟩
  rw [if_neg (ne c)] at q
  refine ⟨_, rfl, rfl, _, rfl, ite2 (fun c => ?_) (fun c => ?_)⟩
  · rw [if_pos (eq c)] at q
    exact ⟨_, rfl, v, d, _, _, rfl, hd, q⟩
  rw [if_neg (ne c)] at q
  exact ⟨_, rfl, v, d, _, _, rfl, hd, q⟩
theorem scWord : FnScope ["thing"] ["thing"] (defScope sWord) := ⟨rfl, rfl, rfl, by decide +kernel, rfl, by decide +kernel, by decide +kernel⟩
theorem ok_word {f : Addr} {fd : FuncData} (F : Fun K "word_of" "word_of" sWord f fd) (T : Gs K mg) : FnOk P w K mg base CX0 1 f fd ["thing"] (spWord K) := by
  refine F.ok scWord (fun vs H Q E h => ?_) (fun cdv A outer s H vs Q E hr h => ?_)
  · obtain ⟨v, d, rfl, _⟩ := h
    rfl
  obtain ⟨v, d, rfl, hd, q⟩ := h
  refine ⟨_, pss_cons (ps_if (PW.pt (pw_and (pt_val (pe_callB call_isi (by rfl) T.isi (by decide +kernel) (pa_cons (pv 0) (pa_cons (pe_bltn (v := .ty "tuple") (by rfl) T.tup (by decide +kernel) rfl) pa_nil))))
      (pw_and (pt_cmpR op_gt (pe_callB call_len_seq (by rfl) T.len PySem.boot_len (pa_cons (pv 0) pa_nil)) pe_int (nomark _))
      (pw_and1 (pt_val (pe_callB call_isi (by rfl) T.isi (by decide +kernel) (pa_cons (pe_ix ix_tup (pv 0) pe_int (fun _ _ => rfl)) (pa_cons (pe_bltn (v := .ty "str") (by rfl) T.str (by decide +kernel) rfl) pa_nil))))))))
      (pss_one (ps_ret (pe_ix ix_tup (pv 0) pe_int (fun _ _ => rfl)))) pss_nil) (pss_one (ps_ret pe_non)), ?_⟩
  refine ⟨_, rfl, v, .ty "tuple", _, _, _, rfl, .ty _, dp_ty hd, kit_isT d (by simp) (dp_nd hd), _, rfl, ?_⟩
  cases ht : isT d "tuple" with
  | false =>
    refine iteF (iteF ?_)
    have e : wordOf d = none := by cases d <;> first | rfl | (simp [isT, tyN] at ht)
    rw [e] at q
    exact q
  | true =>
    obtain ⟨ds, rfl⟩ := isT_tup ht
    obtain ⟨a, xs, rfl, hs, ha⟩ := dp_tup_inv hd
    refine iteT ⟨_, rfl, a, xs, rfl, .inr hs, _, _, rfl, rfl, _, rfl, ?_⟩
    cases ha with
    | nil => exact iteF (iteF q)
    | cons h0 t =>
      rename_i x0 xr d0 dr
      have c : decide ((0 : Int) < (((x0 :: xr).length : Nat) : Int)) = true := decide_eq_true (by rw [List.length_cons]; omega)
      rw [c]
      refine iteT ⟨_, rfl, a, _, _, _, rfl, rfl, hs, atI_nat (j := 0) rfl, x0, .ty "str", _, _, _, rfl, .ty _, dp_ty h0, kit_isT d0 (by simp) (dp_nd h0), _, rfl, ?_⟩
      cases hz : isT d0 "str" with
      | false =>
        refine iteF ?_
        have e : wordOf (.tuple (d0 :: dr)) = none := by cases d0 <;> first | rfl | (simp [isT, tyN] at hz)
        rw [e] at q
        exact q
      | true =>
        obtain ⟨z, rfl⟩ := isT_str hz
        cases h0
        exact iteT ⟨_, rfl, a, _, _, _, rfl, rfl, hs, atI_nat (j := 0) rfl, q⟩
end
end My

namespace My
open PySem L2 PyProof.Rows
/-! ### a written dict with text keys, asked by a text or by None -/
inductive Ents : List DictEntry → List (Str × V) → Prop
  | nil : Ents [] []
  | cons {h : Int} {x : Str} {t : Tok} {u : Value} {v : V} {r : List DictEntry} {rs : List (Str × V)} : RelV v u → Ents r rs → Ents (⟨h, .str x t, u⟩ :: r) ((x, v) :: rs)
def lookT (tab : List (Str × V)) (z : Str) : Option V := (tab.find? fun p => p.1 == z).map (·.2)
theorem ents_find : ∀ {l : List DictEntry} {tab : List (Str × V)}, Ents l tab → ∀ z : Str,
    (∃ (e : DictEntry) (v : V), l.find? (fun d => d.key.isStr z) = some e ∧ lookT tab z = some v ∧ RelV v e.val) ∨ (l.find? (fun d => d.key.isStr z) = none ∧ lookT tab z = none)
  | _, _, .nil, z => .inr ⟨rfl, rfl⟩
  | _, _, .cons (x := x) (h := h) (t := t) (u := u) (v := v) (r := l0) (rs := rs) rv r, z => by
    have ih := ents_find r z
    by_cases c : (x == z) = true
    · refine .inl ⟨⟨h, .str x t, u⟩, v, ?_, ?_, rv⟩
      · rw [List.find?_cons_of_pos]
        exact c
      · unfold lookT
        rw [List.find?_cons_of_pos (by exact c)]
        rfl
    · have c1 : List.find? (fun d : DictEntry => d.key.isStr z) (⟨h, .str x t, u⟩ :: l0) = l0.find? (fun d : DictEntry => d.key.isStr z) := List.find?_cons_of_neg (by exact c)
      have c2 : lookT ((x, v) :: rs) z = lookT rs z := by
        unfold lookT
        rw [List.find?_cons_of_neg (by exact c)]
      rw [c2]
      rcases ih with ⟨e, v', h1, h2, h3⟩ | ⟨h1, h2⟩
      · exact .inl ⟨e, v', c1.trans h1, h2, h3⟩
      · exact .inr ⟨c1.trans h1, h2⟩
structure KTab (K : PySem.W.Frag) (w : World) (d : Addr) (tab : List (Str × V)) : Prop where
  ex : ∃ es n, K.lookup d = some ⟨.type "dict", none, .dict es n, #[]⟩ ∧ PySem.W.KeysLit w.params es.toList ∧ Ents es.toList tab
  low : (d == sysModules) = false
theorem findBy_tab {es : Array DictEntry} {tab : List (Str × V)} (E : Ents es.toList tab) (z : Str) :
    (∃ u v, findBy Value.isStrOf es z = some u ∧ lookT tab z = some v ∧ RelV v u) ∨ (findBy Value.isStrOf es z = none ∧ lookT tab z = none) := by
  obtain ⟨l⟩ := es
  have q : (fun d : DictEntry => Value.isStrOf z d.key) = fun d => d.key.isStr z := funext fun d => (PySem.W.isStr_of z d.key).symm
  unfold findBy
  rw [List.find?_toArray, q]
  rcases ents_find E z with ⟨e, v, h1, h2, h3⟩ | ⟨h1, h2⟩
  · exact .inl ⟨e.val, v, by rw [show List.find? (fun d : DictEntry => d.key.isStr z) l = some e from h1]; rfl, h2, h3⟩
  · exact .inr ⟨by rw [show List.find? (fun d : DictEntry => d.key.isStr z) l = none from h1]; rfl, h2⟩
theorem none_mapK {P : Program} {w : World} {K : PySem.W.Frag} {h : Heap} {a : Addr} {es : Array DictEntry} {n : Nat} (X : K.In h) (hl : K.lookup a = some ⟨.type "dict", none, .dict es n, #[]⟩) (hk : PySem.W.KeysLit w.params es.toList) :
    ∃ f, h.MapOf (noneKind P w) a f ∧ f none = none := by
  refine ⟨fun k => findBy (noneKind P w).is es k, ⟨_, es, n, X _ _ hl, ⟨rfl, rfl, rfl⟩, rfl, fun e he => ?_, fun k => rfl⟩, ?_⟩
  · obtain ⟨x, t, e1, e2⟩ := hk.all e (Array.mem_toList_iff.mpr he)
    refine ⟨some (.inr x), ?_, e2⟩
    rw [e1]
    exact strKind_is P w x t
  · have q : (es.find? fun e => nkIs none e.key) = none := by
      rw [Array.find?_eq_none]
      intro e he hq
      obtain ⟨x, t, e1, _⟩ := hk.all e (Array.mem_toList_iff.mpr he)
      rw [e1] at hq
      exact nomatch (show false = true from hq)
    show (es.find? fun e => nkIs none e.key).map (·.val) = none
    rw [q] <;> rfl
def getT (tab : List (Str × V)) (wd : Option Str) : Option V := wd.bind (lookT tab)
section
variable {X : Cx}
def rInK (K : PySem.W.Frag) (w : World) (neg : Bool) : R2 := fun x y H Q => ∃ (d : Addr) (tab : List (Str × V)) (wd : Option Str), y = .ref d ∧ KTab K w d tab ∧ x = wV wd ∧ Q (.bl (if neg then !(getT tab wd).isSome else (getT tab wd).isSome)) H
theorem op_inK : OpR X (compareOp .In) (rInK X.K X.w false) := by
  intro pins s σ H x y v u Q I rx ry h
  obtain ⟨d, tab, wd, rfl, ⟨⟨es, n, hl, hk, he⟩, low⟩, rfl, q⟩ := h
  cases ry
  cases wd with
  | none =>
    cases rx
    obtain ⟨f, hm, hf⟩ := none_mapK (P := X.prog) (w := X.w) I.kIn hl hk
    refine wpAny_in_of (show (noneKind X.prog X.w).is none .none = true from rfl) low hm ?_
    rw [hf]
    exact ⟨.bl _, H, I.tok _, rfl, q⟩
  | some z =>
    obtain ⟨t, rfl⟩ := rx
    refine wpAny_in_of (PySem.strKind_is X.prog X.w z t) low (PySem.W.mapOf_K (prog := X.prog) I.kIn hl hk) ?_
    rcases findBy_tab he z with ⟨u, v, h1, h2, h3⟩ | ⟨h1, h2⟩
    · rw [h1]
      refine ⟨.bl true, H, I.tok _, rfl, ?_⟩
      have e : (getT tab (some z)).isSome = true := by show (lookT tab z).isSome = true; rw [h2]; rfl
      rw [e] at q
      exact q
    · rw [h1]
      refine ⟨.bl false, H, I.tok _, rfl, ?_⟩
      have e : (getT tab (some z)).isSome = false := by show (lookT tab z).isSome = false; rw [h2]; rfl
      rw [e] at q
      exact q
theorem ktab_ix {K : PySem.W.Frag} {w : World} {d : Addr} {tab : List (Str × V)} {z : Str} {v : V} (T : KTab K w d tab) (h : lookT tab z = some v) : KDct K w d z v := by
  obtain ⟨⟨es, n, hl, hk, he⟩, low⟩ := T
  rcases ents_find he z with ⟨e, v', h1, h2, h3⟩ | ⟨h1, h2⟩
  · rw [h] at h2
    cases h2
    refine ⟨es, n, e.val, hl, hk, ?_, h3⟩
    unfold PySem.W.nsIn
    rw [hl]
    dsimp only
    rw [h1]
  · rw [h] at h2
    cases h2
def tGetK (K : PySem.W.Frag) (w : World) (to : TE) (t : TA) : TE := fun σ H Q => to σ H fun x H1 => ∃ (d : Addr) (tab : List (Str × V)), x = .ref d ∧ KTab K w d tab ∧ t σ H1 fun ys H2 => ∃ wd : Option Str, ys = [wV wd] ∧ Q ((getT tab wd).getD .non) H2
variable {o e : Expr} {es : List Expr} {to : TE} {t : TA} {apos cpos : Pos}
theorem pe_getK (ho : PE X o to) (ha : PA X [e] t)
    (hbase : attributeBase o "get" X.env (eval o X.env) = eval o X.env := by rfl)
    (hfew : ((backTo cpos (starEach [e] X.env)).all (fun x => !x.1) && (backToKw cpos (keywordEach [] X.env)).all (fun x => x.1.isSome)
      && decide ([e].length + ([] : List Keyword).length + (if ([] : List Keyword).isEmpty then 0 else 1) < 30)) = true := by rfl)
    (hline : (apos.endLine == cpos.line) = true := by rfl) (hs : starEach [e] X.env = (false, eval e X.env) :: starEach [] X.env := by rfl) (hplain : (backTo cpos (starEach [] X.env)).any (·.1) = false := by rfl) :
    PE X (.Call (.Attribute o "get" apos) [e] [] cpos) (tGetK X.K X.w to t) := by
  refine ⟨fun pins s σ H Q I h => ?_⟩
  refine wpAny_Call_method_late hbase hfew hline rfl (thn (ho.run pins s σ H _ I h) fun v s1 ⟨x, H1, I1, r1, d, tab, ex, KT, q1⟩ => ?_)
  obtain ⟨⟨es, n, hl, hk, he⟩, low⟩ := KT
  subst ex
  obtain rfl : v = Value.ref d := r1
  have hm0 := PySem.W.mapOf_K (prog := X.prog) (w := X.w) I1.kIn hl hk
  refine ⟨"dict", "dict.get", PySem.F.plainAttrs_dict, PySem.F.slot_dict_get, PySem.F.type_dict_get, hm0.typeIs, fun a e2 => ?_, ?_⟩
  · cases e2
    exact ⟨_, I1.kIn _ _ hl, rfl⟩
  have hA := ha.run cpos pins s1 σ H1 _ I1 q1
  rw [hs] at hA ⊢
  refine Calls.callWith_builtin (by show (false || (backTo cpos (starEach [] X.env)).any (·.1)) = false; rw [hplain] <;> rfl) (Calls.evalArgs_plain ?_)
  refine thn hA fun us s2 ⟨vs, H2, I2, r2, wd, ev, q2⟩ => ?_
  subst ev
  obtain ⟨u, rfl, ru⟩ := Vals.one r2
  have hm := PySem.W.mapOf_K (prog := X.prog) (w := X.w) I2.kIn hl hk
  cases wd with
  | none =>
    cases ru
    obtain ⟨f, hmn, hf⟩ := none_mapK (P := X.prog) (w := X.w) I2.kIn hl hk
    refine call_meetsIn PySem.F.slot_dict_get hm.typeIs PySem.F.entry_dict_get (PySem.F.args_dict_get_2 _ _) (meets_dict_get (noneKind X.prog X.w) d (show (noneKind X.prog X.w).is none .none = true from rfl) low) ⟨f, hmn, ?_⟩
    rw [hf]
    exact ⟨.non, H2, I2.tok _, rfl, q2⟩
  | some z =>
    obtain ⟨t, rfl⟩ := ru
    refine call_meetsIn PySem.F.slot_dict_get hm.typeIs PySem.F.entry_dict_get (PySem.F.args_dict_get_2 _ _) (meets_dict_get (strKind X.prog X.w) d (PySem.strKind_is X.prog X.w z t) low) ⟨_, hm, ?_⟩
    rcases findBy_tab he z with ⟨u, v, h1, h2, h3⟩ | ⟨h1, h2⟩
    · rw [h1]
      have e : getT tab (some z) = some v := h2
      rw [e] at q2
      exact ⟨v, H2, I2.tok _, h3, q2⟩
    · rw [h1]
      have e : getT tab (some z) = none := h2
      rw [e] at q2
      exact ⟨.non, H2, I2.tok _, rfl, q2⟩
end
theorem lookT_eq {x : Str} {v : V} {r : List (Str × V)} : lookT ((x, v) :: r) x = some v := by
  unfold lookT
  rw [List.find?_cons_of_pos (by exact beq_self_eq_true x)]
  rfl
theorem lookT_ne {x z : Str} {v : V} {r : List (Str × V)} (h : ¬ z = x) : lookT ((x, v) :: r) z = lookT r z := by
  unfold lookT
  rw [List.find?_cons_of_neg (by intro c; exact h (eq_of_beq (show (x == z) = true from c)).symm)]
structure Gd (K : PySem.W.Frag) (w : World) (mg : Str → Option Value) where
  aB : Addr
  mB : mg "BODIES" = some (.ref aB)
  tB : KTab K w aB [("if", .int 2), ("while", .int 1)]
  aS : Addr
  r1 : Addr
  r2 : Addr
  r3 : Addr
  mS : mg "SHARED_ROLES" = some (.ref aS)
  tS : KTab K w aS [("set", .ref r1), ("add", .ref r2), ("wait", .ref r3)]
  k1 : ∀ H, SqT K H r1 ((["variable", "value"] : List Str).map V.str)
  k2 : ∀ H, SqT K H r2 ((["variable", "term"] : List Str).map V.str)
  k3 : ∀ H, SqT K H r3 ((["steps"] : List Str).map V.str)
  aT : Addr
  r4 : Addr
  r5 : Addr
  mT : mg "TELLER_ROLES" = some (.ref aT)
  tT : KTab K w aT [("ask", .ref r4), ("answer", .ref r5)]
  k4 : ∀ H, SqT K H r4 ((["sign", "term", "variable"] : List Str).map V.str)
  k5 : ∀ H, SqT K H r5 ((["answer"] : List Str).map V.str)
  aC : Addr
  r6 : Addr
  r7 : Addr
  mC : mg "COLLECTOR_ROLES" = some (.ref aC)
  tC : KTab K w aC [("grow", .ref r6), ("list", .ref r7)]
  k6 : ∀ H, SqT K H r6 ((["term"] : List Str).map V.str)
  k7 : ∀ H, SqT K H r7 ((["term"] : List Str).map V.str)
def rolesZ (z kind : Str) : Option (List Str) :=
  if z = "set" then some ["variable", "value"] else if z = "add" then some ["variable", "term"] else if z = "wait" then some ["steps"]
  else if kind = "teller" then (if z = "ask" then some ["sign", "term", "variable"] else if z = "answer" then some ["answer"] else none)
  else (if z = "grow" then some ["term"] else if z = "list" then some ["term"] else none)
def rolesOf (wd : Option Str) (kind : Str) : Option (List Str) := wd.bind fun z => rolesZ z kind
def allParts (ps : List PyData) (rs : List Str) : Bool := ((ps.zip rs).map fun p => isPart p.1 p.2).all id
def isPlain (d : PyData) (kind : Str) : Bool := match d with
  | .tuple (.str z :: ps) => (match rolesZ z kind with
    | some rs => decide (ps.length = rs.length) && allParts ps rs
    | none => false)
  | _ => false
def cond3 : List PyData → Bool
  | [c, _, _] => isCond c
  | _ => false
def cond2 : List PyData → Bool
  | [c, _] => isCond c
  | _ => false
/-- a statement, whatever its bodies are -/
def isOut (d : PyData) (kind : Str) : Bool := match d with
  | .tuple (.str z :: ps) => if z = "if" then cond3 ps else if z = "while" then cond2 ps else isPlain d kind
  | _ => false
def bodsOf (d : PyData) : List PyData := match d with
  | .tuple (.str z :: ps) => if z = "if" ∨ z = "while" then ps.drop 1 else []
  | _ => []
def spRoles (K : PySem.W.Frag) : Sp := fun vs H Q _ => ∃ (wd : Option Str) (kind : Str), vs = [wV wd, .str kind] ∧ (rolesOf wd kind = none → Q .non H) ∧
  (∀ rs a, rolesOf wd kind = some rs → (∀ H, SqT K H a (rs.map V.str)) → Q (.ref a) H)
def sp2 (f : PyData → Str → Bool) (K : PySem.W.Frag) : Sp := fun vs H Q _ => ∃ (v : V) (d : PyData) (kind : Str), vs = [v, .str kind] ∧ Dp K H v d ∧ Lay d ∧ ∀ H', Same H H' → Q (.bl (f d kind)) H'
section
variable {P : Program} {w : World} {K : PySem.W.Frag} {mg : Str → Option Value} {base : Heap}
theorem scRoles : FnScope ["word", "kind"] ["word", "kind"] (defScope sRoles) := ⟨rfl, rfl, rfl, by decide +kernel, rfl, by decide +kernel, by decide +kernel⟩
theorem ok_roles {f : Addr} {fd : FuncData} (F : Fun K "roles_of" "roles_of" sRoles f fd) (D : Gd K w mg) : FnOk P w K mg base CX0 1 f fd ["word", "kind"] (spRoles K) := by
  refine F.ok scRoles (fun vs H Q E h => ?_) (fun cdv A outer s H vs Q E hr h => ?_)
  · obtain ⟨wd, kind, rfl, _⟩ := h
    rfl
  obtain ⟨wd, kind, rfl, q0, q1⟩ := h
  refine ⟨_, pss_cons (ps_if (pt_cmpR op_inK (pv 0) (pe_gref rfl D.mS) (by rfl)) (pss_one (ps_ret (pe_ix ix_kdict (pe_gref rfl D.mS) (pv 0) (fun _ _ => rfl)))) pss_nil)
    (pss_cons (ps_if (pt_cmpR op_eq (pv 1) pe_str (nomark _)) (pss_one (ps_ret (pe_getK (pe_gref rfl D.mT) (pa_cons (pv 0) pa_nil)))) pss_nil)
    (pss_one (ps_ret (pe_getK (pe_gref rfl D.mC) (pa_cons (pv 0) pa_nil))))), ?_⟩
  refine ⟨_, rfl, D.aS, _, wd, rfl, D.tS, rfl, _, rfl, ?_⟩
  have keq : ∀ {z : Str}, decide (V.str kind = V.str z) = true → kind = z := fun c => by
    have c' := of_decide_eq_true c
    injection c'
  have kne : ∀ {z : Str}, ¬ decide (V.str kind = V.str z) = true → ¬ kind = z := fun c e => c (decide_eq_true (by rw [e]))
  cases wd with
  | none =>
    refine iteF ?_
    refine ⟨_, rfl, rfl, _, rfl, ite2 (fun c => ?_) (fun c => ?_)⟩
    · exact ⟨D.aT, _, rfl, D.tT, _, rfl, none, rfl, q0 rfl⟩
    · exact ⟨D.aC, _, rfl, D.tC, _, rfl, none, rfl, q0 rfl⟩
  | some z =>
    have eG : ∀ tab, getT tab (some z) = lookT tab z := fun _ => rfl
    rw [eG]
    have eR : rolesOf (some z) kind = rolesZ z kind := rfl
    rw [eR] at q0
    have q1' : ∀ rs a, rolesZ z kind = some rs → (∀ H, SqT K H a (rs.map V.str)) → Q (.ref a) H := q1
    unfold rolesZ at q0 q1'
    by_cases c1 : z = "set"
    · subst c1
      rw [lookT_eq]
      exact iteT ⟨_, rfl, D.aS, _, _, rfl, rfl, ktab_ix D.tS lookT_eq, q1' _ _ (if_pos rfl) D.k1⟩
    rw [lookT_ne c1]
    rw [if_neg c1] at q0 q1'
    by_cases c2 : z = "add"
    · subst c2
      rw [lookT_eq]
      exact iteT ⟨_, rfl, D.aS, _, _, rfl, rfl, ktab_ix D.tS (by rw [lookT_ne c1, lookT_eq]), q1' _ _ (if_pos rfl) D.k2⟩
    rw [lookT_ne c2]
    rw [if_neg c2] at q0 q1'
    by_cases c3 : z = "wait"
    · subst c3
      rw [lookT_eq]
      exact iteT ⟨_, rfl, D.aS, _, _, rfl, rfl, ktab_ix D.tS (by rw [lookT_ne c1, lookT_ne c2, lookT_eq]), q1' _ _ (if_pos rfl) D.k3⟩
    rw [lookT_ne c3]
    rw [if_neg c3] at q0 q1'
    refine iteF ?_
    refine ⟨_, rfl, rfl, _, rfl, ite2 (fun c => ?_) (fun c => ?_)⟩
    · rw [if_pos (keq c)] at q0 q1'
      refine ⟨D.aT, _, rfl, D.tT, _, rfl, some z, rfl, ?_⟩
      rw [eG]
      by_cases c4 : z = "ask"
      · subst c4
        rw [lookT_eq]
        exact q1' _ _ (if_pos rfl) D.k4
      rw [lookT_ne c4]
      rw [if_neg c4] at q0 q1'
      by_cases c5 : z = "answer"
      · subst c5
        rw [lookT_eq]
        exact q1' _ _ (if_pos rfl) D.k5
      rw [lookT_ne c5]
      rw [if_neg c5] at q0 q1'
      exact q0 rfl
    · rw [if_neg (kne c)] at q0 q1'
      refine ⟨D.aC, _, rfl, D.tC, _, rfl, some z, rfl, ?_⟩
      rw [eG]
      by_cases c4 : z = "grow"
      · subst c4
        rw [lookT_eq]
        exact q1' _ _ (if_pos rfl) D.k6
      rw [lookT_ne c4]
      rw [if_neg c4] at q0 q1'
      by_cases c5 : z = "list"
      · subst c5
        rw [lookT_eq]
        exact q1' _ _ (if_pos rfl) D.k7
      rw [lookT_ne c5]
      rw [if_neg c5] at q0 q1'
      exact q0 rfl
end
/-! ### a comprehension over zip of two tuples -/
theorem lc_zipT {K : PySem.W.Frag} {a b : Addr} {xs ys : List V} {g : TG} {tt : TT} {te : TE} {vs : List Nat} {σ : L2.St} {H1 : Hp} {D : Addr} {Qd : Hp → Prop} (hl : xs.length = ys.length) (Pv : Nat → Hp → Prop) (h0 : Pv 0 (upd H1 D (.lst []))) (hq : ∀ i H, Pv i H → SqT K H a xs ∧ SqT K H b ys)
    (hs : ∀ i x y T H, xs[i]? = some x → ys[i]? = some y → Pv i H → H T = none → g (.ref T) (wipe σ vs) (upd H T (.tup [x, y])) fun σ2 H2 => wipe σ2 vs = wipe σ vs ∧ tt σ2 H2 fun b H3 =>
      if b = true then te σ2 H3 fun y H4 => ∃ acc, H4 D = some (.lst acc) ∧ acc.length < sizeLine ∧ Pv (i + 1) (upd H4 D (.lst (acc ++ [y]))) else Pv (i + 1) H3) (hd : ∀ H, Pv xs.length H → Qd H) :
    ∃ W : Nat → Nat → Hp → Prop, (∃ m, W 0 m (upd H1 D (.lst []))) ∧ ∀ i m H, W i m H →
      ((RZ.ItzT K a b).stop i H ∧ Qd H) ∨ ((RZ.ItzT K a b).go i H ∧ ∃ Nx : Hp → Prop, (∀ H', Nx H' → ∃ m', m' < m ∧ W (i + 1) m' H') ∧ ∀ x H', (RZ.ItzT K a b).yld i H x H' → g x (wipe σ vs) H' fun σ2 H2 => wipe σ2 vs = wipe σ vs ∧ tt σ2 H2 fun b H3 =>
        if b = true then te σ2 H3 fun y H4 => ∃ acc, H4 D = some (.lst acc) ∧ acc.length < sizeLine ∧ Nx (upd H4 D (.lst (acc ++ [y]))) else Nx H3) := by
  refine ⟨fun i m H => m = xs.length - i ∧ i ≤ xs.length ∧ Pv i H, ⟨xs.length, by simp, Nat.zero_le _, h0⟩, ?_⟩
  rintro i m H ⟨rfl, hi, p⟩
  obtain ⟨q1, q2⟩ := hq i H p
  by_cases hlt : i < xs.length
  · have hlt2 : i < ys.length := by omega
    refine .inr ⟨⟨xs, ys, xs[i], ys[i], q1, q2, by simp [hlt], by simp [hlt2]⟩, Pv (i + 1), fun H' p' => ⟨xs.length - (i + 1), by omega, rfl, hlt, p'⟩, fun v H' y => ?_⟩
    obtain ⟨T, x, y, rfl, hT, rfl, hx, hy⟩ := y
    exact hs i x y T H (hx xs q1) (hy ys q2) p hT
  · have e : i = xs.length := by omega
    subst e
    exact .inl ⟨⟨xs, ys, q1, q2, .inl (Nat.le_refl _)⟩, hd H p⟩
theorem same_upd {H H' : Hp} {D : Addr} (e : Same H H') (n : H D = none) (o : HO) : Same H (upd H' D o) := fun b u q => by
  rw [upd_ne (ne_of_none q n)]
  exact e _ _ q
def partsB (ps : List PyData) (rs : List Str) : List Bool := (ps.zip rs).map fun p => isPart p.1 p.2
theorem word_inv {d : PyData} {z : Str} (h : wordOf d = some z) : ∃ ps, d = .tuple (.str z :: ps) := by
  match d, h with
  | .tuple (.str x :: ps), h => cases h; exact ⟨ps, rfl⟩
theorem plain_none {d : PyData} {kind : Str} (h : rolesOf (wordOf d) kind = none) : isPlain d kind = false := by
  match d, h with
  | .tuple (.str x :: ps), h =>
    have h' : rolesZ x kind = none := h
    show (match rolesZ x kind with | some rs => decide (ps.length = rs.length) && allParts ps rs | none => false) = false
    rw [h']
  | .tuple [], _ => rfl
  | .tuple (.none :: _), _ => rfl
  | .tuple (.bool _ :: _), _ => rfl
  | .tuple (.int _ :: _), _ => rfl
  | .tuple (.list _ :: _), _ => rfl
  | .tuple (.tuple _ :: _), _ => rfl
  | .tuple (.dict _ :: _), _ => rfl
  | .none, _ => rfl
  | .bool _, _ => rfl
  | .int _, _ => rfl
  | .str _, _ => rfl
  | .list _, _ => rfl
  | .dict _, _ => rfl
theorem plain_some {z kind : Str} {ps : List PyData} {rs : List Str} (h : rolesZ z kind = some rs) : isPlain (.tuple (.str z :: ps)) kind = (decide (ps.length = rs.length) && allParts ps rs) := by
  show (match rolesZ z kind with | some rs => decide (ps.length = rs.length) && allParts ps rs | none => false) = _
  rw [h]
theorem roles_short {z kind : Str} {rs : List Str} (h : rolesZ z kind = some rs) : rs.length ≤ 3 := by
  unfold rolesZ at h
  repeat' split at h
  all_goals first | (cases h; decide) | (cases h)
theorem cut1 (x : V) (xs : List V) : cutV (x :: xs) (some 1) none = xs := by
  have e : HT.sIx (x :: xs).length 0 (some 1) = 1 := by
    have := HT.sIx_nat (x :: xs).length 0 1
    rw [show ((1 : Nat) : Int) = 1 from rfl] at this
    rw [this, List.length_cons]
    omega
  unfold cutV
  rw [e, HT.sIx_none]
  simp
theorem not_whole1 (x : V) (xs : List V) : ¬ (HT.sIx (x :: xs).length 0 (some 1) = 0 ∧ HT.sIx (x :: xs).length (x :: xs).length none = (x :: xs).length) := by
  intro h
  have e : HT.sIx (x :: xs).length 0 (some 1) = 1 := by
    have := HT.sIx_nat (x :: xs).length 0 1
    rw [show ((1 : Nat) : Int) = 1 from rfl] at this
    rw [this, List.length_cons]
    omega
  rw [e] at h
  exact absurd h.1 (by decide)
section
variable {P : Program} {w : World} {K : PySem.W.Frag} {mg : Str → Option Value} {base : Heap}
theorem scPlain : FnScope ["thing", "kind", "roles", "part", "role"] ["thing", "kind"] (defScope sPlain) := ⟨rfl, rfl, rfl, by decide +kernel, rfl, by decide +kernel, by decide +kernel⟩
theorem ok_plain {f : Addr} {fd : FuncData} (F : Fun K "is_plain_statement" "is_plain_statement" sPlain f fd) (T : Gs K mg) (CW : Cal P w K mg base 1 "word_of" ["thing"] (spWord K)) (CR : Cal P w K mg base 1 "roles_of" ["word", "kind"] (spRoles K))
    (CP : Cal P w K mg base 4 "is_part" ["thing", "role"] (spPart K)) : FnOk P w K mg base CX0 5 f fd ["thing", "kind"] (sp2 isPlain K) := by
  refine F.ok scPlain (fun vs H Q E h => ?_) (fun cdv A outer s H vs Q E hr h => ?_)
  · obtain ⟨v, d, kind, rfl, _⟩ := h
    rfl
  obtain ⟨v, d, kind, rfl, hd, ld, q⟩ := h
  have hr1 : Room 1 _ := hr.mono (by decide)
  refine ⟨_, pss_cons (ps_set (i := 2) scPlain.nd rfl (.inl rfl) (pe_call CR.G hr1 rfl CR.m CR.kp CR.b .nil pass0 (pa_cons (pe_call CW.G hr1 rfl CW.m CW.kp CW.b .nil pass0 (pa_cons (pv 0) pa_nil)) (pa_cons (pv 1) pa_nil))))
    (pss_cons (ps_if (PW.pt (pw_or (pt_cmpR op_isN (pv 2) pe_non (nomark _)) (pw_or1 (pt_cmpR op_ne (pe_callB call_len_seq (by rfl) T.len PySem.boot_len (pa_cons (pv 0) pa_nil)) (pe_op op_add pe_int (pe_callB call_len_seq (by rfl) T.len PySem.boot_len (pa_cons (pv 2) pa_nil))) (nomark _)))))
      (pss_one (ps_ret pe_bl)) pss_nil)
    (pss_one (ps_ret (pe_callB (cr_all rfl) (by rfl) T.all (by decide +kernel) (pa_cons
      (pe_lc (own := [("part", 3), ("role", 4)]) (g := gTup K 2 (gCons (gName 3) (gCons (gName 4) gNil))) (tt := tYes) rfl scPlain.nd
        (RZ.pi_zipA (by rfl) T.zip (pa_cons (pe_slice sl_tup (pv 0) (po_some pe_int) po_none) (pa_cons (pv 2) pa_nil)))
        (blkOk_by (N := ["thing", "kind", "roles", "part", "role"]) (sc := defScope sPlain) (by decide +kernel))
        (fun _ _ _ _ _ => pg_tup (by rfl) (pgs_cons (pg_name (i := 3) scPlain.nd rfl (.inl rfl)) (pgs_cons (pg_name (i := 4) scPlain.nd rfl (.inl rfl)) pgs_nil)))
        (fun _ _ _ _ _ => pts_nil)
        (fun _ _ _ _ _ => pe_call CP.G hr rfl CP.m CP.kp CP.b .nil pass0 (pa_cons (pv 3) (pa_cons (pv 4) pa_nil)))) pa_nil))))), ?_⟩
  refine ⟨_, rfl, v, d, rfl, hd, _, rfl, wordOf d, kind, rfl, fun hn => ?_, fun rs a hs ka => ?_⟩
  · rw [plain_none hn] at q
    exact ⟨_, rfl, rfl, _, rfl, ite2 (fun _ => iteT (q H (Same.refl H))) (fun c => absurd (decide_eq_true rfl) c)⟩
  · refine ⟨_, rfl, rfl, _, rfl, ite2 (fun c => nomatch (of_decide_eq_true c)) (fun _ => ?_)⟩
    cases hw : wordOf d with
    | none => rw [hw] at hs; cases hs
    | some z =>
      obtain ⟨ps, rfl⟩ := word_inv hw
      have hs' : rolesZ z kind = some rs := by rw [hw] at hs; exact hs
      have h3 := roles_short hs'
      rw [plain_some hs'] at q
      obtain ⟨a0, xs, rfl, h0, ha⟩ := dp_tup_inv hd
      cases ha with
      | cons hz hp =>
        rename_i x0 xr
        have hl := dpAll_len hp
        refine ⟨_, rfl, a0, _, rfl, .inr h0, _, rfl, a, _, rfl, .inr (ka _), _, _, rfl, rfl, rfl, _, rfl, ?_⟩
        by_cases c : ps.length = rs.length
        · have c' : V.int (((x0 :: xr).length : Nat) : Int) = V.int (1 + ((rs.map V.str).length : Nat)) := by
            rw [List.length_cons, List.length_map, hl, c]
            congr 1
            omega
          refine iteNS c' ?_
          rw [decide_eq_true c, Bool.true_and] at q
          refine ⟨_, rfl, _, rfl, a0, _, rfl, h0, not_whole1 _ _, fun p np => ⟨_, rfl, p, a, _, _, rfl, .inr ⟨SqT.of upd_same, ka _, fun D nD => ?_⟩⟩⟩
          rw [cut1] at nD ⊢
          have g1 : Same H (upd H p (.tup xr)) := same_new np _
          refine lc_zipT (K := K) (a := p) (b := a) (xs := xr) (ys := rs.map V.str) (by rw [List.length_map]; omega)
            (fun i H' => Same (upd H p (.tup xr)) H' ∧ H' D = some (.lst (((partsB ps rs).take i).map V.bl))) ⟨same_upd (Same.refl _) nD _, upd_same⟩
            (fun i H' P => ⟨SqT.of (P.1 _ _ upd_same), ka _⟩) ?_ ?_
          · rintro i x y T H' hx hy ⟨s1, eD⟩ nT
            obtain ⟨di, hdi, hxd⟩ := dpAll_get hp hx
            rw [List.getElem?_map] at hy
            cases hri : rs[i]? with
            | none => rw [hri] at hy; cases hy
            | some ri =>
              rw [hri] at hy
              cases hy
              have sT : Same H' (upd H' T (.tup [x, V.str ri])) := same_new nT _
              have nDT : D ≠ T := ne_of_none eD nT
              refine ⟨T, _, rfl, SqT.of upd_same, rfl, _, _, rfl, _, _, rfl, rfl, rfl, ?_⟩
              refine ⟨_, rfl, _, rfl, x, di, ri, rfl, dp_mono (g1.trans (s1.trans sT)) _ _ hxd, ?_, _, sT _ _ eD, ?_, ?_, ?_⟩
              · exact lay_mem (lay_tup ld) _ (List.mem_cons_of_mem _ (List.mem_of_getElem? hdi))
              · rw [List.length_map, List.length_take, partsB, List.length_map, List.length_zip]
                exact Nat.lt_of_le_of_lt (by omega : _ ≤ 1000) (by decide)
              · exact same_upd (s1.trans sT) nD _
              · rw [upd_same]
                congr 2
                have hz : (ps.zip rs)[i]? = some (di, ri) := by rw [List.getElem?_zip_eq_some]; exact ⟨hdi, hri⟩
                have hm : (partsB ps rs)[i]? = some (isPart di ri) := by rw [partsB, List.getElem?_map, hz]; rfl
                have hil : i < (partsB ps rs).length := (List.getElem?_eq_some_iff.mp hm).1
                rw [← List.take_append_getElem hil, List.map_append]
                congr 1
                rw [(List.getElem?_eq_some_iff.mp hm).2]
                rfl
          · rintro H' ⟨s1, eD⟩
            refine ⟨D, partsB ps rs, rfl, SqL.of ?_, q _ (g1.trans s1)⟩
            rw [eD, List.take_of_length_le]
            rw [partsB, List.length_map, List.length_zip]
            omega
        · rw [decide_eq_false c, Bool.false_and] at q
          refine ite2 (fun _ => q H (Same.refl H)) (fun c2 => absurd ?_ c2)
          rw [Bool.not_eq_true', decide_eq_false_iff_not]
          intro z
          have z' : (((x0 :: xr).length : Nat) : Int) = 1 + ((rs.map V.str).length : Nat) := by injection z
          rw [List.length_cons, List.length_map] at z'
          omega
end
theorem out_none {d : PyData} {kind : Str} (h : wordOf d = none) : isOut d kind = isPlain d kind := by
  match d, h with
  | .tuple [], _ => rfl
  | .tuple (.none :: _), _ => rfl
  | .tuple (.bool _ :: _), _ => rfl
  | .tuple (.int _ :: _), _ => rfl
  | .tuple (.list _ :: _), _ => rfl
  | .tuple (.tuple _ :: _), _ => rfl
  | .tuple (.dict _ :: _), _ => rfl
  | .none, _ => rfl
  | .bool _, _ => rfl
  | .int _, _ => rfl
  | .str _, _ => rfl
  | .list _, _ => rfl
  | .dict _, _ => rfl
theorem if_while : ¬ (("while" : Str) = "if") := by decide +kernel
theorem out_if {kind : Str} {ps : List PyData} : isOut (.tuple (.str "if" :: ps)) kind = cond3 ps := by
  simp [isOut]
theorem out_while {kind : Str} {ps : List PyData} : isOut (.tuple (.str "while" :: ps)) kind = cond2 ps := by
  simp [isOut, if_while]
theorem out_else {z kind : Str} {ps : List PyData} (h1 : ¬ z = "if") (h2 : ¬ z = "while") : isOut (.tuple (.str z :: ps)) kind = isPlain (.tuple (.str z :: ps)) kind := by
  show (if z = "if" then _ else if z = "while" then _ else _) = _
  rw [if_neg h1, if_neg h2]
theorem cut2 (xs : List V) : cutV xs (some 2) none = xs.drop 2 := by
  have e := HT.sIx_nat xs.length 0 2
  rw [show ((2 : Nat) : Int) = 2 from rfl] at e
  unfold cutV
  rw [e, HT.sIx_none]
  by_cases h : 2 ≤ xs.length
  · rw [Nat.min_eq_left h, List.take_of_length_le (by rw [List.length_drop]; omega)]
  · rw [Nat.min_eq_right (by omega), List.drop_of_length_le (Nat.le_refl _), List.drop_of_length_le (by omega)]
    simp
theorem not_whole2 {xs : List V} (h : 0 < xs.length) : ¬ (HT.sIx xs.length 0 (some 2) = 0 ∧ HT.sIx xs.length xs.length none = xs.length) := by
  intro c
  have e := HT.sIx_nat xs.length 0 2
  rw [show ((2 : Nat) : Int) = 2 from rfl] at e
  rw [e] at c
  omega
theorem dpAll_drop {K : PySem.W.Frag} {H : Hp} : ∀ (n : Nat) {xs : List V} {ds : List PyData}, DpAll K H xs ds → DpAll K H (xs.drop n) (ds.drop n)
  | 0, _, _, h => h
  | n + 1, _, _, .nil => .nil
  | n + 1, _, _, .cons _ t => dpAll_drop n t
def spBods (K : PySem.W.Frag) : Sp := fun vs H Q _ => ∃ (v : V) (z : Str) (ps : List PyData) (H0 : Hp), vs = [v] ∧ Same H0 H ∧ Dp K H0 v (.tuple (.str z :: ps)) ∧
  ∀ H' b ys, Same H H' → SqT K H' b ys → DpAll K H0 ys (bodsOf (.tuple (.str z :: ps))) → Q (.ref b) H'
section
variable {P : Program} {w : World} {K : PySem.W.Frag} {mg : Str → Option Value} {base : Heap}
theorem scOut : FnScope ["thing", "kind", "word"] ["thing", "kind"] (defScope sOut) := ⟨rfl, rfl, rfl, by decide +kernel, rfl, by decide +kernel, by decide +kernel⟩
theorem ok_out {f : Addr} {fd : FuncData} (F : Fun K "is_outside_of_statement" "is_outside_of_statement" sOut f fd) (T : Gs K mg) (D : Gd K w mg) (CW : Cal P w K mg base 1 "word_of" ["thing"] (spWord K))
    (CC : Cal P w K mg base 4 "is_condition" ["thing"] (sp1 isCond K)) (CP : Cal P w K mg base 5 "is_plain_statement" ["thing", "kind"] (sp2 isPlain K)) : FnOk P w K mg base CX0 6 f fd ["thing", "kind"] (sp2 isOut K) := by
  refine F.ok scOut (fun vs H Q E h => ?_) (fun cdv A outer s H vs Q E hr h => ?_)
  · obtain ⟨v, d, kind, rfl, _⟩ := h
    rfl
  obtain ⟨v, d, kind, rfl, hd, ld, q⟩ := h
  have hr1 : Room 1 _ := hr.mono (by decide)
  have hr3 : Room 4 _ := hr.mono (by decide)
  refine ⟨_, pss_cons (ps_set (i := 2) scOut.nd rfl (.inl rfl) (pe_call CW.G hr1 rfl CW.m CW.kp CW.b .nil pass0 (pa_cons (pv 0) pa_nil)))
    (pss_cons (ps_if (pt_cmpR op_inK (pv 2) (pe_gref rfl D.mB) (by rfl))
      (pss_one (ps_ret (pe_and (pe_cmpR op_eq (pe_callB call_len_seq (by rfl) T.len PySem.boot_len (pa_cons (pv 0) pa_nil)) (pe_op op_add pe_int (pe_ix ix_kdict (pe_gref rfl D.mB) (pv 2) (fun _ _ => rfl))) (nomark _))
        (pe_one (pe_call CC.G hr3 rfl CC.m CC.kp CC.b .nil pass0 (pa_cons (pe_ix ix_tup (pv 0) pe_int (fun _ _ => rfl)) pa_nil)))))) pss_nil)
    (pss_one (ps_ret (pe_call CP.G hr rfl CP.m CP.kp CP.b .nil pass0 (pa_cons (pv 0) (pa_cons (pv 1) pa_nil)))))), ?_⟩
  refine ⟨_, rfl, v, d, rfl, hd, _, rfl, D.aB, _, wordOf d, rfl, D.tB, rfl, _, rfl, ?_⟩
  cases hw : wordOf d with
  | none =>
    rw [out_none hw] at q
    exact iteF ⟨_, rfl, _, rfl, v, d, kind, rfl, hd, ld, q⟩
  | some z =>
    obtain ⟨ps, rfl⟩ := word_inv hw
    have eG : ∀ tab, getT tab (some z) = lookT tab z := fun _ => rfl
    rw [eG]
    obtain ⟨a0, xs, rfl, h0, ha⟩ := dp_tup_inv hd
    have hl := dpAll_len ha
    have lm := lay_mem (lay_tup ld)
    by_cases c1 : z = "if"
    · subst c1
      rw [lookT_eq]
      refine iteT ⟨_, rfl, a0, _, rfl, .inr h0, _, rfl, D.aB, _, _, rfl, rfl, ktab_ix D.tB lookT_eq, _, _, rfl, rfl, rfl, _, rfl, ?_⟩
      rw [out_if] at q
      by_cases c : xs.length = 4
      · rw [decide_eq_true (show V.int ((xs.length : Nat) : Int) = V.int (2 + 2) by rw [c]; rfl)]
        have c3 : ps.length = 3 := by rw [List.length_cons] at hl; omega
        match ps, c3, q, ha, lm with
        | [c0, b1, b2], _, q, .cons hz (.cons hc _), lm =>
          exact iteT ⟨_, rfl, a0, _, _, _, rfl, rfl, h0, atI_nat (j := 1) rfl, _, c0, rfl, hc, lm _ (by simp), q H (Same.refl H)⟩
      · rw [decide_eq_false (show ¬ V.int ((xs.length : Nat) : Int) = V.int (2 + 2) from fun e => c (by injection e; omega))]
        refine iteF ?_
        have c3 : ¬ ps.length = 3 := by rw [List.length_cons] at hl; omega
        match ps, c3, q with
        | [], _, q => exact q H (Same.refl H)
        | [_], _, q => exact q H (Same.refl H)
        | [_, _], _, q => exact q H (Same.refl H)
        | [_, _, _], c3, _ => exact absurd rfl c3
        | _ :: _ :: _ :: _ :: _, _, q => exact q H (Same.refl H)
    rw [lookT_ne c1]
    by_cases c2 : z = "while"
    · subst c2
      rw [lookT_eq]
      refine iteT ⟨_, rfl, a0, _, rfl, .inr h0, _, rfl, D.aB, _, _, rfl, rfl, ktab_ix D.tB (by rw [lookT_ne c1, lookT_eq]), _, _, rfl, rfl, rfl, _, rfl, ?_⟩
      rw [out_while] at q
      by_cases c : xs.length = 3
      · rw [decide_eq_true (show V.int ((xs.length : Nat) : Int) = V.int (2 + 1) by rw [c]; rfl)]
        have c3 : ps.length = 2 := by rw [List.length_cons] at hl; omega
        match ps, c3, q, ha, lm with
        | [c0, b1], _, q, .cons hz (.cons hc _), lm =>
          exact iteT ⟨_, rfl, a0, _, _, _, rfl, rfl, h0, atI_nat (j := 1) rfl, _, c0, rfl, hc, lm _ (by simp), q H (Same.refl H)⟩
      · rw [decide_eq_false (show ¬ V.int ((xs.length : Nat) : Int) = V.int (2 + 1) from fun e => c (by injection e; omega))]
        refine iteF ?_
        have c3 : ¬ ps.length = 2 := by rw [List.length_cons] at hl; omega
        match ps, c3, q with
        | [], _, q => exact q H (Same.refl H)
        | [_], _, q => exact q H (Same.refl H)
        | [_, _], c3, _ => exact absurd rfl c3
        | _ :: _ :: _ :: _, _, q => exact q H (Same.refl H)
    rw [lookT_ne c2]
    rw [out_else c1 c2] at q
    exact iteF ⟨_, rfl, _, rfl, _, _, kind, rfl, hd, ld, q⟩
theorem scBodies : FnScope ["statement"] ["statement"] (defScope sBodies) := ⟨rfl, rfl, rfl, by decide +kernel, rfl, by decide +kernel, by decide +kernel⟩
theorem ok_bodies {f : Addr} {fd : FuncData} (F : Fun K "bodies_of" "bodies_of" sBodies f fd) (T : Gs K mg) (D : Gd K w mg) : FnOk P w K mg base CX0 1 f fd ["statement"] (spBods K) := by
  refine F.ok scBodies (fun vs H Q E h => ?_) (fun cdv A outer s H vs Q E hr h => ?_)
  · obtain ⟨v, z, ps, H0, rfl, _⟩ := h
    rfl
  obtain ⟨v, z, ps, H0, rfl, s0, hd, q⟩ := h
  obtain ⟨a0, xs, rfl, h0', ha⟩ := dp_tup_inv hd
  have h0 : SqT K H a0 xs := Same.tup s0 h0'
  refine ⟨_, pss_one (ps_ret (pe_ifExp (pt_cmpR op_inK (pe_ix ix_tup (pv 0) pe_int (fun _ _ => rfl)) (pe_gref rfl D.mB) (by rfl)) (pe_slice sl_tup (pv 0) (po_some pe_int) po_none) (pe_tup pa_nil))), ?_⟩
  cases ha with
  | cons hz hp =>
    cases hz
    rename_i xr
    have eB : bodsOf (.tuple (.str z :: ps)) = if z = "if" ∨ z = "while" then ps.drop 1 else [] := rfl
    refine ⟨_, rfl, a0, _, _, _, rfl, rfl, h0, atI_nat (j := 0) rfl, D.aB, _, some z, rfl, D.tB, rfl, _, rfl, ?_⟩
    have eG : ∀ tab, getT tab (some z) = lookT tab z := fun _ => rfl
    rw [eG]
    rw [eB] at q
    by_cases c : z = "if" ∨ z = "while"
    · have e : (lookT [(("if" : Str), V.int 2), ("while", V.int 1)] z).isSome = true := by
        rcases c with rfl | rfl
        · rw [lookT_eq]; rfl
        · rw [lookT_ne if_while, lookT_eq]; rfl
      rw [if_pos c] at q
      refine ite2 (fun _ => ?_) (fun c2 => absurd e c2)
      refine ⟨_, rfl, _, rfl, a0, _, rfl, h0, not_whole2 (by rw [List.length_cons]; omega), fun p np => ?_⟩
      rw [cut2]
      exact q _ p _ (same_new np _) (SqT.of upd_same) (dpAll_drop 1 hp)
    · rw [if_neg c] at q
      have e : (lookT [(("if" : Str), V.int 2), ("while", V.int 1)] z).isSome = false := by
        rw [lookT_ne (fun e => c (.inl e)), lookT_ne (fun e => c (.inr e))]
        rfl
      refine ite2 (fun c2 => ?_) (fun _ => ⟨by show 0 ≤ sizeLine; decide, fun p np => ?_⟩)
      · have c3 : (lookT [(("if" : Str), V.int 2), ("while", V.int 1)] z).isSome = true := c2
        rw [e] at c3
        cases c3
      · exact q _ p _ (same_new np _) (SqT.of upd_same) .nil
end
/-! ### counting statements -/
def addO : Option Nat → Option Nat → Option Nat
  | some a, some b => some (a + b)
  | _, _ => none
def sumO : List (Option Nat) → Option Nat
  | [] => some 0
  | x :: r => addO x (sumO r)
theorem addO_none (x : Option Nat) : addO x none = none := by cases x <;> rfl
theorem none_addO (x : Option Nat) : addO none x = none := by cases x <;> rfl
theorem addO_assoc (x y z : Option Nat) : addO (addO x y) z = addO x (addO y z) := by
  cases x <;> cases y <;> cases z <;> simp [addO, Nat.add_assoc]
theorem addO_comm (x y : Option Nat) : addO x y = addO y x := by
  cases x <;> cases y <;> simp [addO, Nat.add_comm]
theorem zero_addO (x : Option Nat) : addO (some 0) x = x := by cases x <;> simp [addO]
theorem addO_zero (x : Option Nat) : addO x (some 0) = x := by cases x <;> simp [addO]
theorem sumO_append (xs ys : List (Option Nat)) : sumO (xs ++ ys) = addO (sumO xs) (sumO ys) := by
  induction xs with
  | nil => exact (zero_addO _).symm
  | cons x r ih => rw [List.cons_append]; simp only [sumO]; rw [ih, addO_assoc]
def bodyN (kind : Str) : Nat → PyData → Option Nat
  | 0, .tuple [] => some 0
  | 0, _ => none
  | r + 1, .tuple ss => sumO (ss.map fun s => if isOut s kind = true then addO (some 1) (sumO ((bodsOf s).map (bodyN kind r))) else none)
  | _ + 1, _ => none
def stN (kind : Str) (r : Nat) (s : PyData) : Option Nat := if isOut s kind = true then addO (some 1) (sumO ((bodsOf s).map (bodyN kind r))) else none
theorem bodyN_tup (kind : Str) (r : Nat) (ss : List PyData) : bodyN kind (r + 1) (.tuple ss) = sumO (ss.map (stN kind r)) := by
  simp only [bodyN]
  rfl
def okN (many : Nat) : Option Nat → Bool
  | some n => decide (many + n ≤ 24)
  | none => false
def isProg (d : PyData) : Bool := match d with
  | .tuple [.str k, b] => inS (.str k) kinds && okN 0 (bodyN k 4 b)
  | _ => false
def tot (kind : Str) (stk : List (PyData × Nat)) : Option Nat := sumO (stk.map fun p => bodyN kind (5 - p.2) p.1)
def good (kind : Str) (many : Nat) (stk : List (PyData × Nat)) : Bool := okN many (tot kind stk)
theorem tot_append (kind : Str) (a b : List (PyData × Nat)) : tot kind (a ++ b) = addO (tot kind a) (tot kind b) := by
  unfold tot
  rw [List.map_append, sumO_append]
theorem tot_one (kind : Str) (p : PyData × Nat) : tot kind [p] = bodyN kind (5 - p.2) p.1 := by
  unfold tot
  simp only [List.map_cons, List.map_nil, sumO, addO_zero]
theorem okN_none (m : Nat) : okN m none = false := rfl
theorem okN_add (m k : Nat) (x : Option Nat) : okN m (addO (some k) x) = okN (m + k) x := by
  cases x with
  | none => rfl
  | some n => simp only [addO, okN]; congr 1; rw [Nat.add_assoc]
theorem bodyN_no (kind : Str) (r : Nat) {d : PyData} (h : isT d "tuple" = false) : bodyN kind r d = none := by
  cases d <;> first | (cases r <;> rfl) | (simp [isT, tyN] at h)
theorem stN_ge {kind : Str} {r n : Nat} {s : PyData} (h : stN kind r s = some n) : 1 ≤ n := by
  unfold stN at h
  split at h
  · cases e : sumO ((bodsOf s).map (bodyN kind r)) with
    | none => rw [e] at h; cases h
    | some m =>
      rw [e] at h
      have : 1 + m = n := by injection h
      omega
  · cases h
theorem sumO_ge {kind : Str} {r : Nat} : ∀ {ss : List PyData} {n : Nat}, sumO (ss.map (stN kind r)) = some n → ss.length ≤ n
  | [], _, _ => Nat.zero_le _
  | s :: t, n, h => by
    simp only [List.map_cons, sumO] at h
    cases e1 : stN kind r s with
    | none => rw [e1, none_addO] at h; cases h
    | some a =>
      cases e2 : sumO (t.map (stN kind r)) with
      | none => rw [e2, addO_none] at h; cases h
      | some b =>
        rw [e1, e2] at h
        have e : a + b = n := by injection h
        have h1 := stN_ge e1
        have h2 := sumO_ge e2
        rw [List.length_cons]
        omega
/-- too many, or too deep -/
theorem good_over {kind : Str} {many dep : Nat} {st : List (PyData × Nat)} {ss : List PyData} (h : 24 < many + ss.length ∨ (0 < ss.length ∧ 4 < dep)) : good kind many (st ++ [(.tuple ss, dep)]) = false := by
  unfold good
  rw [tot_append, tot_one]
  show okN many (addO (tot kind st) (bodyN kind (5 - dep) (.tuple ss))) = false
  cases e : bodyN kind (5 - dep) (.tuple ss) with
  | none => rw [addO_none]; rfl
  | some n =>
    cases e1 : tot kind st with
    | none => rfl
    | some a =>
      show decide (many + (a + n) ≤ 24) = false
      rw [decide_eq_false_iff_not]
      cases hr : 5 - dep with
      | zero =>
        rw [hr] at e
        cases ss with
        | nil => rcases h with h | ⟨h, _⟩
                 · simp at h; omega
                 · simp at h
        | cons s t => simp [bodyN] at e
      | succ r =>
        rw [hr, bodyN_tup] at e
        have g := sumO_ge e
        rcases h with h | ⟨_, h⟩
        · omega
        · omega
theorem good_no {kind : Str} {many dep : Nat} {st : List (PyData × Nat)} {d : PyData} (h : isT d "tuple" = false) : good kind many (st ++ [(d, dep)]) = false := by
  unfold good
  rw [tot_append, tot_one]
  show okN many (addO (tot kind st) (bodyN kind (5 - dep) d)) = false
  rw [bodyN_no kind _ h, addO_none]
  rfl
theorem sumO_none {kind : Str} {r : Nat} {s : PyData} (h : isOut s kind = false) : ∀ {ss : List PyData}, s ∈ ss → sumO (ss.map (stN kind r)) = none
  | x :: t, m => by
    simp only [List.map_cons, sumO]
    rcases List.mem_cons.mp m with e | m
    · subst e
      have e : stN kind r s = none := by unfold stN; rw [if_neg (by rw [h]; decide)]
      rw [e, none_addO]
    · rw [sumO_none h m, addO_none]
theorem good_bad {kind : Str} {many dep : Nat} {st : List (PyData × Nat)} {ss : List PyData} {s : PyData} (h : isOut s kind = false) (m : s ∈ ss) : good kind many (st ++ [(.tuple ss, dep)]) = false := by
  unfold good
  rw [tot_append, tot_one]
  show okN many (addO (tot kind st) (bodyN kind (5 - dep) (.tuple ss))) = false
  have e : bodyN kind (5 - dep) (.tuple ss) = none := by
    cases 5 - dep with
    | zero =>
      cases ss with
      | nil => cases m
      | cons _ _ => rfl
    | succ r => rw [bodyN_tup, sumO_none h m]
  rw [e, addO_none]
  rfl
def pushes (dep : Nat) (ss : List PyData) : List (PyData × Nat) := ss.flatMap fun s => (bodsOf s).map fun b => (b, dep + 1)
theorem sumO_all {kind : Str} {r dep : Nat} (hr : 5 - (dep + 1) = r) : ∀ {ss : List PyData}, (∀ s ∈ ss, isOut s kind = true) → sumO (ss.map (stN kind r)) = addO (some ss.length) (tot kind (pushes dep ss))
  | [], _ => rfl
  | s :: t, h => by
    have ih := sumO_all hr (ss := t) (fun x m => h x (List.mem_cons_of_mem _ m))
    simp only [List.map_cons, sumO]
    rw [ih]
    have e : stN kind r s = addO (some 1) (sumO ((bodsOf s).map (bodyN kind r))) := by unfold stN; rw [if_pos (h s (by simp))]
    have e2 : tot kind (pushes dep (s :: t)) = addO (sumO ((bodsOf s).map (bodyN kind r))) (tot kind (pushes dep t)) := by
      unfold pushes
      rw [List.flatMap_cons, tot_append]
      congr 1
      unfold tot
      rw [List.map_map]
      congr 2
      funext b
      show bodyN kind (5 - (dep + 1)) b = _
      rw [hr]
    rw [e, e2]
    cases sumO ((bodsOf s).map (bodyN kind r)) with
    | none => simp [addO, none_addO]
    | some a =>
      cases tot kind (pushes dep t) with
      | none => simp [addO]
      | some b => simp only [addO, List.length_cons]; congr 1; omega
theorem good_step {kind : Str} {many dep : Nat} {st : List (PyData × Nat)} {ss : List PyData} (hd : dep ≤ 5) (h4 : 0 < ss.length → dep ≤ 4) (h : ∀ s ∈ ss, isOut s kind = true) :
    good kind (many + ss.length) (st ++ pushes dep ss) = good kind many (st ++ [(.tuple ss, dep)]) := by
  unfold good
  rw [tot_append, tot_append, tot_one]
  show _ = okN many (addO (tot kind st) (bodyN kind (5 - dep) (.tuple ss)))
  have e : bodyN kind (5 - dep) (.tuple ss) = addO (some ss.length) (tot kind (pushes dep ss)) := by
    by_cases c : dep ≤ 4
    · have e1 : 5 - dep = (5 - (dep + 1)) + 1 := by omega
      rw [e1, bodyN_tup, sumO_all (dep := dep) rfl h]
    · have z : ss = [] := by
        cases ss with
        | nil => rfl
        | cons _ _ => exact absurd (h4 (by simp)) c
      subst z
      have e1 : 5 - dep = 0 := by omega
      rw [e1]
      rfl
  rw [e, ← addO_assoc, addO_comm (tot kind st) (some ss.length), addO_assoc, okN_add]
/-! ### a measure -/
mutual
def sz : PyData → Nat
  | .tuple xs => 1 + szAll xs
  | .list xs => 1 + szAll xs
  | .none | .bool _ | .int _ | .str _ | .dict _ => 1
def szAll : List PyData → Nat
  | [] => 0
  | x :: xs => sz x + szAll xs
end
def tsz : List (PyData × Nat) → Nat
  | [] => 0
  | p :: r => sz p.1 + tsz r
theorem tsz_append : ∀ a b : List (PyData × Nat), tsz (a ++ b) = tsz a + tsz b
  | [], b => by simp [tsz]
  | x :: r, b => by rw [List.cons_append]; simp only [tsz]; rw [tsz_append r b]; omega
theorem tsz_map (dep : Nat) : ∀ bs : List PyData, tsz (bs.map fun b => (b, dep)) = szAll bs
  | [] => rfl
  | x :: r => by simp only [List.map_cons, tsz, szAll]; rw [tsz_map dep r]
theorem szAll_drop : ∀ (n : Nat) (bs : List PyData), szAll (bs.drop n) ≤ szAll bs
  | 0, bs => Nat.le_refl _
  | n + 1, [] => Nat.le_refl _
  | n + 1, x :: r => by
    rw [List.drop_succ_cons]
    have := szAll_drop n r
    simp only [szAll]
    omega
theorem bods_sz (s : PyData) : szAll (bodsOf s) ≤ sz s := by
  match s with
  | .tuple (.str z :: ps) =>
    show szAll (if z = "if" ∨ z = "while" then ps.drop 1 else []) ≤ _
    simp only [sz, szAll]
    split
    · have := szAll_drop 1 ps
      omega
    · simp [szAll]
  | .tuple [] => exact Nat.zero_le _
  | .tuple (.none :: _) => exact Nat.zero_le _
  | .tuple (.bool _ :: _) => exact Nat.zero_le _
  | .tuple (.int _ :: _) => exact Nat.zero_le _
  | .tuple (.list _ :: _) => exact Nat.zero_le _
  | .tuple (.tuple _ :: _) => exact Nat.zero_le _
  | .tuple (.dict _ :: _) => exact Nat.zero_le _
  | .none => exact Nat.zero_le _
  | .bool _ => exact Nat.zero_le _
  | .int _ => exact Nat.zero_le _
  | .str _ => exact Nat.zero_le _
  | .list _ => exact Nat.zero_le _
  | .dict _ => exact Nat.zero_le _
theorem pushes_sz (dep : Nat) : ∀ ss : List PyData, tsz (pushes dep ss) ≤ szAll ss
  | [] => Nat.le_refl _
  | s :: t => by
    have e : pushes dep (s :: t) = (bodsOf s).map (fun b => (b, dep + 1)) ++ pushes dep t := by unfold pushes; rw [List.flatMap_cons]
    rw [e, tsz_append, tsz_map]
    have h1 := bods_sz s
    have h2 := pushes_sz dep t
    simp only [szAll]
    omega
theorem out_word {s : PyData} {kind : Str} (h : isOut s kind = true) : ∃ z ps, s = .tuple (.str z :: ps) := by
  cases hw : wordOf s with
  | some z => obtain ⟨ps, e⟩ := word_inv hw; exact ⟨z, ps, e⟩
  | none =>
    rw [out_none hw] at h
    have : rolesOf (wordOf s) kind = none := by rw [hw]; rfl
    rw [plain_none this] at h
    cases h
theorem bods_short {s : PyData} {kind : Str} (h : isOut s kind = true) : (bodsOf s).length ≤ 2 := by
  obtain ⟨z, ps, rfl⟩ := out_word h
  show (if z = "if" ∨ z = "while" then ps.drop 1 else []).length ≤ 2
  split
  · rename_i c
    rcases c with rfl | rfl
    · rw [out_if] at h
      match ps, h with
      | [_, _, _], _ => simp
    · rw [out_while] at h
      match ps, h with
      | [_, _], _ => simp
  · decide
theorem pushes_len {kind : Str} (dep : Nat) : ∀ {ss : List PyData}, (∀ s ∈ ss, isOut s kind = true) → (pushes dep ss).length ≤ 2 * ss.length
  | [], _ => Nat.le_refl _
  | s :: t, h => by
    have e : pushes dep (s :: t) = (bodsOf s).map (fun b => (b, dep + 1)) ++ pushes dep t := by unfold pushes; rw [List.flatMap_cons]
    rw [e, List.length_append, List.length_map, List.length_cons]
    have h1 := bods_short (h s (by simp))
    have h2 := pushes_len dep (ss := t) (fun x m => h x (List.mem_cons_of_mem _ m))
    omega
theorem pushes_snoc (dep : Nat) (a : List PyData) (s : PyData) : pushes dep (a ++ [s]) = pushes dep a ++ (bodsOf s).map fun b => (b, dep + 1) := by
  unfold pushes
  rw [List.flatMap_append, List.flatMap_cons, List.flatMap_nil, List.append_nil]
theorem while_m {c : TT} {tb : TS} {D : Ends} {σ : L2.St} {H : Hp} (Pv : Nat → L2.St → Hp → Prop) {m0 : Nat} (h0 : Pv m0 σ H)
    (hs : ∀ m σ H, Pv m σ H → c σ H fun b H1 => if b = true then tb { D with nx := fun σ' H' => ∃ m', m' < m ∧ Pv m' σ' H', ct := fun σ' H' => ∃ m', m' < m ∧ Pv m' σ' H', bk := D.nx } σ H1 else D.nx σ H1)
    (mono : ∀ σ H Q Q', (∀ b H1, Q b H1 → Q' b H1) → c σ H Q → c σ H Q') : tWhile c tb D σ H := by
  refine ⟨Pv, ⟨_, h0⟩, ?_⟩
  intro m σ H p
  refine mono σ H _ _ (fun b H1 q => ?_) (hs m σ H p)
  cases b with
  | true => exact ⟨_, fun σ' H' p' => p', q⟩
  | false => exact q
theorem seq_while {c : TT} {tb u : TS} {D : Ends} {σ : L2.St} {H : Hp} (h : tWhile c tb { D with nx := u D } σ H) : tSeq (tWhile c tb) u D σ H := h
/-- the things on the pile: pairs (body, depth) -/
def Itm (K : PySem.W.Frag) (H0 H : Hp) (x : V) (p : PyData × Nat) : Prop := ∃ (t : Addr) (v : V), x = .ref t ∧ H t = some (.tup [v, .int (p.2 : Nat)]) ∧ Dp K H0 v p.1 ∧ Lay p.1 ∧ p.2 ≤ 5
inductive Items (K : PySem.W.Frag) (H0 H : Hp) : List V → List (PyData × Nat) → Prop
  | nil : Items K H0 H [] []
  | cons {x : V} {xs : List V} {p : PyData × Nat} {ps : List (PyData × Nat)} : Itm K H0 H x p → Items K H0 H xs ps → Items K H0 H (x :: xs) (p :: ps)
section
variable {K : PySem.W.Frag} {H0 H H' : Hp}
theorem Items.len : ∀ {xs : List V} {ps : List (PyData × Nat)}, Items K H0 H xs ps → xs.length = ps.length
  | _, _, .nil => rfl
  | _, _, .cons _ t => by rw [List.length_cons, List.length_cons, t.len]
theorem Items.append : ∀ {xs ys : List V} {ps qs : List (PyData × Nat)}, Items K H0 H xs ps → Items K H0 H ys qs → Items K H0 H (xs ++ ys) (ps ++ qs)
  | _, _, _, _, .nil, h => h
  | _, _, _, _, .cons i t, h => .cons i (t.append h)
theorem Items.snoc : ∀ (xs : List V) {y : V} {ps : List (PyData × Nat)}, Items K H0 H (xs ++ [y]) ps → ∃ st p, ps = st ++ [p] ∧ Items K H0 H xs st ∧ Itm K H0 H y p
  | [], _, _, .cons i .nil => ⟨[], _, rfl, .nil, i⟩
  | x :: r, _, _, .cons i t => by
    obtain ⟨st, p, e, h1, h2⟩ := Items.snoc r t
    exact ⟨_ :: st, p, by rw [e]; rfl, .cons i h1, h2⟩
theorem Itm.keep {l : Addr} {x : V} {p : PyData × Nat} (i : Itm K H0 H x p) (e : ∀ b o, b ≠ l → H b = some o → H' b = some o) {ys : List V} (hl : H l = some (.lst ys)) : Itm K H0 H' x p := by
  obtain ⟨t, v, e1, e2, r⟩ := i
  exact ⟨t, v, e1, e t _ (ne_of e2 hl (by intro z; cases z)) e2, r⟩
theorem Items.keep {l : Addr} {ys : List V} (e : ∀ b o, b ≠ l → H b = some o → H' b = some o) (hl : H l = some (.lst ys)) : ∀ {xs : List V} {ps : List (PyData × Nat)}, Items K H0 H xs ps → Items K H0 H' xs ps
  | _, _, .nil => .nil
  | _, _, .cons i t => .cons (i.keep e hl) (t.keep e hl)
theorem Items.mono (e : Same H H') : ∀ {xs : List V} {ps : List (PyData × Nat)}, Items K H0 H xs ps → Items K H0 H' xs ps
  | _, _, .nil => .nil
  | _, _, .cons ⟨t, v, e1, e2, r⟩ s => .cons ⟨t, v, e1, e _ _ e2, r⟩ (s.mono e)
end
def spProg (K : PySem.W.Frag) : Sp := fun vs H Q _ => ∃ (v : V) (d : PyData), vs = [v] ∧ Dp K H v d ∧ Lay d ∧ ∀ H', Same H H' → Q (.bl (isProg d)) H'
section
variable {P : Program} {w : World} {K : PySem.W.Frag} {mg : Str → Option Value} {base : Heap}
theorem scProg : FnScope ["thing", "kind", "many", "pending", "body", "depth", "statement", "inner"] ["thing"] (defScope sProg) := ⟨rfl, rfl, rfl, by decide +kernel, rfl, by decide +kernel, by decide +kernel⟩
theorem dp_two {H : Hp} {xs : List V} {ds : List PyData} (h : DpAll K H xs ds) (l : ds.length = 2) : ∃ x0 x1 d0 d1, xs = [x0, x1] ∧ ds = [d0, d1] ∧ Dp K H x0 d0 ∧ Dp K H x1 d1 := by
  match ds, l, h with
  | [d0, d1], _, .cons (v := x0) h0 (.cons (v := x1) h1 .nil) => exact ⟨x0, x1, d0, d1, rfl, rfl, h0, h1⟩
theorem take_snoc {α : Type} {l : List α} {j : Nat} {x : α} (h : l[j]? = some x) : l.take (j + 1) = l.take j ++ [x] := by
  rw [List.take_add_one, h]
  rfl
theorem bods_lay {s : PyData} (h : Lay s) : ∀ b ∈ bodsOf s, Lay b := by
  intro b m
  match s, h, m with
  | .tuple (.str z :: ps), h, m =>
    have m' : b ∈ (if z = "if" ∨ z = "while" then ps.drop 1 else []) := m
    split at m'
    · exact lay_mem (lay_tup h) b (List.mem_cons_of_mem _ (List.mem_of_mem_drop m'))
    · cases m'
theorem loop_ok {D : Ends} {H H1 : Hp} {k : Str} {n dep : Nat} {a0 pl ab : Addr} {xs ys : List V} {ss : List PyData} {st : List (PyData × Nat)} {s6 : Option V} (sH1 : Same H H1) (nplH : H pl = none) (hp1 : H1 pl = some (.lst ys)) (it1 : Items K H H1 ys st)
    (hab : SqT K H ab xs) (hss : DpAll K H xs ss) (lay : PyData.canLayAll0 ss = true) (hdep : dep ≤ 5) (h4 : 0 < ss.length → dep ≤ 4) (h24 : ss.length ≤ 24) (hst : st.length ≤ 100)
    (hF : ∀ s, s ∈ ss → isOut s k = false → ∀ H', Same H H' → D.rt (.bl false) H')
    (hN : ∀ H' ys' s6, (∀ s ∈ ss, isOut s k = true) → Same H H' → H' pl = some (.lst ys') → Items K H H' ys' (st ++ pushes dep ss) →
      D.nx [some (.ref a0), some (.str k), some (.int (n : Nat)), some (.ref pl), some (.ref ab), some (.int (dep : Nat)), s6, none] H') :
    tFor (iTup K (tVar 4)) (gName 6) (tSeq (tIfS (tNot (tB (tCall (sp2 isOut K) [] E0 (tCons (tVar 6) (tCons (tVar 1) tNil))))) (tRet (tC (.bl false))) tNext)
      (tDrop (tBM K "list" rExtend (tVar 3) (tCons (tLc (iTup K (tCall (spBods K) [] E0 (tCons (tVar 6) tNil))) (gName 7) tYes (tTup (tCons (tVar 7) (tCons (tOp (rI0 fun i j => V.int (i + j)) (tVar 5) (tC (V.int 1))) tNil))) [7]) tNil))))
      D [some (.ref a0), some (.str k), some (.int (n : Nat)), some (.ref pl), some (.ref ab), some (.int (dep : Nat)), s6, none] H1 := by
  have hl := dpAll_len hss
  refine ⟨_, rfl, ab, rfl, ⟨_, Same.tup sH1 hab⟩, for_tup (K := K) (a := ab) (xs := xs)
    (fun i σ H' => ∃ (ys' : List V) (s6 : Option V), σ = [some (.ref a0), some (.str k), some (.int (n : Nat)), some (.ref pl), some (.ref ab), some (.int (dep : Nat)), s6, none] ∧ (∀ s ∈ ss.take i, isOut s k = true) ∧ Same H H' ∧ H' pl = some (.lst ys') ∧
      Items K H H' ys' (st ++ pushes dep (ss.take i))) ⟨ys, s6, rfl, by simp, sH1, hp1, by simpa [pushes] using it1⟩ (fun i σ H' _ ⟨_, _, _, _, s1, _⟩ => Same.tup s1 hab) ?_ ?_⟩
  · rintro i x σ H' hx ⟨ys', s6', rfl, hall, s1, hp', it'⟩
    obtain ⟨si, hsi, hxd⟩ := dpAll_get hss hx
    have hil : i < ss.length := (List.getElem?_eq_some_iff.mp hsi).1
    have msi : si ∈ ss := List.mem_of_getElem? hsi
    have lsi : Lay si := lay_mem lay _ msi
    refine ⟨_, rfl, _, rfl, x, si, k, rfl, dp_mono s1 _ _ hxd, lsi, fun H2 s2 => ⟨_, rfl, ?_⟩⟩
    cases ho : isOut si k with
    | false => exact iteT (hF si msi ho H2 (s1.trans s2))
    | true =>
      refine iteF ?_
      obtain ⟨z, ps, rfl⟩ := out_word ho
      have h4' := h4 (by omega)
      refine ⟨_, rfl, .inl ⟨rfl, _, SqL.of (s2 _ _ hp')⟩, _, rfl, x, z, ps, H, rfl, s1.trans s2, hxd, fun H3 b zs s3 hb hz => ⟨b, rfl, ⟨_, hb⟩, fun Dn nD => ?_⟩⟩
      refine lc_tup (K := K) (a := b) (xs := zs) (fun j H4 => Same H3 H4 ∧ ∃ acc, H4 Dn = some (.lst acc) ∧ Items K H H4 acc (((bodsOf (.tuple (.str z :: ps))).take j).map fun b => (b, dep + 1)))
        ⟨same_upd (Same.refl _) nD _, [], upd_same, .nil⟩ (fun j H4 _ P => Same.tup P.1 hb) ?_ ?_
      · rintro j y H4 hy ⟨s4, acc, eD, itA⟩
        obtain ⟨bj, hbj, hyd⟩ := dpAll_get hz hy
        refine ⟨rfl, ?_⟩
        refine ⟨_, rfl, _, rfl, _, _, rfl, rfl, (by show 2 ≤ sizeLine; decide), fun T nT => ⟨acc, ?_, ?_, ?_, _, upd_same, ?_⟩⟩
        · rw [upd_ne (ne_of_none eD nT)]
          exact eD
        · have e := itA.len
          rw [List.length_map, List.length_take] at e
          have e2 := bods_short ho
          exact Nat.lt_of_le_of_lt (by omega : _ ≤ 1000) (by decide)
        · exact same_upd (s4.trans (same_new nT _)) nD _
        · rw [take_snoc hbj, List.map_append]
          have nTD : T ≠ Dn := fun e => by rw [← e, nT] at eD; cases eD
          have g : ∀ b o, b ≠ Dn → (upd H4 T (.tup [y, .int ((dep : Int) + 1)])) b = some o → (upd (upd H4 T (.tup [y, .int ((dep : Int) + 1)])) Dn (.lst (acc ++ [.ref T]))) b = some o := fun b o n e => by rw [upd_ne n]; exact e
          have eD' : (upd H4 T (.tup [y, .int ((dep : Int) + 1)])) Dn = some (.lst acc) := by rw [upd_ne (ne_of_none eD nT)]; exact eD
          refine ((itA.mono (same_new nT _)).keep g eD').append (.cons ⟨T, y, rfl, ?_, hyd, bods_lay lsi _ (List.mem_of_getElem? hbj), by show dep + 1 ≤ 5; omega⟩ .nil)
          rw [upd_ne nTD, upd_same]
          rfl
      · rintro H4 ⟨s4, acc, eD, itA⟩
        have hzl := dpAll_len hz
        rw [hzl, List.take_length] at itA
        have s24 := s2.trans (s3.trans s4)
        have hp4 := s24 _ _ hp'
        have nDp : Dn ≠ pl := fun e => by
          have := (s2.trans s3) _ _ hp'
          rw [← e, nD] at this
          cases this
        refine ⟨pl, Dn, ys', acc, rfl, rfl, hp4, eD, ?_, ys' ++ acc, _, rfl, ?_, same_upd (s1.trans s24) nplH _, upd_same, ?_⟩
        · have e1 := it'.len
          have e2 := itA.len
          have e3 := bods_short ho
          have e4 := pushes_len (kind := k) dep hall
          rw [List.length_append] at e1
          rw [List.length_map] at e2
          rw [List.length_take] at e4
          exact Nat.le_of_lt (Nat.lt_of_le_of_lt (by omega : _ ≤ 1000) (by decide))
        · intro s ms
          rw [take_snoc hsi] at ms
          rcases List.mem_append.mp ms with m | m
          · exact hall s m
          · rw [List.mem_singleton.mp m]
            exact ho
        · rw [take_snoc hsi, pushes_snoc, ← List.append_assoc]
          have g : ∀ b o, b ≠ pl → H4 b = some o → (upd H4 pl (.lst (ys' ++ acc))) b = some o := fun b o n e => by rw [upd_ne n]; exact e
          exact ((it'.mono s24).keep g hp4).append (itA.keep g hp4)
  · rintro σ H' ⟨ys', s6', rfl, hall, s1, hp', it'⟩
    rw [hl, List.take_length] at hall it'
    exact hN H' ys' s6' hall s1 hp' it'
theorem prog_no {d : PyData} (h : ∀ k b, d ≠ .tuple [.str k, b]) : isProg d = false := by
  unfold isProg
  split
  · rename_i k b; exact absurd rfl (h k b)
  · rfl
theorem ok_prog {f : Addr} {fd : FuncData} (F : Fun K "is_program" "is_program" sProg f fd) (T : Gs K mg) (CO : Cal P w K mg base 6 "is_outside_of_statement" ["thing", "kind"] (sp2 isOut K))
    (CB : Cal P w K mg base 1 "bodies_of" ["statement"] (spBods K)) : FnOk P w K mg base CX0 7 f fd ["thing"] (spProg K) := by
  refine F.ok scProg (fun vs H Q E h => ?_) (fun cdv A outer s H vs Q E hr h => ?_)
  · obtain ⟨v, d, rfl, _⟩ := h
    rfl
  obtain ⟨v, d, rfl, hd, ld, q⟩ := h
  have hr1 : Room 1 _ := hr.mono (by decide)
  refine ⟨_, pss_cons (ps_if (PW.pt (pw_or (pt_not (pt_val (pe_callB call_isi (by rfl) T.isi (by decide +kernel) (pa_cons (pv 0) (pa_cons (pe_bltn (v := .ty "tuple") (by rfl) T.tup (by decide +kernel) rfl) pa_nil)))))
      (pw_or (pt_cmpR op_ne (pe_callB call_len_seq (by rfl) T.len PySem.boot_len (pa_cons (pv 0) pa_nil)) pe_int (nomark _))
      (pw_or1 (pt_cmpR (op_notInS (hu65 hr)) (pe_ix ix_tup (pv 0) pe_int (fun _ _ => rfl)) (pe_gref rfl T.mK) (by rfl)))))) (pss_one (ps_ret pe_bl)) pss_nil)
    (pss_cons (ps_set (i := 1) scProg.nd rfl (.inl rfl) (pe_ix ix_tup (pv 0) pe_int (fun _ _ => rfl)))
    (pss_cons (ps_set (i := 2) scProg.nd rfl (.inl rfl) pe_int)
    (pss_cons (ps_set (i := 3) scProg.nd rfl (.inl rfl) (pe_lst (pa_cons (pe_tup (pa_cons (pe_ix ix_tup (pv 0) pe_int (fun _ _ => rfl)) (pa_cons pe_int pa_nil))) pa_nil)))
    (pss_cons (ps_while PassesOwn.never (pt_truth (pv 3) (by intro _; rfl))
      (pss_cons (ps_asg (pe_bm0 PySem.F.plainAttrs_list PySem.F.slot_list_pop PySem.F.type_list_pop mt_pop (pv 3)) (pg_tup (by rfl) (pgs_cons (pg_name (i := 4) scProg.nd rfl (.inl rfl)) (pgs_cons (pg_name (i := 5) scProg.nd rfl (.inr rfl)) pgs_nil))))
      (pss_cons (ps_if (pt_not (pt_val (pe_callB call_isi (by rfl) T.isi (by decide +kernel) (pa_cons (pv 4) (pa_cons (pe_bltn (v := .ty "tuple") (by rfl) T.tup (by decide +kernel) rfl) pa_nil))))) (pss_one (ps_ret pe_bl)) pss_nil)
      (pss_cons (ps_aug (i := 2) scProg.nd rfl (.inl rfl) (pe_callB call_len_seq (by rfl) T.len PySem.boot_len (pa_cons (pv 4) pa_nil)) ip_add)
      (pss_cons (ps_if (PW.pt (pw_or (pt_cmpR op_gt (pv 2) (pe_gint rfl T.mS) (nomark _)) (pw_or1 (PW.pt (pw_and (pt_cmpR op_gt (pe_callB call_len_seq (by rfl) T.len PySem.boot_len (pa_cons (pv 4) pa_nil)) pe_int (nomark _)) (pw_and1 (pt_cmpR op_gt (pv 5) (pe_gint rfl T.mD) (nomark _)))))))) (pss_one (ps_ret pe_bl)) pss_nil)
      (pss_one (ps_for PassesOwn.never rfl (pi_tup (pv 4)) (pg_name (i := 6) scProg.nd rfl (.inl rfl))
        (pss_cons (ps_if (pt_not (pt_val (pe_call CO.G hr rfl CO.m CO.kp CO.b .nil pass0 (pa_cons (pv 6) (pa_cons (pv 1) pa_nil))))) (pss_one (ps_ret pe_bl)) pss_nil)
        (pss_one (ps_expr (pe_bm PySem.F.plainAttrs_list PySem.F.slot_list_extend PySem.F.type_list_extend mt_extend (pv 3) (pa_cons
          (pe_lc (own := [("inner", 7)]) (g := gName 7) (tt := tYes) rfl scProg.nd (pi_tup (pe_call CB.G hr1 rfl CB.m CB.kp CB.b .nil pass0 (pa_cons (pv 6) pa_nil)))
            (blkOk_by (N := ["thing", "kind", "many", "pending", "body", "depth", "statement", "inner"]) (sc := defScope sProg) (by decide +kernel))
            (fun _ _ _ _ _ => pg_name (i := 7) scProg.nd rfl (.inl rfl)) (fun _ _ _ _ _ => pts_nil)
            (fun _ _ _ _ _ => pe_tup (pa_cons (pv 7) (pa_cons (pe_op op_add (pv 5) pe_int) pa_nil)))) pa_nil))))))))))))
    (pss_one (ps_ret pe_bl)))))), ?_⟩
  refine ⟨_, rfl, v, .ty "tuple", _, _, _, rfl, .ty _, dp_ty hd, kit_isT d (by simp) (dp_nd hd), _, rfl, ?_⟩
  cases ht : isT d "tuple" with
  | false =>
    refine iteT (iteT ?_)
    rw [prog_no (fun k b e => by rw [e] at ht; cases ht)] at q
    exact q H (Same.refl H)
  | true =>
    obtain ⟨ds, rfl⟩ := isT_tup ht
    obtain ⟨a0, xs, rfl, h0, ha⟩ := dp_tup_inv hd
    have hl := dpAll_len ha
    refine iteF ⟨_, rfl, a0, xs, rfl, .inr h0, rfl, _, rfl, ?_⟩
    by_cases h2 : ds.length = 2
    · refine iteNS (show V.int ((xs.length : Nat) : Int) = V.int 2 by rw [hl, h2]; rfl) ?_
      obtain ⟨x0, x1, d0, d1, rfl, rfl, hx0, hx1⟩ := dp_two ha h2
      have lm := lay_mem (lay_tup ld)
      refine ⟨_, rfl, a0, _, _, _, rfl, rfl, h0, atI_nat (j := 0) rfl, d0, kinds, T.aK, rfl, hx0, lm _ (by simp), T.kK _, by decide +kernel, _, rfl, ?_⟩
      cases hk : inS d0 kinds with
      | false =>
        refine iteT ?_
        have e : isProg (.tuple [d0, d1]) = false := by
          cases d0 with
          | str k => show (inS (.str k) kinds && _) = false; rw [hk]; rfl
          | _ => rfl
        rw [e] at q
        exact q H (Same.refl H)
      | true =>
        refine iteF ?_
        obtain ⟨k, rfl⟩ : ∃ k, d0 = .str k := by
          cases d0 with
          | str k => exact ⟨k, rfl⟩
          | _ => cases hk
        cases hx0
        refine ⟨_, rfl, a0, _, _, _, rfl, rfl, h0, atI_nat (j := 0) rfl, ?_⟩
        refine ⟨_, rfl, a0, _, _, _, rfl, rfl, h0, atI_nat (j := 1) rfl, (by show 2 ≤ sizeLine; decide), fun t nt => ⟨(by show 1 ≤ sizeLine; decide), fun pl npl => ?_⟩⟩
        have eP : good k 0 [(d1, 1)] = isProg (.tuple [.str k, d1]) := by
          show okN 0 (tot k [(d1, 1)]) = (inS (.str k) kinds && okN 0 (bodyN k 4 d1))
          rw [tot_one, hk]
          rfl
        have npt : pl ≠ t := fun e => by rw [e, upd_same] at npl; cases npl
        have nplH : H pl = none := by rw [upd_ne npt] at npl; exact npl
        have sH0 : Same H (upd (upd H t (.tup [x1, .int 1])) pl (.lst [.ref t])) := same_upd (same_new nt _) nplH _
        dsimp only [gName]
        refine seq_while ?_
        refine while_m (fun m σ H' => ∃ (many : Nat) (stk : List (PyData × Nat)) (ys : List V) (s4 s5 s6 : Option V), σ = [some (.ref a0), some (.str k), some (.int (many : Nat)), some (.ref pl), s4, s5, s6, none] ∧
            Same H H' ∧ H' pl = some (.lst ys) ∧ Items K H H' ys stk ∧ good k many stk = isProg (.tuple [.str k, d1]) ∧ many ≤ 24 ∧ stk.length ≤ 1 + 2 * many ∧ m = tsz stk)
          (m0 := tsz [(d1, 1)]) ⟨0, [(d1, 1)], [.ref t], none, none, none, rfl, sH0, upd_same, .cons ⟨t, x1, rfl, by rw [upd_ne npt.symm, upd_same]; rfl, hx1, lm _ (by simp), (by show 1 ≤ 5; decide)⟩ .nil, eP, by decide, Nat.le_refl 1, rfl⟩ ?_ ?_
        · rintro m σ H' ⟨many, stk, ys, s4, s5, s6, rfl, sH, hp, it, hg, hm, hlen, rfl⟩
          refine ⟨_, rfl, !ys.isEmpty, .inl ⟨ys, SqL.of hp, rfl⟩, ?_⟩
          rcases List.eq_nil_or_concat ys with e0 | ⟨ys', y, e0⟩
          · subst e0
            refine iteF ?_
            cases it
            have e : isProg (.tuple [.str k, d1]) = true := by
              rw [← hg]
              exact decide_eq_true hm
            rw [e] at q
            exact q H' sH
          rw [List.concat_eq_append] at e0
          subst e0
          obtain ⟨st, p, e0, it', ⟨t', v, e1, ht', hdv, hlay, h5⟩⟩ := Items.snoc ys' it
          subst e0 e1
          obtain ⟨b, dep⟩ := p
          refine ite2 (fun _ => ?_) (fun c => absurd (by simp) c)
          have ntp : t' ≠ pl := ne_of ht' hp (by intro z; cases z)
          refine ⟨_, rfl, .inl ⟨rfl, _, SqL.of hp⟩, pl, _, V.ref t', rfl, rfl, hp, (by simp), ?_⟩
          rw [show (ys' ++ [V.ref t']).dropLast = ys' by simp]
          refine ⟨t', _, rfl, SqT.of (by rw [upd_ne ntp]; exact ht'), rfl, _, _, rfl, _, _, rfl, rfl, ?_⟩
          have sH1 : Same H (upd H' pl (.lst ys')) := same_upd sH nplH _
          have kp1 : ∀ b o, b ≠ pl → H' b = some o → (upd H' pl (.lst ys')) b = some o := fun b o n e => by rw [upd_ne n]; exact e
          have it1 := it'.keep kp1 hp
          have hp1 : (upd H' pl (.lst ys')) pl = some (.lst ys') := upd_same
          have hdv1 : Dp K (upd H' pl (.lst ys')) v b := dp_mono sH1 _ _ hdv
          generalize upd H' pl (.lst ys') = H1 at sH1 it1 hp1 hdv1 ⊢
          refine ⟨_, rfl, v, .ty "tuple", _, _, _, rfl, .ty _, dp_ty hdv1, kit_isT b (by simp) (dp_nd hdv), _, rfl, ?_⟩
          cases hb : isT b "tuple" with
          | false =>
            refine iteT ?_
            rw [good_no hb] at hg
            rw [← hg] at q
            exact q H1 sH1
          | true =>
            refine iteF ?_
            obtain ⟨ss, rfl⟩ := isT_tup hb
            obtain ⟨ab, xs, rfl, hab, hss⟩ := dp_tup_inv hdv
            have hab1 : SqT K H1 ab xs := Same.tup sH1 hab
            have hl := dpAll_len hss
            refine ⟨_, rfl, _, rfl, ab, xs, rfl, .inr hab1, _, _, rfl, rfl, ?_⟩
            have lss : PyData.canLayAll0 ss = true := lay_tup hlay
            have hst : st.length ≤ 100 := by rw [List.length_append] at hlen; simp at hlen; omega
            have hover : (24 < many + ss.length ∨ (0 < ss.length ∧ 4 < dep)) → ∀ H', Same H H' → Q (.bl false) H' := fun c H2 s2 => by
              have e := good_over (kind := k) (st := st) c
              have e2 : isProg (.tuple [.str k, d1]) = false := hg.symm.trans e
              rw [e2] at q
              exact q H2 s2
            have hF : ∀ s, s ∈ ss → isOut s k = false → ∀ H', Same H H' → Q (.bl false) H' := fun s ms ho H2 s2 => by
              have e2 : isProg (.tuple [.str k, d1]) = false := hg.symm.trans (good_bad ho ms)
              rw [e2] at q
              exact q H2 s2
            have hN : many + ss.length ≤ 24 → (0 < ss.length → dep ≤ 4) → ∀ (H2 : Hp) (ys2 : List V) (s6 : Option V), (∀ s ∈ ss, isOut s k = true) → Same H H2 → H2 pl = some (.lst ys2) → Items K H H2 ys2 (st ++ pushes dep ss) →
                ∃ m', m' < tsz (st ++ [(.tuple ss, dep)]) ∧ ∃ (many' : Nat) (stk : List (PyData × Nat)) (ys : List V) (s4 s5 s6' : Option V), ([some (.ref a0), some (.str k), some (.int ((many + xs.length : Nat) : Int)), some (.ref pl), some (.ref ab), some (.int (dep : Nat)), s6, none] : L2.St) = [some (.ref a0), some (.str k), some (.int (many' : Nat)), some (.ref pl), s4, s5, s6', none] ∧
                Same H H2 ∧ H2 pl = some (.lst ys) ∧ Items K H H2 ys stk ∧ good k many' stk = isProg (.tuple [.str k, d1]) ∧ many' ≤ 24 ∧ stk.length ≤ 1 + 2 * many' ∧ m' = tsz stk := by
              intro h24 h4 H2 ys2 s6 hall s2 hp2 it2
              refine ⟨tsz (st ++ pushes dep ss), ?_, many + xs.length, st ++ pushes dep ss, ys2, _, _, _, rfl, s2, hp2, it2, ?_, by omega, ?_, rfl⟩
              · rw [tsz_append, tsz_append]
                have e1 := pushes_sz dep ss
                have e2 : tsz [(PyData.tuple ss, dep)] = 1 + szAll ss := by simp [tsz, sz]
                omega
              · rw [hl, good_step h5 h4 hall]
                exact hg
              · have e1 := pushes_len (kind := k) dep hall
                rw [List.length_append] at hlen ⊢
                simp only [List.length_cons, List.length_nil] at hlen
                omega
            refine ⟨_, rfl, _, _, rfl, rfl, _, rfl, ?_⟩
            by_cases c24 : (24 : Int) < (many : Nat) + (xs.length : Nat)
            · rw [decide_eq_true c24]
              exact iteT (iteT (hover (.inl (by omega)) H1 sH1))
            rw [decide_eq_false c24]
            refine iteF ⟨_, rfl, ab, xs, rfl, .inr hab1, _, _, rfl, rfl, _, rfl, ?_⟩
            by_cases c0 : (0 : Int) < (xs.length : Nat)
            · rw [decide_eq_true c0]
              refine iteT ⟨_, rfl, _, _, rfl, rfl, _, rfl, ?_⟩
              by_cases c4 : (4 : Int) < (dep : Nat)
              · rw [decide_eq_true (show (4 : Int) < (((PyData.tuple ss, dep).snd : Nat) : Int) from c4)]
                exact iteT (hover (.inr ⟨by omega, by omega⟩) H1 sH1)
              · rw [decide_eq_false (show ¬ (4 : Int) < (((PyData.tuple ss, dep).snd : Nat) : Int) from c4)]
                refine iteF ?_
                exact loop_ok (n := many + xs.length) (dep := dep) (s6 := s6) sH1 nplH hp1 it1 hab hss lss h5 (fun _ => by omega) (by omega) hst hF (hN (by omega) (fun _ => by omega))
            · rw [decide_eq_false c0]
              refine iteF (iteF ?_)
              exact loop_ok (n := many + xs.length) (dep := dep) (s6 := s6) sH1 nplH hp1 it1 hab hss lss h5 (fun h => by omega) (by omega) hst hF (hN (by omega) (fun h => by omega))
        · rintro σ H' Q1 Q2 h ⟨v, e, k, t, q⟩
          exact ⟨v, e, k, t, h _ _ q⟩
    · refine ite2 (fun _ => iteT ?_) (fun c => absurd ?_ c)
      · rw [prog_no (fun k b e => h2 (by injection e with e; rw [e]; rfl))] at q
        exact q H (Same.refl H)
      · rw [Bool.not_eq_true', decide_eq_false_iff_not]
        intro z
        have z' : ((xs.length : Nat) : Int) = 2 := by injection z
        omega
end
abbrev sBag : Stmt := top 45
abbrev sDraw : Stmt := top 46
abbrev sLarge : Stmt := top 47
abbrev sSteps : Stmt := top 48
abbrev sTermL : Stmt := top 49
abbrev sCondL : Stmt := top 50
abbrev sSimple : Stmt := top 51
/-! ### the bag: a list of two numbers, drawn from -/
def Bag (H : Hp) (b : Addr) : Prop := ∃ c s : Int, H b = some (.lst [.int c, .int s]) ∧ 0 ≤ c ∧ 0 ≤ s ∧ s < 2147483648
/-- all but b stays -/
def Fr (b : Addr) (H H' : Hp) : Prop := ∀ a o, a ≠ b → H a = some o → H' a = some o
def hide (b : Addr) (H : Hp) : Hp := fun a => if a = b then none else H a
theorem Fr.refl (b : Addr) (H : Hp) : Fr b H H := fun _ _ _ h => h
theorem Fr.trans {b : Addr} {H H1 H2 : Hp} (x : Fr b H H1) (y : Fr b H1 H2) : Fr b H H2 := fun a o n h => y a o n (x a o n h)
theorem Fr.of {b : Addr} {H H' : Hp} (x : Same H H') : Fr b H H' := fun a o _ h => x a o h
theorem Fr.upd {b : Addr} {H : Hp} (o : HO) : Fr b H (upd H b o) := fun a u n h => by rw [upd_ne n]; exact h
theorem hide_same (b : Addr) (H : Hp) : Same (hide b H) H := fun a o h => by
  unfold hide at h
  split at h
  · cases h
  · exact h
theorem hide_mono {b : Addr} {H H' : Hp} (x : Fr b H H') : Same (hide b H) (hide b H') := fun a o h => by
  unfold hide at h ⊢
  split at h
  · cases h
  · rename_i n
    rw [if_neg n]
    exact x a o n h
theorem hide_get {b a : Addr} {H : Hp} {o : HO} (n : a ≠ b) (h : H a = some o) : hide b H a = some o := by
  unfold hide
  rw [if_neg n]
  exact h
theorem Bag.ne {H : Hp} {b p : Addr} (h : Bag H b) (n : H p = none) : b ≠ p := by
  obtain ⟨c, s, e, _⟩ := h
  exact ne_of_none e n
theorem Bag.keep {H H' : Hp} {b : Addr} (h : Bag H b) (s : Same H H') : Bag H' b := by
  obtain ⟨c, t, e, r⟩ := h
  exact ⟨c, t, s _ _ e, r⟩
/-- a datum, apart from the bag -/
abbrev Da (K : PySem.W.Frag) (b : Addr) (H : Hp) (v : V) (d : PyData) : Prop := Dp K (hide b H) v d
theorem Da.fr {K : PySem.W.Frag} {b : Addr} {H H' : Hp} {v : V} {d : PyData} (h : Da K b H v d) (x : Fr b H H') : Da K b H' v d := dp_mono (hide_mono x) _ _ h
theorem Da.dp {K : PySem.W.Frag} {b : Addr} {H : Hp} {v : V} {d : PyData} (h : Da K b H v d) : Dp K H v d := dp_mono (hide_same b H) _ _ h
theorem da_tup {K : PySem.W.Frag} {b p : Addr} {H : Hp} {xs : List V} {ds : List PyData} (n : p ≠ b) (h : H p = some (.tup xs)) (a : DpAll K (hide b H) xs ds) : Da K b H (.ref p) (.tuple ds) := .tup (SqT.of (hide_get n h)) a
def spBag (K : PySem.W.Frag) : Sp := fun vs H Q _ => ∃ (a : Addr) (ns : List Int) (k : Nat), vs = [.ref a, .int (k : Nat)] ∧ SqL K H a (ns.map V.int) ∧ ns.length ≤ 63 ∧ k < 64 ∧ ∀ H' p, Same H H' → H p = none → Bag H' p → Q (.ref p) H'
def spDraw : Sp := fun vs H Q _ => ∃ (b : Addr) (m : Int), vs = [.ref b, .int m] ∧ Bag H b ∧ 0 < m ∧ m < 1073741824 ∧ ∀ H' r, Fr b H H' → Bag H' b → 0 ≤ r → r < m → Q (.int r) H'
def spLarge : Sp := fun vs H Q _ => ∃ (b : Addr) (m : Int), vs = [.ref b, .int m] ∧ Bag H b ∧ 0 < m ∧ ∀ H' r, Fr b H H' → Bag H' b → 0 ≤ r → r < m → Q (.int r) H'
section
variable {P : Program} {w : World} {K : PySem.W.Frag} {mg : Str → Option Value} {base : Heap}
theorem scDraw : FnScope ["_law_bag_here", "_law_many", "_law_found"] ["_law_bag_here", "_law_many"] (defScope sDraw) := ⟨rfl, rfl, rfl, by decide +kernel, rfl, by decide +kernel, by decide +kernel⟩
theorem ok_draw {f : Addr} {fd : FuncData} (F : Fun K "_law_draw" "_law_draw" sDraw f fd) : FnOk P w K mg base CX0 1 f fd ["_law_bag_here", "_law_many"] spDraw := by
  refine F.ok scDraw (fun vs H Q E h => ?_) (fun cdv A outer s H vs Q E hr h => ?_)
  · obtain ⟨b, m, rfl, _⟩ := h
    rfl
  obtain ⟨b, m, rfl, ⟨c, t, hb, c0, t0, t1⟩, m0, m1, q⟩ := h
  refine ⟨_, pss_cons (ps_if (pt_cmpR op_gt (pe_ix ix_list (pv 0) pe_int (fun _ _ => rfl)) pe_int (nomark _))
      (pss_cons (ps_set (i := 2) scDraw.nd rfl (.inl rfl) (pe_op op_mod (pe_ix ix_list (pv 0) pe_int (fun _ _ => rfl)) (pv 1)))
      (pss_cons (ps_asg (pe_op op_fdiv (pe_ix ix_list (pv 0) pe_int (fun _ _ => rfl)) (pv 1)) (pg_sub (pv 0) pe_int set_list)) (pss_one (ps_ret (pv 2))))) pss_nil)
    (pss_cons (ps_asg (pe_op op_mod (pe_op op_mul (pe_ix ix_list (pv 0) pe_int (fun _ _ => rfl)) pe_int) pe_int) (pg_sub (pv 0) pe_int set_list))
    (pss_one (ps_ret (pe_op op_mod (pe_op op_fdiv (pe_op op_mod (pe_op op_mul (pe_ix ix_list (pv 0) pe_int (fun _ _ => rfl)) (pe_op op_add (pe_op op_fdiv (pe_ix ix_list (pv 0) pe_int (fun _ _ => rfl)) pe_int) pe_int)) pe_int) pe_int) (pv 1))))), ?_⟩
  refine ⟨_, rfl, b, _, _, _, rfl, rfl, SqL.of hb, atI_nat (j := 0) rfl, _, _, rfl, rfl, _, rfl, ?_⟩
  by_cases h : (0 : Int) < c
  · rw [decide_eq_true h]
    refine iteT ⟨_, rfl, b, _, _, _, rfl, rfl, SqL.of hb, atI_nat (j := 0) rfl, _, rfl, _, _, rfl, rfl, m0, ?_⟩
    refine ⟨_, rfl, b, _, _, _, rfl, rfl, SqL.of hb, atI_nat (j := 0) rfl, _, rfl, _, _, rfl, rfl, ⟨m0, m1⟩, _, rfl, b, _, _, 0, rfl, rfl, hb, rfl, ?_⟩
    refine ⟨_, rfl, q _ _ (Fr.upd _) ⟨c / m, t, upd_same, Int.ediv_nonneg c0 (by omega), t0, t1⟩ (Int.emod_nonneg _ (by omega)) (Int.emod_lt_of_pos _ m0)⟩
  · rw [decide_eq_false h]
    refine iteF ⟨_, rfl, b, _, _, _, rfl, rfl, SqL.of hb, atI_nat (j := 1) rfl, _, _, rfl, rfl, .inr (by decide), _, _, rfl, rfl, (by show (0 : Int) < 2147483647; decide), _, rfl, b, _, _, 1, rfl, rfl, hb, rfl, ?_⟩
    have n0 : 0 ≤ t * 48271 % 2147483647 := Int.emod_nonneg _ (by decide)
    have n1 : t * 48271 % 2147483647 < 2147483647 := Int.emod_lt_of_pos _ (by decide)
    have hb1 : (upd H b (.lst ([V.int c, V.int t].set 1 (V.int (t * 48271 % 2147483647))))) b = some (.lst [.int c, .int (t * 48271 % 2147483647)]) := upd_same
    have fr : Fr b H (upd H b (.lst ([V.int c, V.int t].set 1 (V.int (t * 48271 % 2147483647))))) := Fr.upd _
    generalize upd H b (.lst ([V.int c, V.int t].set 1 (V.int (t * 48271 % 2147483647)))) = H1 at hb1 fr ⊢
    generalize t * 48271 % 2147483647 = u at n0 n1 hb1 ⊢
    refine ⟨_, rfl, b, _, _, _, rfl, rfl, SqL.of hb1, atI_nat (j := 1) rfl, _, rfl, b, _, _, _, rfl, rfl, SqL.of hb1, atI_nat (j := 1) rfl, _, _, rfl, rfl, ⟨by decide, by decide⟩, _, _, rfl, rfl, _, _, rfl, rfl, .inl ⟨by omega, by omega⟩,
      _, _, rfl, rfl, (by show (0 : Int) < 2147483629; decide), _, _, rfl, rfl, ⟨by decide, by decide⟩, _, rfl, _, _, rfl, rfl, m0, ?_⟩
    exact q _ _ fr ⟨c, u, hb1, c0, n0, by omega⟩ (Int.emod_nonneg _ (by omega)) (Int.emod_lt_of_pos _ m0)
end
theorem seq_setC {v : V} {i : Nat} {u : TS} {D : Ends} {σ : L2.St} {H : Hp} (h : u D (σ.set i (some v)) H) : tSeq (tAsg (tC v) (gName i)) u D σ H := h
theorem at2 {x y : V} {r : Int} (h0 : 0 ≤ r) (h1 : r < 2) : ∃ v, atI [x, y] r = some v ∧ (v = x ∨ v = y) := by
  have : r = 0 ∨ r = 1 := by omega
  rcases this with rfl | rfl
  · exact ⟨x, rfl, .inl rfl⟩
  · exact ⟨y, rfl, .inr rfl⟩
theorem at3 {x y z : V} {r : Int} (h0 : 0 ≤ r) (h1 : r < 3) : ∃ v, atI [x, y, z] r = some v ∧ (v = x ∨ v = y ∨ v = z) := by
  have : r = 0 ∨ r = 1 ∨ r = 2 := by omega
  rcases this with rfl | rfl | rfl
  · exact ⟨x, rfl, .inl rfl⟩
  · exact ⟨y, rfl, .inr (.inl rfl)⟩
  · exact ⟨z, rfl, .inr (.inr rfl)⟩
theorem ab_at {r : Int} (h0 : 0 ≤ r) (h1 : r < 2) : ∃ c, atI ("ab" : Str).cps.toList r = some c ∧ inS (.str ⟨#[c]⟩) vars = true ∧ PyData.strOk ⟨#[c]⟩ = true := by
  have : r = 0 ∨ r = 1 := by omega
  rcases this with rfl | rfl
  · exact ⟨97, by decide +kernel, by decide +kernel, by decide +kernel⟩
  · exact ⟨98, by decide +kernel, by decide +kernel, by decide +kernel⟩
theorem asks_at {r : Int} (h0 : 0 ≤ r) (h1 : r < 3) : ∃ c, atI ("+-=" : Str).cps.toList r = some c ∧ inS (.str ⟨#[c]⟩) asks = true ∧ PyData.strOk ⟨#[c]⟩ = true := by
  have : r = 0 ∨ r = 1 ∨ r = 2 := by omega
  rcases this with rfl | rfl | rfl
  · exact ⟨43, by decide +kernel, by decide +kernel, by decide +kernel⟩
  · exact ⟨45, by decide +kernel, by decide +kernel, by decide +kernel⟩
  · exact ⟨61, by decide +kernel, by decide +kernel, by decide +kernel⟩
def spSteps : Sp := fun vs H Q _ => ∃ (b : Addr), vs = [.ref b] ∧ Bag H b ∧ ∀ H' r, Fr b H H' → Bag H' b → 1 ≤ r → r ≤ longest → Q (.int r) H'
def spTermL (K : PySem.W.Frag) : Sp := fun vs H Q _ => ∃ (b : Addr), vs = [.ref b] ∧ Bag H b ∧ ∀ H' v d, Fr b H H' → Bag H' b → (∀ H0, Dp K H0 v d) → isTerm d = true → Lay d → Q v H'
def spCondL (K : PySem.W.Frag) : Sp := fun vs H Q _ => ∃ (b : Addr), vs = [.ref b] ∧ Bag H b ∧ ∀ H' v d, Fr b H H' → Bag H' b → Da K b H' v d → isCond d = true → Lay d → Q v H'
def spKind : Sp := fun vs H Q _ => ∃ (b : Addr), vs = [.ref b] ∧ Bag H b ∧ ∀ H' (k : Str), Fr b H H' → Bag H' b → (k = "teller" ∨ k = "collector") → Q (.str k) H'
section
variable {P : Program} {w : World} {K : PySem.W.Frag} {mg : Str → Option Value} {base : Heap}
theorem scLarge : FnScope ["_law_bag_here", "_law_many", "_law_number", "_law_room"] ["_law_bag_here", "_law_many"] (defScope sLarge) := ⟨rfl, rfl, rfl, by decide +kernel, rfl, by decide +kernel, by decide +kernel⟩
theorem ok_large {f : Addr} {fd : FuncData} (F : Fun K "_law_large" "_law_large" sLarge f fd) (CD : Cal P w K mg base 1 "_law_draw" ["_law_bag_here", "_law_many"] spDraw) : FnOk P w K mg base CX0 2 f fd ["_law_bag_here", "_law_many"] spLarge := by
  refine F.ok scLarge (fun vs H Q E h => ?_) (fun cdv A outer s H vs Q E hr h => ?_)
  · obtain ⟨b, m, rfl, _⟩ := h
    rfl
  obtain ⟨b, m, rfl, hb, m0, q⟩ := h
  refine ⟨_, pss_cons (ps_set (i := 2) scLarge.nd rfl (.inl rfl) pe_int) (pss_cons (ps_set (i := 3) scLarge.nd rfl (.inl rfl) pe_int)
    (pss_cons (ps_while PassesOwn.never (pt_cmpR op_lt (pv 3) (pv 1) (nomark _))
      (pss_cons (ps_set (i := 2) scLarge.nd rfl (.inl rfl) (pe_op op_add (pe_op op_mul (pv 2) pe_int) (pe_call CD.G hr rfl CD.m CD.kp CD.b .nil pass0 (pa_cons (pv 0) (pa_cons pe_int pa_nil)))))
      (pss_one (ps_set (i := 3) scLarge.nd rfl (.inl rfl) (pe_op op_mul (pv 3) pe_int)))))
    (pss_one (ps_ret (pe_op op_mod (pv 2) (pv 1)))))), ?_⟩
  refine seq_setC (seq_setC (seq_while ?_))
  refine while_m (fun n σ H' => ∃ x r : Int, σ = [some (.ref b), some (.int m), some (.int x), some (.int r)] ∧ Fr b H H' ∧ Bag H' b ∧ 1 ≤ r ∧ n = (m - r).toNat) (m0 := (m - 1).toNat) ⟨0, 1, rfl, Fr.refl _ _, hb, by decide, rfl⟩ ?_ ?_
  · rintro n σ H' ⟨x, r, rfl, f1, hb1, r1, rfl⟩
    refine ⟨_, rfl, _, rfl, _, _, rfl, rfl, _, rfl, ?_⟩
    by_cases c : r < m
    · rw [decide_eq_true c]
      refine iteT ⟨_, rfl, _, _, rfl, rfl, .inr (by decide), _, rfl, b, 1048576, rfl, hb1, by decide, by decide, fun H2 u f2 hb2 _ _ => ⟨_, _, rfl, rfl, _, rfl, _, _, rfl, rfl, .inr (by decide), ?_⟩⟩
      exact ⟨(m - r * 1048576).toNat, by omega, _, _, rfl, f1.trans f2, hb2, by omega, rfl⟩
    · rw [decide_eq_false c]
      exact iteF ⟨_, rfl, _, rfl, _, _, rfl, rfl, m0, q _ _ f1 hb1 (Int.emod_nonneg _ (by omega)) (Int.emod_lt_of_pos _ m0)⟩
  · rintro σ H' Q1 Q2 h ⟨v, e, v2, e2, i, j, e3, e4, k, e5, q⟩
    exact ⟨v, e, v2, e2, i, j, e3, e4, k, e5, h _ _ q⟩
theorem scSteps : FnScope ["_law_bag_here"] ["_law_bag_here"] (defScope sSteps) := ⟨rfl, rfl, rfl, by decide +kernel, rfl, by decide +kernel, by decide +kernel⟩
theorem pow30 : (10 : Int) ^ (30 : Int).toNat = longest := by decide +kernel
theorem ok_steps {f : Addr} {fd : FuncData} (F : Fun K "_law_steps" "_law_steps" sSteps f fd) (CD : Cal P w K mg base 1 "_law_draw" ["_law_bag_here", "_law_many"] spDraw) (CL : Cal P w K mg base 2 "_law_large" ["_law_bag_here", "_law_many"] spLarge) :
    FnOk P w K mg base CX0 3 f fd ["_law_bag_here"] spSteps := by
  refine F.ok scSteps (fun vs H Q E h => ?_) (fun cdv A outer s H vs Q E hr h => ?_)
  · obtain ⟨b, rfl, _⟩ := h
    rfl
  obtain ⟨b, rfl, hb, q⟩ := h
  have hr1 : Room 1 _ := hr.mono (by decide)
  refine ⟨_, pss_one (ps_ret (pe_ix ix_list (pe_lst (pa_cons (pe_op op_add pe_int (pe_call CD.G hr1 rfl CD.m CD.kp CD.b .nil pass0 (pa_cons (pv 0) (pa_cons pe_int pa_nil))))
      (pa_cons (pe_op op_add pe_int (pe_call CL.G hr rfl CL.m CL.kp CL.b .nil pass0 (pa_cons (pv 0) (pa_cons (pe_op op_pow pe_int pe_int) pa_nil))))
      (pa_cons (pe_op op_sub (pe_op op_pow pe_int pe_int) (pe_call CD.G hr1 rfl CD.m CD.kp CD.b .nil pass0 (pa_cons (pv 0) (pa_cons pe_int pa_nil)))) pa_nil))))
    (pe_op op_fdiv (pe_call CD.G hr1 rfl CD.m CD.kp CD.b .nil pass0 (pa_cons (pv 0) (pa_cons pe_int pa_nil))) pe_int) (fun _ _ => rfl))), ?_⟩
  refine ⟨_, rfl, b, 4, rfl, hb, by decide, by decide, fun H1 r1 f1 b1 r10 r11 => ⟨_, _, rfl, rfl, _, rfl, _, _, rfl, rfl, ⟨by decide, by decide, by decide⟩, b, _, rfl, b1, (by rw [pow30]; decide), fun H2 r2 f2 b2 r20 r21 => ⟨_, _, rfl, rfl, _, _, rfl, rfl, ⟨by decide, by decide, by decide⟩, _, rfl, b, 2, rfl, b2, by decide, by decide,
    fun H3 r3 f3 b3 r30 r31 => ⟨_, _, rfl, rfl, (by show 3 ≤ sizeLine; decide), fun p np => ⟨_, rfl, b, 8, rfl, b3.keep (same_new np _), by decide, by decide, fun H4 r4 f4 b4 r40 r41 => ⟨_, _, rfl, rfl, ⟨by decide, by decide⟩, ?_⟩⟩⟩⟩⟩⟩
  have np4 : p ≠ b := (b3.ne np).symm
  have hp4 := f4 p _ np4 upd_same
  obtain ⟨v, hv, hc⟩ := at3 (x := V.int (1 + r1)) (y := V.int (1 + r2)) (z := V.int (10 ^ (30 : Int).toNat - r3)) (r := r4 / 3) (by omega) (by omega)
  refine ⟨p, _, _, _, rfl, rfl, SqL.of hp4, hv, ?_⟩
  have fr : Fr b H H4 := f1.trans (f2.trans (f3.trans ((Fr.of (same_new np _)).trans f4)))
  rw [pow30] at hc r21
  have e30 : longest = 1000000000000000000000000000000 := rfl
  rcases hc with rfl | rfl | rfl
  · exact q _ _ fr b4 (by omega) (by omega)
  · exact q _ _ fr b4 (by omega) (by omega)
  · exact q _ _ fr b4 (by omega) (by omega)
end
structure G2 (mg : Str → Option Value) : Prop where
  abs : mg "abs" = none
  max : mg "max" = none
  min : mg "min" = none
  range : mg "range" = none
theorem one_or (b : Bool) : -(2 ^ 64) < (if b = true then (1 : Int) else 0) ∧ (if b = true then (1 : Int) else 0) < 2 ^ 64 := by cases b <;> decide
theorem part_variable (d : PyData) : isPart d "variable" = inS d vars := by unfold isPart; rw [if_pos rfl]
theorem part_term (d : PyData) : isPart d "term" = isTerm d := by unfold isPart; rw [if_neg (by decide +kernel), if_pos rfl]
theorem part_sign (d : PyData) : isPart d "sign" = inS d asks := by unfold isPart; rw [if_neg (by decide +kernel), if_neg (by decide +kernel), if_pos rfl]
theorem part_steps (d : PyData) : isPart d "steps" = intIn d 1 longest := by unfold isPart; rw [if_neg (by decide +kernel), if_neg (by decide +kernel), if_neg (by decide +kernel), if_pos rfl]
theorem part_answer (d : PyData) : isPart d "answer" = intIn d 0 1 := by unfold isPart; rw [if_neg (by decide +kernel), if_neg (by decide +kernel), if_neg (by decide +kernel), if_neg (by decide +kernel), if_pos rfl]
theorem part_value (d : PyData) : isPart d "value" = intIn d 0 15 := by unfold isPart; rw [if_neg (by decide +kernel), if_neg (by decide +kernel), if_neg (by decide +kernel), if_neg (by decide +kernel), if_neg (by decide +kernel)]
theorem roles_set (k : Str) : rolesZ "set" k = some (["variable", "value"] : List Str) := by unfold rolesZ; rw [if_pos rfl]
theorem roles_add (k : Str) : rolesZ "add" k = some (["variable", "term"] : List Str) := by unfold rolesZ; rw [if_neg (by decide +kernel), if_pos rfl]
theorem roles_wait (k : Str) : rolesZ "wait" k = some (["steps"] : List Str) := by unfold rolesZ; rw [if_neg (by decide +kernel), if_neg (by decide +kernel), if_pos rfl]
theorem roles_ask : rolesZ "ask" "teller" = some (["sign", "term", "variable"] : List Str) := by decide +kernel
theorem roles_answer : rolesZ "answer" "teller" = some (["answer"] : List Str) := by decide +kernel
theorem roles_grow : rolesZ "grow" "collector" = some (["term"] : List Str) := by decide +kernel
theorem roles_list : rolesZ "list" "collector" = some (["term"] : List Str) := by decide +kernel
theorem plain1 {z k r : Str} {p : PyData} (h : rolesZ z k = some [r]) (e : isPart p r = true) : isPlain (.tuple [.str z, p]) k = true := by
  rw [plain_some h]; simp [allParts, e]
theorem plain2 {z k r1 r2 : Str} {p1 p2 : PyData} (h : rolesZ z k = some [r1, r2]) (e1 : isPart p1 r1 = true) (e2 : isPart p2 r2 = true) : isPlain (.tuple [.str z, p1, p2]) k = true := by
  rw [plain_some h]; simp [allParts, e1, e2]
theorem plain3 {z k r1 r2 r3 : Str} {p1 p2 p3 : PyData} (h : rolesZ z k = some [r1, r2, r3]) (e1 : isPart p1 r1 = true) (e2 : isPart p2 r2 = true) (e3 : isPart p3 r3 = true) : isPlain (.tuple [.str z, p1, p2, p3]) k = true := by
  rw [plain_some h]; simp [allParts, e1, e2, e3]
theorem lay_str {z : Str} (h : PyData.strOk z = true) : Lay (.str z) := by unfold Lay; simp only [PyData.canLay0]; exact h
theorem lay_int (i : Int) : Lay (.int i) := by unfold Lay; simp only [PyData.canLay0]
theorem lay_nil : Lay (.tuple []) := by unfold Lay; simp only [PyData.canLay0, PyData.canLayAll0]
theorem lay_all : ∀ {ds : List PyData}, (∀ d ∈ ds, Lay d) → PyData.canLayAll0 ds = true
  | [], _ => by simp only [PyData.canLayAll0]
  | d :: r, h => by
    simp only [PyData.canLayAll0, Bool.and_eq_true]
    exact ⟨h d (by simp), lay_all fun x m => h x (List.mem_cons_of_mem _ m)⟩
theorem lay_tuple {ds : List PyData} (h : ∀ d ∈ ds, Lay d) : Lay (.tuple ds) := by unfold Lay; simp only [PyData.canLay0]; exact lay_all h
theorem lay2 {a b : PyData} (ha : Lay a) (hb : Lay b) : Lay (.tuple [a, b]) := lay_tuple (by intro d m; simp at m; rcases m with rfl | rfl <;> assumption)
theorem lay3 {a b c : PyData} (ha : Lay a) (hb : Lay b) (hc : Lay c) : Lay (.tuple [a, b, c]) := lay_tuple (by intro d m; simp at m; rcases m with rfl | rfl | rfl <;> assumption)
theorem lay4 {a b c e : PyData} (ha : Lay a) (hb : Lay b) (hc : Lay c) (he : Lay e) : Lay (.tuple [a, b, c, e]) := lay_tuple (by intro d m; simp at m; rcases m with rfl | rfl | rfl | rfl <;> assumption)
def spSimple (K : PySem.W.Frag) : Sp := fun vs H Q _ => ∃ (b : Addr) (k : Str), vs = [.ref b, .str k] ∧ Bag H b ∧ (k = "teller" ∨ k = "collector") ∧ ∀ H' v d, Fr b H H' → Bag H' b → Da K b H' v d → isPlain d k = true → Lay d → Q v H'
section
variable {P : Program} {w : World} {K : PySem.W.Frag} {mg : Str → Option Value} {base : Heap}
theorem scBag : FnScope ["_law_script", "_law_k", "_law_cell", "_law_state"] ["_law_script", "_law_k"] (defScope sBag) := ⟨rfl, rfl, rfl, by decide +kernel, rfl, by decide +kernel, by decide +kernel⟩
theorem ok_bag {f : Addr} {fd : FuncData} (F : Fun K "_law_bag" "_law_bag" sBag f fd) (T : Gs K mg) (T2 : G2 mg) : FnOk P w K mg base CX0 1 f fd ["_law_script", "_law_k"] (spBag K) := by
  refine F.ok scBag (fun vs H Q E h => ?_) (fun cdv A outer s H vs Q E hr h => ?_)
  · obtain ⟨a, ns, k, rfl, _⟩ := h
    rfl
  obtain ⟨a, ns, k, rfl, hS, h63, hk, q⟩ := h
  refine ⟨_, pss_cons (ps_set (i := 2) scBag.nd rfl (.inl rfl) pe_int)
    (pss_cons (ps_if (pt_cmpR op_lt (pv 1) (pe_callB call_len_seq (by rfl) T.len PySem.boot_len (pa_cons (pv 0) pa_nil)) (nomark _)) (pss_one (ps_set (i := 2) scBag.nd rfl (.inl rfl) (pe_callB call_abs (by rfl) T2.abs (by decide +kernel) (pa_cons (pe_ix ix_list (pv 0) (pv 1) (fun _ _ => rfl)) pa_nil)))) pss_nil)
    (pss_cons (ps_set (i := 3) scBag.nd rfl (.inl rfl) (pe_op op_add pe_int (pe_op op_mod (pe_op op_add (pe_op op_add (pe_op op_add (pe_op op_mul (pe_op op_mod (pv 2) pe_int) pe_int) (pe_op op_mul (pe_op op_mul pe_int (pv 1)) (pv 1))) (pe_op op_mul pe_int (pv 1))) pe_int) pe_int)))
    (pss_one (ps_ret (pe_lst (pa_cons (pe_op op_mul (pv 2) (pe_callTy call_int1 (by rfl) T.int (by decide +kernel) (pa_cons (pe_cmpR op_ge (pv 2) (pe_op op_pow pe_int pe_int) (nomark _)) pa_nil))) (pa_cons (pv 3) pa_nil))))))), ?_⟩
  have hl : (ns.map V.int).length = ns.length := List.length_map _
  refine ⟨_, rfl, _, rfl, a, _, rfl, .inl hS, _, _, rfl, rfl, _, rfl, ?_⟩
  have fin : ∀ (cell : Int) (z : Int), 0 ≤ cell → ∀ p, H p = none → Q (.ref p) (upd H p (.lst [.int (cell * (if decide ((10 : Int) ^ (18 : Int).toNat ≤ cell) then 1 else 0)), .int (1 + z % 2147483646)])) := fun cell z h0 p np => by
    refine q _ p (same_new np _) np ⟨_, _, upd_same, ?_, ?_, ?_⟩
    · split
      · omega
      · omega
    · have := Int.emod_nonneg z (show (2147483646 : Int) ≠ 0 by decide); omega
    · have := Int.emod_lt_of_pos z (show (0 : Int) < 2147483646 by decide); omega
  refine ite2 (fun c => ?_) (fun c => ?_)
  · have c' := of_decide_eq_true c
    rw [hl] at c'
    have hkn : k < ns.length := by omega
    have hat : atI (ns.map V.int) ((k : Nat) : Int) = some (.int ns[k]) := atI_nat (by rw [List.getElem?_map, List.getElem?_eq_getElem hkn]; rfl)
    have h0 : 0 ≤ (if ns[k] < 0 then -ns[k] else ns[k]) := by split <;> omega
    refine ⟨_, rfl, _, rfl, a, _, _, _, rfl, rfl, hS, hat, _, rfl, ?_⟩
    exact ⟨_, rfl, _, _, rfl, rfl, (by show (0 : Int) < 2147483647; decide), _, _, rfl, rfl, .inr (by decide), _, rfl, _, _, rfl, rfl, .inl (by decide), _, rfl, _, _, rfl, rfl, .inr ⟨by omega, by omega⟩, _, _, rfl, rfl, _, rfl, _, _, rfl, rfl, .inl (by decide), _, _, rfl, rfl, _, _, rfl, rfl, _, _, rfl, rfl, (by show (0 : Int) < 2147483646; decide), _, _, rfl, rfl,
      _, rfl, _, rfl, _, _, rfl, rfl, ⟨by decide, by decide, by decide⟩, _, _, rfl, rfl, .inr ⟨_, rfl, _, _, rfl, rfl, Or.inr (one_or _), _, rfl, (by show 2 ≤ sizeLine; decide), fun p np => fin _ _ h0 p np⟩⟩
  · exact ⟨_, rfl, _, _, rfl, rfl, (by show (0 : Int) < 2147483647; decide), _, _, rfl, rfl, .inr (by decide), _, rfl, _, _, rfl, rfl, .inl (by decide), _, rfl, _, _, rfl, rfl, .inr ⟨by omega, by omega⟩, _, _, rfl, rfl, _, rfl, _, _, rfl, rfl, .inl (by decide), _, _, rfl, rfl, _, _, rfl, rfl, _, _, rfl, rfl, (by show (0 : Int) < 2147483646; decide), _, _, rfl, rfl,
      _, rfl, _, rfl, _, _, rfl, rfl, ⟨by decide, by decide, by decide⟩, _, _, rfl, rfl, .inr ⟨_, rfl, _, _, rfl, rfl, Or.inr (one_or _), _, rfl, (by show 2 ≤ sizeLine; decide), fun p np => fin _ _ (Int.le_refl 0) p np⟩⟩
theorem scTermL : FnScope ["_law_bag_here", "_law_value"] ["_law_bag_here"] (defScope sTermL) := ⟨rfl, rfl, rfl, by decide +kernel, rfl, by decide +kernel, by decide +kernel⟩
theorem ok_termL {f : Addr} {fd : FuncData} (F : Fun K "_law_term" "_law_term" sTermL f fd) (CD : Cal P w K mg base 1 "_law_draw" ["_law_bag_here", "_law_many"] spDraw) : FnOk P w K mg base CX0 2 f fd ["_law_bag_here"] (spTermL K) := by
  refine F.ok scTermL (fun vs H Q E h => ?_) (fun cdv A outer s H vs Q E hr h => ?_)
  · obtain ⟨b, rfl, _⟩ := h
    rfl
  obtain ⟨b, rfl, hb, q⟩ := h
  refine ⟨_, pss_cons (ps_set (i := 1) scTermL.nd rfl (.inl rfl) (pe_call CD.G hr rfl CD.m CD.kp CD.b .nil pass0 (pa_cons (pv 0) (pa_cons pe_int pa_nil))))
    (pss_cons (ps_if (pt_cmpR op_gt (pv 1) pe_int (nomark _)) (pss_one (ps_ret (pe_ix ix_str pe_str (pe_op op_mod (pv 1) pe_int) (fun _ _ => rfl)))) pss_nil) (pss_one (ps_ret (pv 1)))), ?_⟩
  refine ⟨_, rfl, b, 20, rfl, hb, by decide, by decide, fun H1 r f1 b1 r0 r1 => ⟨_, rfl, _, _, rfl, rfl, _, rfl, ?_⟩⟩
  refine ite2 (fun c => ?_) (fun c => ?_)
  · obtain ⟨ch, hc, hv, ho⟩ := ab_at (r := r % 2) (by omega) (by omega)
    refine ⟨_, rfl, _, _, rfl, rfl, (by show (0 : Int) < 2; decide), _, _, _, rfl, rfl, by decide +kernel, hc, ?_⟩
    refine q _ _ _ f1 b1 (fun H0 => .str _) ?_ (lay_str ho)
    unfold isTerm
    rw [hv]
    rfl
  · have c' : ¬ (15 : Int) < r := of_decide_eq_false (Bool.eq_false_iff.mpr c)
    refine ⟨_, rfl, q _ _ _ f1 b1 (fun H0 => .int _) ?_ (lay_int _)⟩
    have e : intIn (.int r) 0 15 = true := by simp [intIn]; omega
    unfold isTerm
    rw [e, Bool.or_true]
theorem scCondL : FnScope ["_law_bag_here"] ["_law_bag_here"] (defScope sCondL) := ⟨rfl, rfl, rfl, by decide +kernel, rfl, by decide +kernel, by decide +kernel⟩
theorem ok_condL {f : Addr} {fd : FuncData} (F : Fun K "_law_condition" "_law_condition" sCondL f fd) (CD : Cal P w K mg base 1 "_law_draw" ["_law_bag_here", "_law_many"] spDraw) (CT : Cal P w K mg base 2 "_law_term" ["_law_bag_here"] (spTermL K)) :
    FnOk P w K mg base CX0 3 f fd ["_law_bag_here"] (spCondL K) := by
  refine F.ok scCondL (fun vs H Q E h => ?_) (fun cdv A outer s H vs Q E hr h => ?_)
  · obtain ⟨b, rfl, _⟩ := h
    rfl
  obtain ⟨b, rfl, hb, q⟩ := h
  have hr1 : Room 1 _ := hr.mono (by decide)
  refine ⟨_, pss_one (ps_ret (pe_tup (pa_cons (pe_ix ix_str pe_str (pe_call CD.G hr1 rfl CD.m CD.kp CD.b .nil pass0 (pa_cons (pv 0) (pa_cons pe_int pa_nil))) (fun _ _ => rfl))
    (pa_cons (pe_ix ix_list (pe_lst (pa_cons pe_str (pa_cons pe_str (pa_cons pe_str pa_nil)))) (pe_call CD.G hr1 rfl CD.m CD.kp CD.b .nil pass0 (pa_cons (pv 0) (pa_cons pe_int pa_nil))) (fun _ _ => rfl))
    (pa_cons (pe_call CT.G hr rfl CT.m CT.kp CT.b .nil pass0 (pa_cons (pv 0) pa_nil)) pa_nil))))), ?_⟩
  refine ⟨_, rfl, b, 2, rfl, hb, by decide, by decide, fun H1 r f1 b1 r0 r1 => ?_⟩
  obtain ⟨ch, hc, hv, ho⟩ := ab_at r0 r1
  refine ⟨_, _, _, rfl, rfl, by decide +kernel, hc, (by show 3 ≤ sizeLine; decide), fun p np => ⟨_, rfl, b, 3, rfl, b1.keep (same_new np _), by decide, by decide, fun H2 r2 f2 b2 r20 r21 => ?_⟩⟩
  have hp := f2 p _ (b1.ne np).symm upd_same
  obtain ⟨v, hv2, hc2⟩ := at3 (x := V.str "==") (y := V.str "!=") (z := V.str "<") r20 r21
  refine ⟨p, _, _, _, rfl, rfl, SqL.of hp, hv2, _, rfl, b, rfl, b2, fun H3 v3 d3 f3 b3 hd3 ht3 l3 => ⟨(by show 3 ≤ sizeLine; decide), fun t nt => ?_⟩⟩
  have fr : Fr b H (upd H3 t (.tup [.str ⟨#[ch]⟩, v, v3])) := f1.trans ((Fr.of (same_new np _)).trans (f2.trans (f3.trans (Fr.of (same_new nt _)))))
  have key : ∀ z : Str, v = .str z → inS (.str z) signs = true → PyData.strOk z = true → Q (.ref t) (upd H3 t (.tup [.str ⟨#[ch]⟩, v, v3])) := fun z e hz oz => by
    subst e
    refine q _ _ (.tuple [.str ⟨#[ch]⟩, .str z, d3]) fr (b3.keep (same_new nt _)) (da_tup (b3.ne nt).symm upd_same (.cons (.str _) (.cons (.str _) (.cons (hd3 _) .nil)))) ?_ (lay3 (lay_str ho) (lay_str oz) l3)
    show (inS (.str ⟨#[ch]⟩) vars && inS (.str z) signs && isTerm d3) = true
    rw [hv, hz, ht3]
    rfl
  rcases hc2 with e | e | e
  · exact key _ e (by decide +kernel) (by decide +kernel)
  · exact key _ e (by decide +kernel) (by decide +kernel)
  · exact key _ e (by decide +kernel) (by decide +kernel)
theorem scSimple : FnScope ["_law_bag_here", "_law_kind", "_law_way", "_law_variable"] ["_law_bag_here", "_law_kind"] (defScope sSimple) := ⟨rfl, rfl, rfl, by decide +kernel, rfl, by decide +kernel, by decide +kernel⟩
theorem ok_simple {f : Addr} {fd : FuncData} (F : Fun K "_law_simple" "_law_simple" sSimple f fd) (CD : Cal P w K mg base 1 "_law_draw" ["_law_bag_here", "_law_many"] spDraw) (CT : Cal P w K mg base 2 "_law_term" ["_law_bag_here"] (spTermL K)) (CS : Cal P w K mg base 3 "_law_steps" ["_law_bag_here"] spSteps) :
    FnOk P w K mg base CX0 4 f fd ["_law_bag_here", "_law_kind"] (spSimple K) := by
  refine F.ok scSimple (fun vs H Q E h => ?_) (fun cdv A outer s H vs Q E hr h => ?_)
  · obtain ⟨b, k, rfl, _⟩ := h
    rfl
  obtain ⟨b, k, rfl, hb, hk, q⟩ := h
  have hr1 : Room 1 _ := hr.mono (by decide)
  have hr2 : Room 2 _ := hr.mono (by decide)
  refine ⟨_, pss_cons (ps_set (i := 2) scSimple.nd rfl (.inl rfl) (pe_call CD.G hr1 rfl CD.m CD.kp CD.b .nil pass0 (pa_cons (pv 0) (pa_cons pe_int pa_nil))))
    (pss_cons (ps_set (i := 3) scSimple.nd rfl (.inl rfl) (pe_ix ix_str pe_str (pe_call CD.G hr1 rfl CD.m CD.kp CD.b .nil pass0 (pa_cons (pv 0) (pa_cons pe_int pa_nil))) (fun _ _ => rfl)))
    (pss_cons (ps_if (pt_cmpR op_eq (pv 2) pe_int (nomark _)) (pss_one (ps_ret (pe_tup (pa_cons pe_str (pa_cons (pe_call CS.G hr rfl CS.m CS.kp CS.b .nil pass0 (pa_cons (pv 0) pa_nil)) pa_nil))))) pss_nil)
    (pss_cons (ps_if (pt_cmpR op_lt (pv 2) pe_int (nomark _)) (pss_one (ps_ret (pe_tup (pa_cons pe_str (pa_cons (pv 3) (pa_cons (pe_call CD.G hr1 rfl CD.m CD.kp CD.b .nil pass0 (pa_cons (pv 0) (pa_cons pe_int pa_nil))) pa_nil)))))) pss_nil)
    (pss_cons (ps_if (pt_cmpR op_lt (pv 2) pe_int (nomark _)) (pss_one (ps_ret (pe_tup (pa_cons pe_str (pa_cons (pv 3) (pa_cons (pe_call CT.G hr2 rfl CT.m CT.kp CT.b .nil pass0 (pa_cons (pv 0) pa_nil)) pa_nil)))))) pss_nil)
    (pss_cons (ps_if (pt_cmpR op_eq (pv 1) pe_str (nomark _)) (pss_one (ps_ret (pe_tup (pa_cons (pe_ix ix_list (pe_lst (pa_cons pe_str (pa_cons pe_str pa_nil))) (pe_op op_mod (pv 2) pe_int) (fun _ _ => rfl)) (pa_cons (pe_call CT.G hr2 rfl CT.m CT.kp CT.b .nil pass0 (pa_cons (pv 0) pa_nil)) pa_nil))))) pss_nil)
    (pss_cons (ps_if (PW.pt (pw_and (pt_cmpR op_eq (pv 2) pe_int (nomark _)) (pw_and1 (pt_cmpR op_eq (pe_call CD.G hr1 rfl CD.m CD.kp CD.b .nil pass0 (pa_cons (pv 0) (pa_cons pe_int pa_nil))) pe_int (nomark _)))))
      (pss_one (ps_ret (pe_tup (pa_cons pe_str (pa_cons (pe_call CD.G hr1 rfl CD.m CD.kp CD.b .nil pass0 (pa_cons (pv 0) (pa_cons pe_int pa_nil))) pa_nil))))) pss_nil)
    (pss_one (ps_ret (pe_tup (pa_cons pe_str (pa_cons (pe_ix ix_str pe_str (pe_call CD.G hr1 rfl CD.m CD.kp CD.b .nil pass0 (pa_cons (pv 0) (pa_cons pe_int pa_nil))) (fun _ _ => rfl)) (pa_cons (pe_call CT.G hr2 rfl CT.m CT.kp CT.b .nil pass0 (pa_cons (pv 0) pa_nil)) (pa_cons (pv 3) pa_nil))))))))))))), ?_⟩
  refine ⟨_, rfl, b, 8, rfl, hb, by decide, by decide, fun H1 r f1 b1 r0 r1 => ⟨_, rfl, b, 2, rfl, b1, by decide, by decide, fun H2 r2 f2 b2 r20 r21 => ?_⟩⟩
  obtain ⟨ch, hc, hv, ho⟩ := ab_at r20 r21
  have f12 := f1.trans f2
  refine ⟨_, _, _, rfl, rfl, by decide +kernel, hc, ?_⟩
  refine ⟨_, rfl, rfl, _, rfl, ite2 (fun c => ?_) (fun c => ?_)⟩
  · refine ⟨_, rfl, b, rfl, b2, fun H3 x f3 b3 x0 x1 => ⟨(by show 2 ≤ sizeLine; decide), fun t nt => ?_⟩⟩
    refine q _ _ (.tuple [.str "wait", .int x]) (f12.trans (f3.trans (Fr.of (same_new nt _)))) (b3.keep (same_new nt _)) (da_tup (b3.ne nt).symm upd_same (.cons (.str _) (.cons (.int _) .nil))) (plain1 (roles_wait k) ?_) (lay2 (lay_str (by decide +kernel)) (lay_int _))
    rw [part_steps]; simp [intIn, x0, x1]
  refine ⟨_, rfl, _, _, rfl, rfl, _, rfl, ite2 (fun c => ?_) (fun c => ?_)⟩
  · refine ⟨_, rfl, _, rfl, b, 16, rfl, b2, by decide, by decide, fun H3 x f3 b3 x0 x1 => ⟨(by show 3 ≤ sizeLine; decide), fun t nt => ?_⟩⟩
    refine q _ _ (.tuple [.str "set", .str ⟨#[ch]⟩, .int x]) (f12.trans (f3.trans (Fr.of (same_new nt _)))) (b3.keep (same_new nt _)) (da_tup (b3.ne nt).symm upd_same (.cons (.str _) (.cons (.str _) (.cons (.int _) .nil)))) (plain2 (roles_set k) (by rw [part_variable]; exact hv) ?_) (lay3 (lay_str (by decide +kernel)) (lay_str ho) (lay_int _))
    rw [part_value]; simp [intIn, x0]; omega
  refine ⟨_, rfl, _, _, rfl, rfl, _, rfl, ite2 (fun c => ?_) (fun c => ?_)⟩
  · refine ⟨_, rfl, _, rfl, b, rfl, b2, fun H3 x d3 f3 b3 hd3 t3 l3 => ⟨(by show 3 ≤ sizeLine; decide), fun t nt => ?_⟩⟩
    exact q _ _ (.tuple [.str "add", .str ⟨#[ch]⟩, d3]) (f12.trans (f3.trans (Fr.of (same_new nt _)))) (b3.keep (same_new nt _)) (da_tup (b3.ne nt).symm upd_same (.cons (.str _) (.cons (.str _) (.cons (hd3 _) .nil)))) (plain2 (roles_add k) (by rw [part_variable]; exact hv) (by rw [part_term]; exact t3)) (lay3 (lay_str (by decide +kernel)) (lay_str ho) l3)
  refine ⟨_, rfl, rfl, _, rfl, ite2 (fun c => ?_) (fun c => ?_)⟩
  · have ek : k = "collector" := by
      have c' := of_decide_eq_true c
      injection c'
    subst ek
    refine ⟨(by show 2 ≤ sizeLine; decide), fun p np => ?_⟩
    obtain ⟨v, hv2, hc2⟩ := at2 (x := V.str "grow") (y := V.str "list") (r := r % 2) (by omega) (by omega)
    refine ⟨_, rfl, _, _, rfl, rfl, (by show (0 : Int) < 2; decide), p, _, _, _, rfl, rfl, SqL.of upd_same, hv2, _, rfl, b, rfl, b2.keep (same_new np _), fun H3 x d3 f3 b3 hd3 t3 l3 => ⟨(by show 2 ≤ sizeLine; decide), fun t nt => ?_⟩⟩
    have fr : Fr b H (upd H3 t (.tup [v, x])) := f12.trans ((Fr.of (same_new np _)).trans (f3.trans (Fr.of (same_new nt _))))
    rcases hc2 with rfl | rfl
    · exact q _ _ (.tuple [.str "grow", d3]) fr (b3.keep (same_new nt _)) (da_tup (b3.ne nt).symm upd_same (.cons (.str _) (.cons (hd3 _) .nil))) (plain1 roles_grow (by rw [part_term]; exact t3)) (lay2 (lay_str (by decide +kernel)) l3)
    · exact q _ _ (.tuple [.str "list", d3]) fr (b3.keep (same_new nt _)) (da_tup (b3.ne nt).symm upd_same (.cons (.str _) (.cons (hd3 _) .nil))) (plain1 roles_list (by rw [part_term]; exact t3)) (lay2 (lay_str (by decide +kernel)) l3)
  have ek : k = "teller" := by
    rcases hk with e | e
    · exact e
    · exact absurd (decide_eq_true (by rw [e])) c
  subst ek
  have ask : ∀ (H3 : Hp), Fr b H H3 → Bag H3 b → ∀ (H4 : Hp) (r4 : Int) (f4 : Fr b H3 H4) (b4 : Bag H4 b) (r40 : 0 ≤ r4) (r41 : r4 < 3) (c4 : Nat), atI ("+-=" : Str).cps.toList r4 = some c4 → inS (.str ⟨#[c4]⟩) asks = true → PyData.strOk ⟨#[c4]⟩ = true →
      ∀ (H5 : Hp) (x : V) (d5 : PyData) (f5 : Fr b H4 H5) (b5 : Bag H5 b) (hd5 : ∀ H0, Dp K H0 x d5) (t5 : isTerm d5 = true) (l5 : Lay d5) (t : Addr) (nt : H5 t = none), Q (.ref t) (upd H5 t (.tup [.str "ask", .str ⟨#[c4]⟩, x, .str ⟨#[ch]⟩])) := by
    intro H3 f3 b3 H4 r4 f4 b4 r40 r41 c4 hc4 hi4 ho4 H5 x d5 f5 b5 hd5 t5 l5 t nt
    exact q _ _ (.tuple [.str "ask", .str ⟨#[c4]⟩, d5, .str ⟨#[ch]⟩]) (f3.trans (f4.trans (f5.trans (Fr.of (same_new nt _))))) (b5.keep (same_new nt _)) (da_tup (b5.ne nt).symm upd_same (.cons (.str _) (.cons (.str _) (.cons (hd5 _) (.cons (.str _) .nil)))))
      (plain3 roles_ask (by rw [part_sign]; exact hi4) (by rw [part_term]; exact t5) (by rw [part_variable]; exact hv)) (lay4 (lay_str (by decide +kernel)) (lay_str ho4) l5 (lay_str ho))
  refine ⟨_, rfl, rfl, _, rfl, ite2 (fun c => ?_) (fun c => ?_)⟩
  · refine ⟨_, rfl, b, 3, rfl, b2, by decide, by decide, fun H3 x f3 b3 x0 x1 => ⟨rfl, _, rfl, ite2 (fun c => ?_) (fun c => ?_)⟩⟩
    · refine ⟨_, rfl, b, 2, rfl, b3, by decide, by decide, fun H4 y f4 b4 y0 y1 => ⟨(by show 2 ≤ sizeLine; decide), fun t nt => ?_⟩⟩
      refine q _ _ (.tuple [.str "answer", .int y]) (f12.trans (f3.trans (f4.trans (Fr.of (same_new nt _))))) (b4.keep (same_new nt _)) (da_tup (b4.ne nt).symm upd_same (.cons (.str _) (.cons (.int _) .nil))) (plain1 roles_answer ?_) (lay2 (lay_str (by decide +kernel)) (lay_int _))
      rw [part_answer]; simp [intIn, y0]; omega
    · refine ⟨_, rfl, b, 3, rfl, b3, by decide, by decide, fun H4 r4 f4 b4 r40 r41 => ?_⟩
      obtain ⟨c4, hc4, hi4, ho4⟩ := asks_at r40 r41
      exact ⟨_, _, _, rfl, rfl, by decide +kernel, hc4, _, rfl, b, rfl, b4, fun H5 x d5 f5 b5 hd5 t5 l5 => ⟨_, rfl, (by show 4 ≤ sizeLine; decide), fun t nt => ask H3 (f12.trans f3) b3 H4 r4 f4 b4 r40 r41 c4 hc4 hi4 ho4 H5 x d5 f5 b5 hd5 t5 l5 t nt⟩⟩
  · refine iteF ⟨_, rfl, b, 3, rfl, b2, by decide, by decide, fun H4 r4 f4 b4 r40 r41 => ?_⟩
    obtain ⟨c4, hc4, hi4, ho4⟩ := asks_at r40 r41
    exact ⟨_, _, _, rfl, rfl, by decide +kernel, hc4, _, rfl, b, rfl, b4, fun H5 x d5 f5 b5 hd5 t5 l5 => ⟨_, rfl, (by show 4 ≤ sizeLine; decide), fun t nt => ask H2 f12 b2 H4 r4 f4 b4 r40 r41 c4 hc4 hi4 ho4 H5 x d5 f5 b5 hd5 t5 l5 t nt⟩⟩
end
theorem lay1 {a : PyData} (ha : Lay a) : Lay (.tuple [a]) := lay_tuple (by intro d m; simp at m; rcases m with rfl; assumption)
theorem body_nil (k : Str) (r : Nat) : bodyN k r (.tuple []) = some 0 := by cases r <;> rfl
theorem bods_if {ps : List PyData} : bodsOf (.tuple (.str "if" :: ps)) = ps.drop 1 := by
  show (if ("if" : Str) = "if" ∨ ("if" : Str) = "while" then ps.drop 1 else []) = _
  rw [if_pos (.inl rfl)]
theorem bods_while {ps : List PyData} : bodsOf (.tuple (.str "while" :: ps)) = ps.drop 1 := by
  show (if ("while" : Str) = "if" ∨ ("while" : Str) = "while" then ps.drop 1 else []) = _
  rw [if_pos (.inr rfl)]
theorem body_one (k : Str) (r : Nat) (s : PyData) : bodyN k (r + 1) (.tuple [s]) = stN k r s := by
  rw [bodyN_tup]
  simp only [List.map_cons, List.map_nil, sumO, addO_zero]
theorem bods_else {z : Str} {ps : List PyData} (h1 : ¬ z = "if") (h2 : ¬ z = "while") : bodsOf (.tuple (.str z :: ps)) = [] := by
  show (if z = "if" ∨ z = "while" then ps.drop 1 else []) = _
  rw [if_neg (by rintro (e | e); exact h1 e; exact h2 e)]
theorem roles_if (k : Str) : rolesZ "if" k = none := by
  unfold rolesZ
  rw [if_neg (by decide +kernel), if_neg (by decide +kernel), if_neg (by decide +kernel)]
  split
  · rw [if_neg (by decide +kernel), if_neg (by decide +kernel)]
  · rw [if_neg (by decide +kernel), if_neg (by decide +kernel)]
theorem roles_while (k : Str) : rolesZ "while" k = none := by
  unfold rolesZ
  rw [if_neg (by decide +kernel), if_neg (by decide +kernel), if_neg (by decide +kernel)]
  split
  · rw [if_neg (by decide +kernel), if_neg (by decide +kernel)]
  · rw [if_neg (by decide +kernel), if_neg (by decide +kernel)]
theorem plain_inv {d : PyData} {k : Str} (h : isPlain d k = true) : ∃ z ps rs, d = .tuple (.str z :: ps) ∧ rolesZ z k = some rs ∧ ps.length = rs.length ∧ allParts ps rs = true := by
  cases hw : wordOf d with
  | none =>
    have e : rolesOf (wordOf d) k = none := by rw [hw]; rfl
    rw [plain_none e] at h
    cases h
  | some z =>
    obtain ⟨ps, rfl⟩ := word_inv hw
    cases hz : rolesZ z k with
    | none =>
      have e : rolesOf (wordOf (.tuple (.str z :: ps))) k = none := hz
      rw [plain_none e] at h
      cases h
    | some rs =>
      rw [plain_some hz, Bool.and_eq_true] at h
      exact ⟨z, ps, rs, rfl, hz, of_decide_eq_true h.1, h.2⟩
theorem plain_st {d : PyData} {k : Str} (h : isPlain d k = true) : isOut d k = true ∧ bodsOf d = [] := by
  obtain ⟨z, ps, rs, rfl, hz, _⟩ := plain_inv h
  have n1 : ¬ z = "if" := fun e => by rw [e, roles_if] at hz; cases hz
  have n2 : ¬ z = "while" := fun e => by rw [e, roles_while] at hz; cases hz
  exact ⟨(out_else n1 n2).trans h, bods_else n1 n2⟩
theorem stN_plain {d : PyData} {k : Str} {r : Nat} (h : isPlain d k = true) : stN k r d = some 1 := by
  obtain ⟨h1, h2⟩ := plain_st h
  unfold stN
  rw [if_pos h1, h2]
  rfl
theorem sum_plain {k : Str} {r : Nat} : ∀ {ds : List PyData}, (∀ d ∈ ds, isPlain d k = true) → sumO (ds.map (stN k r)) = some ds.length
  | [], _ => rfl
  | d :: t, h => by
    simp only [List.map_cons, sumO]
    rw [stN_plain (h d (by simp)), sum_plain fun x m => h x (List.mem_cons_of_mem _ m)]
    simp only [addO, List.length_cons]
    congr 1
    omega
theorem kinds_in {k : Str} (h : k = "teller" ∨ k = "collector") : inS (.str k) kinds = true := by
  rcases h with rfl | rfl <;> decide +kernel
theorem strOk_kind {k : Str} (h : k = "teller" ∨ k = "collector") : PyData.strOk k = true := by
  rcases h with rfl | rfl <;> decide +kernel
/-! ### data without lists -/
mutual
def noL : PyData → Bool
  | .list _ => false
  | .tuple xs => noLAll xs
  | .none | .bool _ | .int _ | .str _ | .dict _ => true
def noLAll : List PyData → Bool
  | [] => true
  | x :: xs => noL x && noLAll xs
end
mutual
theorem dp_keepL {K : PySem.W.Frag} {H H' : Hp} {D : Addr} {ys : List V} (e : ∀ a o, a ≠ D → H a = some o → H' a = some o) (hD : H D = some (.lst ys)) : ∀ (d : PyData) (v : V), noL d = true → Dp K H v d → Dp K H' v d
  | .none, _, _, h => by cases h; exact .non
  | .bool b, _, _, h => by cases h; exact .bl b
  | .int i, _, _, h => by cases h; exact .int i
  | .str x, _, _, h => by cases h; exact .str x
  | .list ds, _, n, h => by simp [noL] at n
  | .tuple ds, _, n, h => by
    cases h with
    | tup hs ha =>
      refine .tup ?_ (dpAll_keepL e hD ds _ (by simpa [noL] using n) ha)
      rcases hs with (h | ⟨o, h⟩) | h
      · exact .inl (.inl (e _ _ (ne_of h hD (by intro z; cases z)) h))
      · exact .inl (.inr ⟨o, e _ _ (ne_of h hD (by intro z; cases z)) h⟩)
      · exact .inr h
  | .dict _, _, _, h => by cases h
theorem dpAll_keepL {K : PySem.W.Frag} {H H' : Hp} {D : Addr} {ys : List V} (e : ∀ a o, a ≠ D → H a = some o → H' a = some o) (hD : H D = some (.lst ys)) : ∀ (ds : List PyData) (vs : List V), noLAll ds = true → DpAll K H vs ds → DpAll K H' vs ds
  | [], _, _, h => by cases h; exact .nil
  | d :: ds, _, n, h => by
    simp only [noLAll, Bool.and_eq_true] at n
    cases h with
    | cons hd ht => exact .cons (dp_keepL e hD d _ n.1 hd) (dpAll_keepL e hD ds _ n.2 ht)
end
theorem part_noL {p : PyData} {r : Str} (h : isPart p r = true) : noL p = true := by
  cases p with
  | list xs => unfold isPart at h; repeat' split at h
               all_goals simp [inS, isTerm, intIn] at h
  | tuple xs => unfold isPart at h; repeat' split at h
                all_goals simp [inS, isTerm, intIn] at h
  | _ => rfl
theorem parts_noL : ∀ {ps : List PyData} {rs : List Str}, ps.length = rs.length → allParts ps rs = true → noLAll ps = true
  | [], _, _, _ => rfl
  | p :: ps, [], l, _ => by simp at l
  | p :: ps, r :: rs, l, h => by
    have h' : isPart p r = true ∧ allParts ps rs = true := by
      simpa [allParts] using h
    simp only [noLAll, Bool.and_eq_true]
    exact ⟨part_noL h'.1, parts_noL (by simpa using l) h'.2⟩
theorem plain_noL {d : PyData} {k : Str} (h : isPlain d k = true) : noL d = true := by
  obtain ⟨z, ps, rs, rfl, hz, hl, hp⟩ := plain_inv h
  simp only [noL, noLAll, Bool.true_and]
  exact parts_noL hl hp
theorem all_noL {k : Str} : ∀ {ds : List PyData}, (∀ d ∈ ds, isPlain d k = true ∧ Lay d) → noLAll ds = true
  | [], _ => rfl
  | d :: t, h => by
    simp only [noLAll, Bool.and_eq_true]
    exact ⟨plain_noL (h d (by simp)).1, all_noL fun x m => h x (List.mem_cons_of_mem _ m)⟩
theorem dpAll_append {K : PySem.W.Frag} {H : Hp} : ∀ {xs ys : List V} {ds es : List PyData}, DpAll K H xs ds → DpAll K H ys es → DpAll K H (xs ++ ys) (ds ++ es)
  | _, _, _, _, .nil, h => h
  | _, _, _, _, .cons a t, h => .cons a (dpAll_append t h)
theorem dpAll_take {K : PySem.W.Frag} {H : Hp} : ∀ (n : Nat) {xs : List V} {ds : List PyData}, DpAll K H xs ds → DpAll K H (xs.take n) (ds.take n)
  | 0, _, _, _ => .nil
  | n + 1, _, _, .nil => .nil
  | n + 1, _, _, .cons a t => .cons a (dpAll_take n t)
theorem cut_lo (xs : List V) (n : Nat) : cutV xs none (some (n : Int)) = xs.take n := by
  unfold cutV
  rw [HT.sIx_nat, HT.sIx_none, List.drop_zero, Nat.sub_zero, List.take_eq_take_iff]
  omega
theorem cut_hi (xs : List V) (n : Nat) : cutV xs (some (n : Int)) none = xs.drop n := by
  unfold cutV
  rw [HT.sIx_nat, HT.sIx_none]
  by_cases h : n ≤ xs.length
  · rw [Nat.min_eq_left h, List.take_of_length_le (by rw [List.length_drop]; omega)]
  · rw [Nat.min_eq_right (by omega), List.drop_of_length_le (Nat.le_refl _), List.drop_of_length_le (by omega)]
    simp
theorem and_one {c e : Bool} {tb : TE} {σ : L2.St} {H : Hp} {Q : VK} (h : ∀ Q' : VK, Q' (.bl e) H → tb σ H Q') (q : Q (.bl (c && e)) H) : if c = true then tb σ H Q else Q (.bl false) H := by
  cases c with
  | true => exact iteT (h _ q)
  | false => exact iteF q
theorem Bag.upd {H : Hp} {b D : Addr} {o : HO} (h : Bag H b) (n : D ≠ b) : Bag (upd H D o) b := by
  obtain ⟨c, s, e, r⟩ := h
  exact ⟨c, s, by rw [upd_ne n.symm]; exact e, r⟩
theorem hide_upd {b D : Addr} {H : Hp} {o : HO} : ∀ a u, a ≠ D → hide b H a = some u → hide b (L2.upd H D o) a = some u := fun a u n h => by
  unfold hide at h ⊢
  split at h
  · cases h
  · rename_i nb
    rw [if_neg nb, upd_ne n]
    exact h
theorem fr_upd {b D : Addr} {H H' : Hp} (f : Fr b H H') (n : H D = none) (o : HO) : Fr b H (upd H' D o) := fun x u nx h => by
  rw [upd_ne (ne_of_none h n)]
  exact f _ _ nx h
abbrev sStmt : Stmt := top 52
abbrev sBody : Stmt := top 53
abbrev sProgL : Stmt := top 54
def Fr2 (b m : Addr) (H H' : Hp) : Prop := ∀ a o, a ≠ b → a ≠ m → H a = some o → H' a = some o
theorem Fr2.refl (b m : Addr) (H : Hp) : Fr2 b m H H := fun _ _ _ _ h => h
theorem Fr2.trans {b m : Addr} {H H1 H2 : Hp} (x : Fr2 b m H H1) (y : Fr2 b m H1 H2) : Fr2 b m H H2 := fun a o n1 n2 h => y a o n1 n2 (x a o n1 n2 h)
theorem Fr.two {b m : Addr} {H H' : Hp} (x : Fr b H H') : Fr2 b m H H' := fun a o n _ h => x a o n h
theorem Same.two {b m : Addr} {H H' : Hp} (x : Same H H') : Fr2 b m H H' := fun a o _ _ h => x a o h
theorem Fr2.updm {b m : Addr} {H : Hp} (o : HO) : Fr2 b m H (upd H m o) := fun a u _ n h => by rw [upd_ne n]; exact h
def Rm (H : Hp) (m : Addr) (r : Nat) : Prop := H m = some (.lst [.int (r : Nat)])
theorem da_fr2 {K : PySem.W.Frag} {b m : Addr} {H H' : Hp} {v : V} {d : PyData} {ys : List V} (n : noL d = true) (h : Da K b H v d) (f : Fr2 b m H H') (hm : H m = some (.lst ys)) (nm : m ≠ b) : Da K b H' v d := by
  refine dp_keepL (D := m) (ys := ys) (fun a o na ha => ?_) (hide_get nm hm) d v n h
  unfold hide at ha ⊢
  split at ha
  · cases ha
  · rename_i nb
    rw [if_neg nb]
    exact f a o nb na ha
theorem daAll_fr2 {K : PySem.W.Frag} {b m : Addr} {H H' : Hp} {vs : List V} {ds : List PyData} {ys : List V} (n : noLAll ds = true) (h : DpAll K (hide b H) vs ds) (f : Fr2 b m H H') (hm : H m = some (.lst ys)) (nm : m ≠ b) : DpAll K (hide b H') vs ds := by
  refine dpAll_keepL (D := m) (ys := ys) (fun a o na ha => ?_) (hide_get nm hm) ds vs n h
  unfold hide at ha ⊢
  split at ha
  · cases ha
  · rename_i nb
    rw [if_neg nb]
    exact f a o nb na ha
theorem term_noL {d : PyData} (h : isTerm d = true) : noL d = true := by
  cases d with
  | list xs => simp [isTerm, inS, intIn] at h
  | tuple xs => simp [isTerm, inS, intIn] at h
  | _ => rfl
theorem inS_noL {d : PyData} {zs : List Str} (h : inS d zs = true) : noL d = true := by
  cases d with
  | list xs => simp [inS] at h
  | tuple xs => simp [inS] at h
  | _ => rfl
theorem cond_noL {d : PyData} (h : isCond d = true) : noL d = true := by
  match d, h with
  | .tuple [x, y, z], h =>
    have h' : (inS x vars && inS y signs && isTerm z) = true := h
    rw [Bool.and_eq_true, Bool.and_eq_true] at h'
    simp only [noL, noLAll, inS_noL h'.1.1, inS_noL h'.1.2, term_noL h'.2]
    rfl
def spBody (K : PySem.W.Frag) (n : Nat) : Sp := fun vs H Q _ => ∃ (b m : Addr) (k : Str) (r : Nat) (dep mo : Int), vs = [.ref b, .str k, .ref m, .int dep, .int mo] ∧ dep = 5 - (n : Int) ∧ n ≤ 4 ∧ Bag H b ∧ Rm H m r ∧ m ≠ b ∧ (k = "teller" ∨ k = "collector") ∧ mo < 1000 ∧
  ∀ H' v d r' c, Fr2 b m H H' → Bag H' b → Rm H' m r' → Da K b H' v d → noL d = true → Lay d → bodyN k n d = some c → r' + c = r → Q v H'
def spStmt (K : PySem.W.Frag) (n : Nat) : Sp := fun vs H Q _ => ∃ (b m : Addr) (k : Str) (r : Nat) (dep : Int), vs = [.ref b, .str k, .ref m, .int dep] ∧ dep = 4 - (n : Int) ∧ n ≤ 3 ∧ Bag H b ∧ Rm H m r ∧ m ≠ b ∧ (k = "teller" ∨ k = "collector") ∧
  ∀ H' v d r' c, Fr2 b m H H' → Bag H' b → Rm H' m r' → Da K b H' v d → noL d = true → Lay d → stN k n d = some (1 + c) → r' + c = r → Q v H'
theorem sumO_snoc (xs : List (Option Nat)) (x : Option Nat) : sumO (xs ++ [x]) = addO (sumO xs) x := by
  rw [sumO_append]
  simp only [sumO, addO_zero]
theorem noLAll_snoc : ∀ {ds : List PyData} {d : PyData}, noLAll ds = true → noL d = true → noLAll (ds ++ [d]) = true
  | [], d, _, h => by simp [noLAll, h]
  | x :: r, d, h, h2 => by
    simp only [noLAll, Bool.and_eq_true] at h
    rw [List.cons_append]
    simp only [noLAll, Bool.and_eq_true]
    exact ⟨h.1, noLAll_snoc h.2 h2⟩
section
variable {P : Program} {w : World} {K : PySem.W.Frag} {mg : Str → Option Value} {base : Heap}
theorem scBody : FnScope ["_law_bag_here", "_law_kind", "_law_room", "_law_depth", "_law_most", "_law_body_here", "_law_turn"] ["_law_bag_here", "_law_kind", "_law_room", "_law_depth", "_law_most"] (defScope sBody) := ⟨rfl, rfl, rfl, by decide +kernel, rfl, by decide +kernel, by decide +kernel⟩
theorem ok_body {f : Addr} {fd : FuncData} {lv n : Nat} (hlv : 1 ≤ lv) (F : Fun K "_law_body" "_law_body" sBody f fd) (T : Gs K mg) (T2 : G2 mg) (CD : Cal P w K mg base 1 "_law_draw" ["_law_bag_here", "_law_many"] spDraw)
    (CS : Cal P w K mg base lv "_law_statement" ["_law_bag_here", "_law_kind", "_law_room", "_law_depth"] (fun vs H Q E => n ≠ 0 ∧ spStmt K (n - 1) vs H Q E)) :
    FnOk P w K mg base CX0 (lv + 1) f fd ["_law_bag_here", "_law_kind", "_law_room", "_law_depth", "_law_most"] (spBody K n) := by
  refine F.ok scBody (fun vs H Q E h => ?_) (fun cdv A outer s H vs Q E hr h => ?_)
  · obtain ⟨b, m, k, r, dep, mo, rfl, _⟩ := h
    rfl
  obtain ⟨b, m, k, r, dep, mo, rfl, hdep, hn, hb, hm, nmb, hk, hmo, q⟩ := h
  have hr1 : Room 1 _ := hr.mono hlv
  refine ⟨_, pss_cons (ps_set (i := 5) scBody.nd rfl (.inl rfl) (pe_lst pa_nil))
    (pss_cons (ps_for PassesOwn.never rfl (pi_range1 (by rfl) T2.range (pa_cons (pe_call CD.G hr1 rfl CD.m CD.kp CD.b .nil pass0 (pa_cons (pv 0) (pa_cons (pe_callB (call_max2 rfl) (by rfl) T2.max (by decide +kernel) (pa_cons pe_int (pa_cons (pv 4) pa_nil))) pa_nil))) pa_nil)) (pg_name (i := 6) scBody.nd rfl (.inl rfl))
      (pss_one (ps_if (PW.pt (pw_and (pt_cmpR op_gt (pe_ix ix_list (pv 2) pe_int (fun _ _ => rfl)) pe_int (nomark _)) (pw_and1 (pt_cmpR op_lt (pv 3) pe_int (nomark _)))))
        (pss_cons (ps_asg (pe_op op_sub (pe_ix ix_list (pv 2) pe_int (fun _ _ => rfl)) pe_int) (pg_sub (pv 2) pe_int set_list))
        (pss_one (ps_expr (pe_bm PySem.F.plainAttrs_list PySem.F.slot_list_append PySem.F.type_list_append mt_append (pv 5) (pa_cons (pe_call CS.G hr rfl CS.m CS.kp CS.b .nil pass0 (pa_cons (pv 0) (pa_cons (pv 1) (pa_cons (pv 2) (pa_cons (pv 3) pa_nil))))) pa_nil))))) pss_nil)))
    (pss_one (ps_ret (pe_callTy call_tuple_of (by rfl) T.tup (by decide +kernel) (pa_cons (pv 5) pa_nil))))), ?_⟩
  refine ⟨(by show 0 ≤ sizeLine; decide), fun l nl => ?_⟩
  have nlb : l ≠ b := (hb.ne nl).symm
  have nlm : l ≠ m := fun e => by rw [e, hm] at nl; cases nl
  refine ⟨_, rfl, _, rfl, _, _, rfl, b, _, rfl, hb.keep (same_new nl _), ?_, ?_, fun H1 t f1 b1 t0 t1 => ?_⟩
  · split <;> omega
  · split <;> omega
  have hm1 : Rm H1 m r := f1 m _ nmb (by rw [upd_ne nlm.symm]; exact hm)
  have hl1 : H1 l = some (.lst []) := f1 l _ nlb upd_same
  have t1000 : t < 1000 := by split at t1 <;> omega
  refine ⟨_, rfl, by omega, by omega, for_range (lo := 0) (n := t.toNat) (fun i σ H' => ∃ (xs : List V) (ds : List PyData) (r1 c1 : Nat) (s6 : Option V), σ = [some (.ref b), some (.str k), some (.ref m), some (.int dep), some (.int mo), some (.ref l), s6] ∧
      Fr2 b m H H' ∧ Bag H' b ∧ Rm H' m r1 ∧ H' l = some (.lst xs) ∧ DpAll K (hide b H') xs ds ∧ noLAll ds = true ∧ (∀ d ∈ ds, Lay d) ∧ bodyN k n (.tuple ds) = some c1 ∧ r1 + c1 = r ∧ xs.length ≤ i)
    ⟨[], [], r, 0, none, rfl, ((Fr.of (same_new nl _)).two).trans f1.two, b1, hm1, hl1, .nil, rfl, by simp, body_nil k n, rfl, Nat.le_refl 0⟩ ?_ ?_⟩
  · rintro i σ H2 hi ⟨xs, ds, r1, c1, s6, rfl, f2, b2, hm2, hl2, hds, hno, hly, hc1, hrc, hxl⟩
    refine ⟨_, rfl, m, _, _, _, rfl, rfl, SqL.of hm2, atI_nat (j := 0) rfl, _, _, rfl, rfl, _, rfl, ?_⟩
    have keep : ∃ (xs : List V) (ds : List PyData) (r1 c1 : Nat) (s6' : Option V), ([some (.ref b), some (.str k), some (.ref m), some (.int dep), some (.int mo), some (.ref l), some (.int (0 + (i : Nat)))] : L2.St) = [some (.ref b), some (.str k), some (.ref m), some (.int dep), some (.int mo), some (.ref l), s6'] ∧
      Fr2 b m H H2 ∧ Bag H2 b ∧ Rm H2 m r1 ∧ H2 l = some (.lst xs) ∧ DpAll K (hide b H2) xs ds ∧ noLAll ds = true ∧ (∀ d ∈ ds, Lay d) ∧ bodyN k n (.tuple ds) = some c1 ∧ r1 + c1 = r ∧ xs.length ≤ i + 1 := ⟨xs, ds, r1, c1, _, rfl, f2, b2, hm2, hl2, hds, hno, hly, hc1, hrc, by omega⟩
    by_cases c0 : (0 : Int) < (r1 : Nat)
    · rw [decide_eq_true c0]
      refine iteT ⟨_, rfl, _, _, rfl, rfl, _, rfl, ?_⟩
      by_cases c5 : dep < 5
      · rw [decide_eq_true c5]
        refine iteT ⟨_, rfl, m, _, _, _, rfl, rfl, SqL.of hm2, atI_nat (j := 0) rfl, _, _, rfl, rfl, _, rfl, m, _, _, 0, rfl, rfl, hm2, rfl, ?_⟩
        obtain ⟨r2, rfl⟩ : ∃ r2, r1 = r2 + 1 := ⟨r1 - 1, by omega⟩
        have hm3 : Rm (upd H2 m (.lst ([V.int ((r2 + 1 : Nat) : Int)].set 0 (V.int (((r2 + 1 : Nat) : Int) - 1))))) m r2 := by
          show _ = some (HO.lst [V.int (r2 : Nat)])
          rw [upd_same]
          show some (HO.lst [V.int (((r2 + 1 : Nat) : Int) - 1)]) = _
          rw [show (((r2 + 1 : Nat) : Int) - 1) = ((r2 : Nat) : Int) by omega]
        have b3 : Bag (upd H2 m (.lst ([V.int ((r2 + 1 : Nat) : Int)].set 0 (V.int (((r2 + 1 : Nat) : Int) - 1))))) b := b2.upd nmb
        have f3 : Fr2 b m H2 (upd H2 m (.lst ([V.int ((r2 + 1 : Nat) : Int)].set 0 (V.int (((r2 + 1 : Nat) : Int) - 1))))) := Fr2.updm _
        have hl3 : (upd H2 m (.lst ([V.int ((r2 + 1 : Nat) : Int)].set 0 (V.int (((r2 + 1 : Nat) : Int) - 1))))) l = some (.lst xs) := by rw [upd_ne nlm]; exact hl2
        have hds3 := daAll_fr2 hno hds f3 hm2 nmb
        generalize upd H2 m (.lst ([V.int ((r2 + 1 : Nat) : Int)].set 0 (V.int (((r2 + 1 : Nat) : Int) - 1)))) = H3 at hm3 b3 f3 hl3 hds3 ⊢
        refine ⟨_, rfl, .inl ⟨rfl, _, SqL.of hl3⟩, _, rfl, _, rfl, _, rfl, _, rfl, by omega, b, m, k, r2, dep, rfl, by omega, by omega, b3, hm3, nmb, hk, fun H4 v d r4 c4 f4 b4 hm4 hd4 no4 ly4 hc4 hr4 => ?_⟩
        have hl4 := f4 l _ nlb nlm hl3
        have hds4 := daAll_fr2 hno hds3 f4 hm3 nmb
        refine ⟨l, _, _, rfl, rfl, hl4, ?_, xs ++ [v], ds ++ [d], r4, c1 + (1 + c4), _, rfl, ?_, b4.upd nlb, ?_, upd_same, ?_, noLAll_snoc hno no4, ?_, ?_, by omega, by rw [List.length_append]; show xs.length + 1 ≤ _; omega⟩
        · exact Nat.lt_of_le_of_lt (by omega : _ ≤ 1000) (by decide)
        · intro a o n1 n2 ha
          have nal : a ≠ l := ne_of_none ha nl
          rw [upd_ne nal]
          exact (f2.trans (f3.trans f4)) a o n1 n2 ha
        · show _ = _
          rw [upd_ne nlm.symm]
          exact hm4
        · have eD : hide b H4 l = some (.lst xs) := hide_get nlb hl4
          exact dpAll_append (dpAll_keepL hide_upd eD _ _ hno hds4) (.cons (dp_keepL hide_upd eD _ _ no4 hd4) .nil)
        · intro x mx
          rcases List.mem_append.mp mx with mx | mx
          · exact hly x mx
          · rw [List.mem_singleton.mp mx]; exact ly4
        · obtain ⟨n', rfl⟩ : ∃ n', n = n' + 1 := ⟨n - 1, by omega⟩
          rw [bodyN_tup] at hc1 ⊢
          rw [List.map_append]
          show sumO (ds.map (stN k n') ++ [stN k n' d]) = _
          rw [sumO_snoc, hc1]
          have e4 : stN k n' d = some (1 + c4) := hc4
          rw [e4]
          rfl
      · rw [decide_eq_false c5]
        exact iteF keep
    · rw [decide_eq_false c0]
      exact iteF (iteF keep)
  · rintro σ H2 ⟨xs, ds, r1, c1, s6, rfl, f2, b2, hm2, hl2, hds, hno, hly, hc1, hrc, hxl⟩
    refine ⟨_, rfl, l, _, rfl, .inl ⟨SqL.of hl2, fun t nt => ?_⟩⟩
    have g : Fr b H2 (upd H2 t (.tup xs)) := Fr.of (same_new nt _)
    refine q _ _ (.tuple ds) r1 c1 (f2.trans g.two) (b2.keep (same_new nt _)) (same_new nt _ _ _ hm2) (da_tup (b2.ne nt).symm upd_same (dpAll_mono (hide_mono g) _ _ hds)) ?_ (lay_tuple hly) hc1 hrc
    simp only [noL]
    exact hno
theorem scStmt : FnScope ["_law_bag_here", "_law_kind", "_law_room", "_law_depth", "_law_way", "_law_condition_here", "_law_first"] ["_law_bag_here", "_law_kind", "_law_room", "_law_depth"] (defScope sStmt) := ⟨rfl, rfl, rfl, by decide +kernel, rfl, by decide +kernel, by decide +kernel⟩
theorem ok_stmt {f : Addr} {fd : FuncData} {lv n : Nat} (hlv : 4 ≤ lv) (F : Fun K "_law_statement" "_law_statement" sStmt f fd) (CD : Cal P w K mg base 1 "_law_draw" ["_law_bag_here", "_law_many"] spDraw) (CM : Cal P w K mg base 4 "_law_simple" ["_law_bag_here", "_law_kind"] (spSimple K)) (CC : Cal P w K mg base 3 "_law_condition" ["_law_bag_here"] (spCondL K))
    (CB : Cal P w K mg base lv "_law_body" ["_law_bag_here", "_law_kind", "_law_room", "_law_depth", "_law_most"] (spBody K n)) :
    FnOk P w K mg base CX0 (lv + 1) f fd ["_law_bag_here", "_law_kind", "_law_room", "_law_depth"] (spStmt K n) := by
  refine F.ok scStmt (fun vs H Q E h => ?_) (fun cdv A outer s H vs Q E hr h => ?_)
  · obtain ⟨b, m, k, r, dep, rfl, _⟩ := h
    rfl
  obtain ⟨b, m, k, r, dep, rfl, hdep, hn, hb, hm, nmb, hk, q⟩ := h
  have hr1 : Room 1 _ := hr.mono (by omega)
  have hr3 : Room 3 _ := hr.mono (by omega)
  have hr4 : Room 4 _ := hr.mono (by omega)
  refine ⟨_, pss_cons (ps_set (i := 4) scStmt.nd rfl (.inl rfl) (pe_call CD.G hr1 rfl CD.m CD.kp CD.b .nil pass0 (pa_cons (pv 0) (pa_cons pe_int pa_nil))))
    (pss_cons (ps_if (pt_cmpR op_gt (pv 4) pe_int (nomark _)) (pss_one (ps_ret (pe_call CM.G hr4 rfl CM.m CM.kp CM.b .nil pass0 (pa_cons (pv 0) (pa_cons (pv 1) pa_nil))))) pss_nil)
    (pss_cons (ps_set (i := 5) scStmt.nd rfl (.inl rfl) (pe_call CC.G hr3 rfl CC.m CC.kp CC.b .nil pass0 (pa_cons (pv 0) pa_nil)))
    (pss_cons (ps_set (i := 6) scStmt.nd rfl (.inl rfl) (pe_call CB.G hr rfl CB.m CB.kp CB.b .nil pass0 (pa_cons (pv 0) (pa_cons (pv 1) (pa_cons (pv 2) (pa_cons (pe_op op_add (pv 3) pe_int) (pa_cons pe_int pa_nil)))))))
    (pss_cons (ps_if (pt_cmpR op_eq (pv 4) pe_int (nomark _)) (pss_one (ps_ret (pe_tup (pa_cons pe_str (pa_cons (pv 5) (pa_cons (pv 6) pa_nil)))))) pss_nil)
    (pss_one (ps_ret (pe_tup (pa_cons pe_str (pa_cons (pv 5) (pa_cons (pv 6) (pa_cons (pe_call CB.G hr rfl CB.m CB.kp CB.b .nil pass0 (pa_cons (pv 0) (pa_cons (pv 1) (pa_cons (pv 2) (pa_cons (pe_op op_add (pv 3) pe_int) (pa_cons (pe_op op_mul pe_int (pe_op op_sub (pv 4) pe_int)) pa_nil)))))) pa_nil))))))))))), ?_⟩
  refine ⟨_, rfl, b, 7, rfl, hb, by decide, by decide, fun H1 wy f1 b1 w0 w1 => ⟨_, rfl, _, _, rfl, rfl, _, rfl, ?_⟩⟩
  have hm1 : Rm H1 m r := f1 m _ nmb hm
  refine ite2 (fun c => ?_) (fun c => ?_)
  · refine ⟨_, rfl, _, rfl, b, k, rfl, b1, hk, fun H2 v d f2 b2 hd hp hl => ?_⟩
    exact q _ _ d r 0 (f1.trans f2).two b2 (f2 m _ nmb hm1) hd (plain_noL hp) hl (by rw [stN_plain hp]) rfl
  have c' : ¬ (2 : Int) < wy := of_decide_eq_false (Bool.eq_false_iff.mpr c)
  refine ⟨_, rfl, b, rfl, b1, fun H2 v2 d2 f2 b2 hd2 hc2 l2 => ?_⟩
  have hm2 : Rm H2 m r := f2 m _ nmb hm1
  refine ⟨_, rfl, _, rfl, _, rfl, _, rfl, _, _, rfl, rfl, b, m, k, r, _, _, rfl, by omega, by omega, b2, hm2, nmb, hk, by decide, fun H3 v3 d3 r3 c3 f3 b3 hm3 hd3 no3 l3 hb3 hr3' => ?_⟩
  have hd2' : Da K b H3 v2 d2 := da_fr2 (cond_noL hc2) hd2 f3 hm2 nmb
  have f13 : Fr2 b m H H3 := (f1.two).trans ((f2.two).trans f3)
  refine ⟨_, rfl, rfl, _, rfl, ite2 (fun c => ?_) (fun c => ?_)⟩
  · refine ⟨_, rfl, _, rfl, (by show 3 ≤ sizeLine; decide), fun t nt => ?_⟩
    have g : Fr b H3 (upd H3 t (.tup [.str "while", v2, v3])) := Fr.of (same_new nt _)
    refine q _ _ (.tuple [.str "while", d2, d3]) r3 c3 (f13.trans g.two) (b3.keep (same_new nt _)) (same_new nt _ _ _ hm3) (da_tup (b3.ne nt).symm upd_same (.cons (.str _) (.cons (hd2'.fr g) (.cons (hd3.fr g) .nil)))) ?_ (lay3 (lay_str (by decide +kernel)) l2 l3) ?_ hr3'
    · simp only [noL, noLAll, cond_noL hc2, no3]
      rfl
    · unfold stN
      have e : isOut (.tuple (.str "while" :: [d2, d3])) k = true := out_while.trans hc2
      rw [if_pos e, bods_while]
      simp only [List.drop_succ_cons, List.drop_zero, List.map_cons, List.map_nil, sumO, addO_zero, hb3]
      rfl
  · refine ⟨_, rfl, _, rfl, _, rfl, _, rfl, _, rfl, _, rfl, _, _, rfl, rfl, _, rfl, _, _, rfl, rfl, _, _, rfl, rfl, .inl (by decide), b, m, k, r3, _, _, rfl, by omega, by omega, b3, hm3, nmb, hk, by omega, fun H4 v4 d4 r4 c4 f4 b4 hm4 hd4 no4 l4 hb4 hr4' => ⟨(by show 4 ≤ sizeLine; decide), fun t nt => ?_⟩⟩
    have hd2'' : Da K b H4 v2 d2 := da_fr2 (cond_noL hc2) hd2' f4 hm3 nmb
    have hd3' : Da K b H4 v3 d3 := da_fr2 no3 hd3 f4 hm3 nmb
    have g : Fr b H4 (upd H4 t (.tup [.str "if", v2, v3, v4])) := Fr.of (same_new nt _)
    refine q _ _ (.tuple [.str "if", d2, d3, d4]) r4 (c3 + c4) (f13.trans (f4.trans g.two)) (b4.keep (same_new nt _)) (same_new nt _ _ _ hm4) (da_tup (b4.ne nt).symm upd_same (.cons (.str _) (.cons (hd2''.fr g) (.cons (hd3'.fr g) (.cons (hd4.fr g) .nil))))) ?_ (lay4 (lay_str (by decide +kernel)) l2 l3 l4) ?_ (by omega)
    · simp only [noL, noLAll, cond_noL hc2, no3, no4]
      rfl
    · unfold stN
      have e : isOut (.tuple (.str "if" :: [d2, d3, d4])) k = true := out_if.trans hc2
      rw [if_pos e, bods_if]
      simp only [List.drop_succ_cons, List.drop_zero, List.map_cons, List.map_nil, sumO, addO_zero, hb3, hb4]
      rfl
theorem none_stmt {f : Addr} {fd : FuncData} (lv : Nat) : FnOk P w K mg base CX0 lv f fd ["_law_bag_here", "_law_kind", "_law_room", "_law_depth"] (fun vs H Q E => 0 ≠ 0 ∧ spStmt K (0 - 1) vs H Q E) :=
  ⟨fun vs H Q E h => absurd rfl h.1, fun A outer s H args us vs Q E _ _ _ _ h => absurd rfl h.1⟩
theorem both {f g : Addr} {fd gd : FuncData} (FB : Fun K "_law_body" "_law_body" sBody f fd) (bB : Binds K fd ["_law_bag_here", "_law_kind", "_law_room", "_law_depth", "_law_most"] []) (mB : mg "_law_body" = some (.ref f))
    (FS : Fun K "_law_statement" "_law_statement" sStmt g gd) (bS : Binds K gd ["_law_bag_here", "_law_kind", "_law_room", "_law_depth"] []) (mS : mg "_law_statement" = some (.ref g)) (T : Gs K mg) (T2 : G2 mg)
    (CD : Cal P w K mg base 1 "_law_draw" ["_law_bag_here", "_law_many"] spDraw) (CM : Cal P w K mg base 4 "_law_simple" ["_law_bag_here", "_law_kind"] (spSimple K)) (CC : Cal P w K mg base 3 "_law_condition" ["_law_bag_here"] (spCondL K)) :
    ∀ n : Nat, FnOk P w K mg base CX0 (5 + 2 * n) f fd ["_law_bag_here", "_law_kind", "_law_room", "_law_depth", "_law_most"] (spBody K n)
  | 0 => ok_body (lv := 4) (by decide) FB T T2 CD ⟨g, gd, none_stmt 4, bS, FS.kp, mS⟩
  | n + 1 => by
    have ih := both FB bB mB FS bS mS T T2 CD CM CC n
    have st := ok_stmt (lv := 5 + 2 * n) (n := n) (by omega) FS CD CM CC ⟨f, fd, ih, bB, FB.kp, mB⟩
    have st2 : FnOk P w K mg base CX0 (5 + 2 * n + 1) g gd ["_law_bag_here", "_law_kind", "_law_room", "_law_depth"] (fun vs H Q E => n + 1 ≠ 0 ∧ spStmt K (n + 1 - 1) vs H Q E) :=
      ⟨fun vs H Q E h => st.len vs H Q E h.2, fun A outer s H args us vs Q E h1 h2 h3 h4 h => st.run A outer s H args us vs Q E h1 h2 h3 h4 h.2⟩
    exact ok_body (lv := 5 + 2 * n + 1) (n := n + 1) (by omega) FB T T2 CD ⟨g, gd, st2, bS, FS.kp, mS⟩
def spProgL (K : PySem.W.Frag) : Sp := fun vs H Q _ => ∃ (b : Addr) (k : Str), vs = [.ref b, .str k, .int 24] ∧ Bag H b ∧ (k = "teller" ∨ k = "collector") ∧
  ∀ H' t v d, Fr b H H' → Bag H' b → H' t = some (.tup [.str k, v]) → t ≠ b → Da K b H' v d → isProg (.tuple [.str k, d]) = true → Lay d → noL d = true → Q (.ref t) H'
theorem scProgL : FnScope ["_law_bag_here", "_law_kind", "_law_most", "_law_room"] ["_law_bag_here", "_law_kind", "_law_most"] (defScope sProgL) := ⟨rfl, rfl, rfl, by decide +kernel, rfl, by decide +kernel, by decide +kernel⟩
theorem ok_progL {f : Addr} {fd : FuncData} (F : Fun K "_law_program" "_law_program" sProgL f fd) (CD : Cal P w K mg base 1 "_law_draw" ["_law_bag_here", "_law_many"] spDraw) (CB : Cal P w K mg base 13 "_law_body" ["_law_bag_here", "_law_kind", "_law_room", "_law_depth", "_law_most"] (spBody K 4)) :
    FnOk P w K mg base CX0 14 f fd ["_law_bag_here", "_law_kind", "_law_most"] (spProgL K) := by
  refine F.ok scProgL (fun vs H Q E h => ?_) (fun cdv A outer s H vs Q E hr h => ?_)
  · obtain ⟨b, k, rfl, _⟩ := h
    rfl
  obtain ⟨b, k, rfl, hb, hk, q⟩ := h
  have hr1 : Room 1 _ := hr.mono (by decide)
  refine ⟨_, pss_cons (ps_set (i := 3) scProgL.nd rfl (.inl rfl) (pe_lst (pa_cons (pe_call CD.G hr1 rfl CD.m CD.kp CD.b .nil pass0 (pa_cons (pv 0) (pa_cons (pe_op op_add (pv 2) pe_int) pa_nil))) pa_nil)))
    (pss_one (ps_ret (pe_tup (pa_cons (pv 1) (pa_cons (pe_call CB.G hr rfl CB.m CB.kp CB.b .nil pass0 (pa_cons (pv 0) (pa_cons (pv 1) (pa_cons (pv 3) (pa_cons pe_int (pa_cons (pe_ix ix_list (pe_lst (pa_cons pe_int (pa_cons (pe_op op_add (pv 2) pe_int) pa_nil))) (pe_call CD.G hr1 rfl CD.m CD.kp CD.b .nil pass0 (pa_cons (pv 0) (pa_cons pe_int pa_nil))) (fun _ _ => rfl)) pa_nil)))))) pa_nil))))), ?_⟩
  refine ⟨_, rfl, _, rfl, _, _, rfl, rfl, b, _, rfl, hb, by decide, by decide, fun H1 r f1 b1 r0 r1 => ⟨(by show 1 ≤ sizeLine; decide), fun m nm => ?_⟩⟩
  obtain ⟨rn, rfl⟩ : ∃ rn : Nat, r = rn := ⟨r.toNat, by omega⟩
  have nmb : m ≠ b := (b1.ne nm).symm
  have b2 := b1.keep (same_new nm (.lst [.int (rn : Nat)]))
  have g2 : Fr b H1 (upd H1 m (.lst [.int (rn : Nat)])) := Fr.of (same_new nm _)
  have hm2 : Rm (upd H1 m (.lst [.int (rn : Nat)])) m rn := upd_same
  generalize upd H1 m (.lst [.int (rn : Nat)]) = H2 at b2 g2 hm2 ⊢
  refine ⟨_, rfl, _, rfl, _, rfl, _, rfl, _, rfl, _, _, rfl, rfl, (by show 2 ≤ sizeLine; decide), fun l nl => ?_⟩
  have nlb : l ≠ b := (b2.ne nl).symm
  have b3 := b2.keep (same_new nl (.lst [.int 7, .int (24 + 1)]))
  refine ⟨_, rfl, b, 2, rfl, b3, by decide, by decide, fun H4 r4 f4 b4 r40 r41 => ?_⟩
  have hm4 : Rm H4 m rn := f4 m _ nmb (same_new nl _ _ _ hm2)
  obtain ⟨x, hx, hc⟩ := at2 (x := V.int 7) (y := V.int (24 + 1)) r40 r41
  refine ⟨l, _, _, _, rfl, rfl, SqL.of (f4 l _ nlb upd_same), hx, ?_⟩
  obtain ⟨mo, rfl, hmo⟩ : ∃ mo : Int, x = .int mo ∧ mo < 1000 := by
    rcases hc with rfl | rfl
    · exact ⟨_, rfl, by decide⟩
    · exact ⟨_, rfl, by decide⟩
  refine ⟨b, m, k, rn, 1, mo, rfl, by decide, by decide, b4, hm4, nmb, hk, hmo, fun H5 v d r5 c5 f5 b5 hm5 hd5 no5 ly5 hc5 hr5 => ⟨(by show 2 ≤ sizeLine; decide), fun t nt => ?_⟩⟩
  have g6 : Fr b H5 (upd H5 t (.tup [.str k, v])) := Fr.of (same_new nt _)
  have fr : Fr b H (upd H5 t (.tup [.str k, v])) := by
    intro a o n1 ha
    have ha1 := f1 a o n1 ha
    have nam : a ≠ m := ne_of_none ha1 nm
    exact g6 a o n1 (f5 a o n1 nam (f4 a o n1 (same_new nl _ _ _ (g2 a o n1 ha1))))
  refine q _ _ _ d fr (b5.keep (same_new nt _)) upd_same (b5.ne nt).symm (hd5.fr g6) ?_ ly5 no5
  show (inS (.str k) kinds && okN 0 (bodyN k 4 d)) = true
  rw [kinds_in hk, hc5]
  exact decide_eq_true (by omega)
end
section
variable {X : Cx}
def rInSL (K : PySem.W.Frag) (neg : Bool) : R2 := fun x y H Q => ∃ (d : PyData) (zs : List Str) (p : Addr), y = .ref p ∧ Dp K H x d ∧ d.canLay0 = true ∧ H p = some (.lst (zs.map V.str)) ∧ zs.all PyData.strOk = true ∧
  Q (.bl (if neg then !inS d zs else inS d zs)) H
theorem op_inSL (hu : X.A.units + 65 < cLine) : OpR X (compareOp .In) (rInSL X.K false) := by
  intro pins s σ H x y v u Q I rx ry h
  obtain ⟨d, zs, p, rfl, hd, ld, hz, oz, q⟩ := h
  obtain ⟨as, r1⟩ := Dp.reads I d x v hd rx
  obtain ⟨bs, r2⟩ := Dp.reads I (.list (zs.map PyData.str)) (.ref p) u (.lst (SqL.of hz) (dp_strs zs)) ry
  refine SeqAt.in_list_reads r2 r1 (lay_strs zs oz) ld ?_ ⟨.bl _, H, I, rfl, ?_⟩
  · rw [depth_strs]
    have := Nat.min_le_left 0 d.depth
    omega
  · rw [any_strs]; exact q
theorem op_notInSL (hu : X.A.units + 65 < cLine) : OpR X (compareOp .NotIn) (rInSL X.K true) := by
  intro pins s σ H x y v u Q I rx ry h
  obtain ⟨d, zs, p, rfl, hd, ld, hz, oz, q⟩ := h
  obtain ⟨as, r1⟩ := Dp.reads I d x v hd rx
  obtain ⟨bs, r2⟩ := Dp.reads I (.list (zs.map PyData.str)) (.ref p) u (.lst (SqL.of hz) (dp_strs zs)) ry
  refine SeqAt.notIn_list_reads r2 r1 (lay_strs zs oz) ld ?_ ⟨.bl _, H, I, rfl, ?_⟩
  · rw [depth_strs]
    have := Nat.min_le_left 0 d.depth
    omega
  · rw [any_strs]; exact q
end
def isInt (d : PyData) : Bool := match d with | .int _ => true | _ => false
def spL1 (f : PyData → Bool) (K : PySem.W.Frag) : Sp := fun vs H Q _ => ∃ (v : V) (d : PyData), vs = [v] ∧ Dp K H v d ∧ Lay d ∧ ∀ H', Same H H' → Q (.bl (f d)) H'
theorem isT_int {d : PyData} : (isT d "int" && !isT d "bool") = isInt d := by cases d <;> rfl
section
variable {P : Program} {w : World} {K : PySem.W.Frag} {mg : Str → Option Value} {base : Heap}
def isVar (d : PyData) : Bool := inS d vars
theorem dp_three {H : Hp} {xs : List V} {ds : List PyData} (h : DpAll K H xs ds) (l : ds.length = 3) : ∃ x0 x1 x2 d0 d1 d2, xs = [x0, x1, x2] ∧ ds = [d0, d1, d2] ∧ Dp K H x0 d0 ∧ Dp K H x1 d1 ∧ Dp K H x2 d2 := by
  match ds, l, h with
  | [d0, d1, d2], _, .cons (v := x0) h0 (.cons (v := x1) h1 (.cons (v := x2) h2 .nil)) => exact ⟨x0, x1, x2, d0, d1, d2, rfl, rfl, h0, h1, h2⟩
end
theorem strT {z : Str} {A B : Prop} (h : A) : if decide (V.str z = V.str z) = true then A else B := by
  rw [if_pos (decide_eq_true rfl)]; exact h
theorem strF {z y : Str} {A B : Prop} (n : ¬ z = y) (h : B) : if decide (V.str z = V.str y) = true then A else B := by
  rw [if_neg (by intro c; have c' := of_decide_eq_true c; injection c' with c''; exact n c'')]; exact h
def lenOf (z : Str) : Int := if z = "set" then 2 else if z = "add" then 2 else if z = "wait" then 1 else if z = "ask" then 3 else if z = "answer" then 1 else if z = "grow" then 1 else if z = "list" then 1 else -1
def kv7 : List (Key × V) := [(.inr "set", .int 2), (.inr "add", .int 2), (.inr "wait", .int 1), (.inr "ask", .int 3), (.inr "answer", .int 1), (.inr "grow", .int 1), (.inr "list", .int 1)]
theorem merge7 : mergeK [] kv7 = kv7 := by decide +kernel
theorem valV_eq {k : Key} {v : V} {r : List (Key × V)} : valV ((k, v) :: r) k = some v := by
  unfold valV; rw [List.find?_cons_of_pos (by exact decide_eq_true rfl)]; rfl
theorem valV_ne {z x : Str} {v : V} {r : List (Key × V)} (n : ¬ z = x) : valV (((Sum.inr x : Key), v) :: r) (Sum.inr z) = valV r (Sum.inr z) := by
  unfold valV; rw [List.find?_cons_of_neg (by intro c; have c' := of_decide_eq_true c; injection c' with c''; exact n c''.symm)]
theorem get7 (z : Str) : (valV kv7 (.inr z)).getD (.int (-1)) = .int (lenOf z) := by
  unfold kv7 lenOf
  by_cases h1 : z = "set"
  · subst h1; rw [valV_eq, if_pos rfl]; rfl
  rw [valV_ne h1, if_neg h1]
  by_cases h2 : z = "add"
  · subst h2; rw [valV_eq, if_pos rfl]; rfl
  rw [valV_ne h2, if_neg h2]
  by_cases h3 : z = "wait"
  · subst h3; rw [valV_eq, if_pos rfl]; rfl
  rw [valV_ne h3, if_neg h3]
  by_cases h4 : z = "ask"
  · subst h4; rw [valV_eq, if_pos rfl]; rfl
  rw [valV_ne h4, if_neg h4]
  by_cases h5 : z = "answer"
  · subst h5; rw [valV_eq, if_pos rfl]; rfl
  rw [valV_ne h5, if_neg h5]
  by_cases h6 : z = "grow"
  · subst h6; rw [valV_eq, if_pos rfl]; rfl
  rw [valV_ne h6, if_neg h6]
  by_cases h7 : z = "list"
  · subst h7; rw [valV_eq, if_pos rfl]; rfl
  rw [valV_ne h7, if_neg h7]
  rfl
theorem l_set : lenOf "set" = 2 := by decide +kernel
theorem l_add : lenOf "add" = 2 := by decide +kernel
theorem l_wait : lenOf "wait" = 1 := by decide +kernel
theorem l_answer : lenOf "answer" = 1 := by decide +kernel
theorem l_ask : lenOf "ask" = 3 := by decide +kernel
theorem dp_one {K : PySem.W.Frag} {H : Hp} {xs : List V} {ds : List PyData} (h : DpAll K H xs ds) (l : ds.length = 1) : ∃ x0 d0, xs = [x0] ∧ ds = [d0] ∧ Dp K H x0 d0 := by
  match ds, l, h with
  | [d0], _, .cons (v := x0) h0 .nil => exact ⟨x0, d0, rfl, rfl, h0⟩
theorem plain_len {z k : Str} {ps : List PyData} (hk : k = "teller" ∨ k = "collector") (h : isPlain (.tuple (.str z :: ps)) k = true) : (ps.length : Int) = lenOf z := by
  obtain ⟨z', ps', rs, e, hz, hl, _⟩ := plain_inv h
  injection e with e
  injection e with e1 e2
  injection e1 with e1
  subst e1 e2
  rw [hl]
  unfold rolesZ at hz
  unfold lenOf
  rcases hk with rfl | rfl
  all_goals
    repeat' split at hz
    all_goals first | cases hz | skip
    all_goals (subst_vars; first | decide +kernel | (rename_i h1; revert h1; decide +kernel))
def spSimpleL (K : PySem.W.Frag) : Sp := fun vs H Q _ => ∃ (v : V) (k z : Str) (ps : List PyData), vs = [.str k, v] ∧ Dp K H v (.tuple (.str z :: ps)) ∧ Lay (.tuple (.str z :: ps)) ∧ (k = "teller" ∨ k = "collector") ∧ ∀ H', Same H H' → Q (.bl (isPlain (.tuple (.str z :: ps)) k)) H'
theorem plainE1 {z k r : Str} {p : PyData} (h : rolesZ z k = some [r]) : isPlain (.tuple [.str z, p]) k = isPart p r := by rw [plain_some h]; simp [allParts]
theorem plainE2 {z k r1 r2 : Str} {p1 p2 : PyData} (h : rolesZ z k = some [r1, r2]) : isPlain (.tuple [.str z, p1, p2]) k = (isPart p1 r1 && isPart p2 r2) := by rw [plain_some h]; simp [allParts]
theorem plainE3 {z k r1 r2 r3 : Str} {p1 p2 p3 : PyData} (h : rolesZ z k = some [r1, r2, r3]) : isPlain (.tuple [.str z, p1, p2, p3]) k = (isPart p1 r1 && (isPart p2 r2 && isPart p3 r3)) := by rw [plain_some h]; simp [allParts]
theorem plainE0 {z k : Str} {ps : List PyData} (h : rolesZ z k = none) : isPlain (.tuple (.str z :: ps)) k = false := plain_none (d := .tuple (.str z :: ps)) h
/-- an integer within bounds, asked by the law's words -/
theorem within {lo hi : Int} {K : PySem.W.Frag} {H : Hp} {v : V} {d : PyData} (hd : Dp K H v d) : (isInt d = true → ∃ i, v = .int i ∧ d = .int i) ∧ (isInt d = false → intIn d lo hi = false) := by
  cases hd with
  | int i => exact ⟨fun _ => ⟨i, rfl, rfl⟩, fun h => (nomatch h)⟩
  | _ => exact ⟨fun h => (nomatch h), fun _ => rfl⟩
section
variable {P : Program} {w : World} {K : PySem.W.Frag} {mg : Str → Option Value} {base : Heap}
end
def oV : Option Nat → V
  | some n => .int (n : Nat)
  | none => .non
def oneN (k : Str) : Nat → PyData → Option Nat
  | 0, _ => none
  | n + 1, d => stN k n d
theorem body_oneN (k : Str) (n : Nat) (ss : List PyData) : bodyN k n (.tuple ss) = sumO (ss.map (oneN k n)) := by
  cases n with
  | zero =>
    cases ss with
    | nil => rfl
    | cons s t =>
      show none = _
      simp only [List.map_cons, sumO, oneN, none_addO]
  | succ n => exact bodyN_tup k n ss
theorem flat_oV : ∀ os : List (Option Nat), (os.map oV).all flatV = true
  | [] => rfl
  | o :: r => by
    rw [List.map_cons, List.all_cons, flat_oV r, Bool.and_true]
    cases o <;> rfl
theorem inV_oV : ∀ os : List (Option Nat), inV .non (os.map oV) = os.any (·.isNone)
  | [] => rfl
  | o :: r => by
    have ih := inV_oV r
    unfold inV at ih ⊢
    rw [List.map_cons, List.any_cons, List.any_cons, ih]
    cases o <;> rfl
theorem sumO_any : ∀ {os : List (Option Nat)}, os.any (·.isNone) = true → sumO os = none
  | o :: r, h => by
    rw [List.any_cons, Bool.or_eq_true] at h
    simp only [sumO]
    rcases h with h | h
    · cases o with
      | none => exact none_addO _
      | some _ => cases h
    · rw [sumO_any h, addO_none]
theorem sumO_some : ∀ {os : List (Option Nat)}, os.any (·.isNone) = false → ∃ ns : List Nat, os.map oV = (ns.map (fun n : Nat => (n : Int))).map V.int ∧ sumO os = some ns.sum
  | [], _ => ⟨[], rfl, rfl⟩
  | o :: r, h => by
    rw [List.any_cons, Bool.or_eq_false_iff] at h
    obtain ⟨ns, e1, e2⟩ := sumO_some h.2
    cases o with
    | none => cases h.1
    | some n =>
      refine ⟨n :: ns, ?_, ?_⟩
      · rw [List.map_cons, e1]; rfl
      · simp only [sumO, e2, addO, List.sum_cons]
theorem sum_cast (ns : List Nat) : (ns.map (fun n : Nat => (n : Int))).sum = ((ns.sum : Nat) : Int) := by
  induction ns with
  | nil => rfl
  | cons n r ih => rw [List.map_cons, List.sum_cons, ih, List.sum_cons]; omega
mutual
def wd (m : Nat) : PyData → Bool
  | .tuple xs => decide (xs.length ≤ m) && wdAll m xs
  | .list xs => decide (xs.length ≤ m) && wdAll m xs
  | .none | .bool _ | .int _ | .str _ | .dict _ => true
def wdAll (m : Nat) : List PyData → Bool
  | [] => true
  | x :: xs => wd m x && wdAll m xs
end
mutual
theorem wd_mono {m m' : Nat} (h : m ≤ m') : ∀ d : PyData, wd m d = true → wd m' d = true
  | .none, _ => by simp only [wd]
  | .bool _, _ => by simp only [wd]
  | .int _, _ => by simp only [wd]
  | .str _, _ => by simp only [wd]
  | .dict _, _ => by simp only [wd]
  | .tuple xs, e => by
    simp only [wd, Bool.and_eq_true, decide_eq_true_eq] at e ⊢
    exact ⟨by omega, wdAll_mono h xs e.2⟩
  | .list xs, e => by
    simp only [wd, Bool.and_eq_true, decide_eq_true_eq] at e ⊢
    exact ⟨by omega, wdAll_mono h xs e.2⟩
theorem wdAll_mono {m m' : Nat} (h : m ≤ m') : ∀ ds : List PyData, wdAll m ds = true → wdAll m' ds = true
  | [], _ => by simp only [wdAll]
  | x :: xs, e => by
    simp only [wdAll, Bool.and_eq_true] at e ⊢
    exact ⟨wd_mono h x e.1, wdAll_mono h xs e.2⟩
end
theorem wdAll_iff {m : Nat} : ∀ {ds : List PyData}, wdAll m ds = true ↔ ∀ d ∈ ds, wd m d = true
  | [] => by simp [wdAll]
  | x :: xs => by
    simp only [wdAll, Bool.and_eq_true, wdAll_iff (ds := xs)]
    constructor
    · intro h d md
      rcases List.mem_cons.mp md with e | md
      · rw [e]; exact h.1
      · exact h.2 d md
    · intro h
      exact ⟨h x (by simp), fun d md => h d (List.mem_cons_of_mem _ md)⟩
theorem wd_tup {m : Nat} {ds : List PyData} : wd m (.tuple ds) = true ↔ ds.length ≤ m ∧ ∀ d ∈ ds, wd m d = true := by
  simp only [wd, Bool.and_eq_true, decide_eq_true_eq, wdAll_iff]
theorem wd_of_noDeep {m : Nat} {d : PyData} (h : isT d "tuple" = false) (h2 : noL d = true) : wd m d = true := by
  cases d with
  | tuple xs => cases h
  | list xs => simp [noL] at h2
  | _ => simp only [wd]
theorem part_wd {m : Nat} {p : PyData} {r : Str} (h : isPart p r = true) : wd m p = true := by
  cases p with
  | list xs => unfold isPart at h; repeat' split at h
               all_goals simp [inS, isTerm, intIn] at h
  | tuple xs => unfold isPart at h; repeat' split at h
                all_goals simp [inS, isTerm, intIn] at h
  | _ => simp only [wd]
theorem parts_wd {m : Nat} : ∀ {ps : List PyData} {rs : List Str}, ps.length = rs.length → allParts ps rs = true → wdAll m ps = true
  | [], _, _, _ => by simp only [wdAll]
  | p :: ps, [], l, _ => by simp at l
  | p :: ps, r :: rs, l, h => by
    have h' : isPart p r = true ∧ allParts ps rs = true := by
      simpa [allParts] using h
    simp only [wdAll, Bool.and_eq_true]
    exact ⟨part_wd h'.1, parts_wd (by simpa using l) h'.2⟩
theorem plain_wd {d : PyData} {k : Str} (h : isPlain d k = true) : wd 30 d = true := by
  obtain ⟨z, ps, rs, rfl, hz, hl, hp⟩ := plain_inv h
  have h3 := roles_short hz
  simp only [wd, wdAll, Bool.true_and, Bool.and_eq_true, decide_eq_true_eq, List.length_cons]
  exact ⟨by omega, parts_wd hl hp⟩
theorem cond_wd {d : PyData} (h : isCond d = true) : wd 30 d = true := by
  match d, h with
  | .tuple [x, y, z], h =>
    have h' : (inS x vars && inS y signs && isTerm z) = true := h
    rw [Bool.and_eq_true, Bool.and_eq_true] at h'
    have a1 : wd 30 x = true := part_wd (r := "variable") (by rw [part_variable]; exact h'.1.1)
    have a2 : wd 30 y = true := by
      cases y with
      | list _ => simp [inS] at h'
      | tuple _ => simp [inS] at h'
      | _ => simp only [wd]
    have a3 : wd 30 z = true := part_wd (r := "term") (by rw [part_term]; exact h'.2)
    simp only [wd, wdAll, a1, a2, a3]
    rfl
theorem addO_le {x y : Option Nat} {c : Nat} (h : addO x y = some c) : ∃ a b, x = some a ∧ y = some b ∧ a ≤ c ∧ b ≤ c := by
  cases x with
  | none => rw [none_addO] at h; cases h
  | some a =>
    cases y with
    | none => cases h
    | some b =>
      have e : a + b = c := by injection h
      exact ⟨a, b, rfl, rfl, by omega, by omega⟩
theorem sumO_mem {xs : List (Option Nat)} : ∀ {c : Nat}, sumO xs = some c → ∀ x ∈ xs, ∃ a, x = some a ∧ a ≤ c := by
  induction xs with
  | nil => intro c _ x m; cases m
  | cons y r ih =>
    intro c h x m
    obtain ⟨a, b, e1, e2, l1, l2⟩ := addO_le (show addO y (sumO r) = some c from h)
    rcases List.mem_cons.mp m with rfl | m
    · exact ⟨a, e1, l1⟩
    · obtain ⟨a', e, l⟩ := ih e2 x m
      exact ⟨a', e, by omega⟩
theorem body_wd {k : Str} : ∀ {n c : Nat} {d : PyData}, c ≤ 24 → bodyN k n d = some c → wd 30 d = true
  | 0, c, d, hc, h => by
    match d, h with
    | .tuple [], _ => rfl
  | n + 1, c, d, hc, h => by
    cases ht : isT d "tuple" with
    | false => rw [bodyN_no k _ ht] at h; cases h
    | true =>
      obtain ⟨ss, rfl⟩ := isT_tup ht
      rw [bodyN_tup] at h
      have hl := sumO_ge h
      rw [wd_tup]
      refine ⟨by omega, fun s ms => ?_⟩
      obtain ⟨a, ea, la⟩ := sumO_mem h (stN k n s) (List.mem_map_of_mem ms)
      unfold stN at ea
      split at ea
      · rename_i ho
        obtain ⟨a1, b1, _, e2, _, l2⟩ := addO_le ea
        obtain ⟨z, ps, rfl⟩ := out_word ho
        have hb : ∀ b ∈ bodsOf (.tuple (.str z :: ps)), wd 30 b = true := fun b mb => by
          obtain ⟨x, ex, lx⟩ := sumO_mem e2 _ (List.mem_map_of_mem mb)
          exact body_wd (n := n) (c := x) (by omega) ex
        by_cases h1 : z = "if"
        · subst h1
          rw [out_if] at ho
          rw [bods_if] at hb
          match ps, ho, hb with
          | [c0, b1, b2], ho, hb =>
            have w1 := cond_wd (d := c0) ho
            have w2 := hb b1 (by simp)
            have w3 := hb b2 (by simp)
            simp only [wd, wdAll, w1, w2, w3]
            rfl
        by_cases h2 : z = "while"
        · subst h2
          rw [out_while] at ho
          rw [bods_while] at hb
          match ps, ho, hb with
          | [c0, b1], ho, hb =>
            have w1 := cond_wd (d := c0) ho
            have w2 := hb b1 (by simp)
            simp only [wd, wdAll, w1, w2]
            rfl
        · rw [out_else h1 h2] at ho
          exact plain_wd ho
      · cases ea
theorem prog_wd {d : PyData} (h : isProg d = true) : wd 30 d = true := by
  match d, h with
  | .tuple [.str k, b], h =>
    have h' : (inS (.str k) kinds && okN 0 (bodyN k 4 b)) = true := h
    rw [Bool.and_eq_true] at h'
    cases e : bodyN k 4 b with
    | none => rw [e] at h'; cases h'.2
    | some c =>
      rw [e] at h'
      have hc : 0 + c ≤ 24 := of_decide_eq_true h'.2
      have w := body_wd (by omega) e
      simp only [wd, wdAll, w]
      rfl
def spOne (K : PySem.W.Frag) (n : Nat) : Sp := fun vs H Q _ => ∃ (v : V) (d : PyData) (k : Str) (dep : Int), vs = [.str k, v, .int dep] ∧ dep = 5 - (n : Int) ∧ n ≤ 4 ∧ Dp K H v d ∧ Lay d ∧ wd 31 d = true ∧ (k = "teller" ∨ k = "collector") ∧ ∀ H', Same H H' → Q (oV (oneN k n d)) H'
def spCnt (K : PySem.W.Frag) (n : Nat) : Sp := fun vs H Q _ => ∃ (v : V) (d : PyData) (k : Str) (dep : Int), vs = [.str k, v, .int dep] ∧ dep = 5 - (n : Int) ∧ n ≤ 4 ∧ Dp K H v d ∧ Lay d ∧ wd 31 d = true ∧ (k = "teller" ∨ k = "collector") ∧ ∀ H', Same H H' → Q (oV (bodyN k n d)) H'
section
variable {P : Program} {w : World} {K : PySem.W.Frag} {mg : Str → Option Value} {base : Heap}
theorem oneN_no {k : Str} {n : Nat} {d : PyData} (h : isOut d k = false) : oneN k n d = none := by
  cases n with
  | zero => rfl
  | succ n => show stN k n d = none; unfold stN; rw [if_neg (by rw [h]; decide)]
theorem none_cnt {f : Addr} {fd : FuncData} (lv : Nat) : FnOk P w K mg base CX0 lv f fd ["_law_kind", "_law_body_here", "_law_depth"] (fun vs H Q E => 0 ≠ 0 ∧ spCnt K (0 - 1) vs H Q E) :=
  ⟨fun vs H Q E h => absurd rfl h.1, fun A outer s H args us vs Q E _ _ _ _ h => absurd rfl h.1⟩
def spProgC (K : PySem.W.Frag) : Sp := fun vs H Q _ => ∃ (v : V) (d : PyData), vs = [v] ∧ Dp K H v d ∧ Lay d ∧ wd 31 d = true ∧ ∀ H', Same H H' → Q (.bl (isProg d)) H'
end
theorem alloc_tup {K : PySem.W.Frag} {b p : Addr} {H : Hp} {xs : List V} {ds : List PyData} (hb : Bag H b) (np : H p = none) (ha : DpAll K (hide b H) xs ds) :
    Bag (upd H p (.tup xs)) b ∧ Fr b H (upd H p (.tup xs)) ∧ Da K b (upd H p (.tup xs)) (.ref p) (.tuple ds) :=
  ⟨hb.keep (same_new np _), Fr.of (same_new np _), da_tup (hb.ne np).symm upd_same (dpAll_mono (hide_mono (Fr.of (same_new np _))) _ _ ha)⟩
theorem alloc_lst {K : PySem.W.Frag} {b p : Addr} {H : Hp} {xs : List V} {ds : List PyData} (hb : Bag H b) (np : H p = none) (ha : DpAll K (hide b H) xs ds) :
    Bag (upd H p (.lst xs)) b ∧ Fr b H (upd H p (.lst xs)) ∧ Da K b (upd H p (.lst xs)) (.ref p) (.list ds) :=
  ⟨hb.keep (same_new np _), Fr.of (same_new np _), .lst (SqL.of (hide_get (hb.ne np).symm upd_same)) (dpAll_mono (hide_mono (Fr.of (same_new np _))) _ _ ha)⟩
def odd1 : List PyData := [.none, .bool true, .bool false, .int 0, .int 1, .int 2, .int 15, .int 16, .int (-1), .int longest, .int (longest + 1), .str "", .str "a", .str "b", .str "c", .str "==", .str "<=", .str "x", .str "3"]
def odd2 : List PyData := [.tuple [], .list [], .tuple [.str "a"], .tuple [.str "a", .str "==", .int 3], .list [.str "a", .str "==", .int 3], .tuple [.str "set", .str "a", .int 3], .tuple [.str "answer", .int 1], .tuple [.str "list", .str "b"]]
def odd3 : List PyData := [.tuple [.str "wait", .int 0], .tuple [.str "while", .tuple [.str "a", .str "<", .int 3], .tuple []], .tuple [.str "if", .tuple [.str "a", .str "<", .int 3], .tuple []], .str "teller", .str "collector", .str "set"]
theorem odd_ok : (odd1 ++ odd2 ++ odd3).all (fun d => d.canLay0 && wd 30 d) = true := by decide +kernel
theorem odd_mem {d : PyData} (h : d ∈ odd1 ++ odd2 ++ odd3) : Lay d ∧ wd 30 d = true := by
  have e := List.all_eq_true.mp odd_ok d h
  rw [Bool.and_eq_true] at e
  exact e
def vals1 : List V := [.non, .bl true, .bl false, .int 0, .int 1, .int 2, .int 15, .int 16, .int (-1), .int longest, .int (longest + 1), .str "", .str "a", .str "b", .str "c", .str "==", .str "<=", .str "x", .str "3"]
theorem dp_odd1 {K : PySem.W.Frag} {H : Hp} : DpAll K H vals1 odd1 :=
  .cons .non (.cons (.bl _) (.cons (.bl _) (.cons (.int _) (.cons (.int _) (.cons (.int _) (.cons (.int _) (.cons (.int _) (.cons (.int _) (.cons (.int _) (.cons (.int _) (.cons (.str _) (.cons (.str _) (.cons (.str _) (.cons (.str _) (.cons (.str _) (.cons (.str _) (.cons (.str _) (.cons (.str _) .nil))))))))))))))))))
theorem sq_keep {b p : Addr} {H H' : Hp} {o : HO} (f : Fr b H H') (n : p ≠ b) (h : H p = some o) : H' p = some o := f p o n h
def spOdd (K : PySem.W.Frag) : Sp := fun vs H Q _ => ∃ (b : Addr), vs = [.ref b] ∧ Bag H b ∧ ∀ H' v d, Fr b H H' → Bag H' b → Da K b H' v d → Lay d → wd 30 d = true → Q v H'
theorem Da.lift {K : PySem.W.Frag} {b : Addr} {H H' : Hp} {vs : List V} {ds : List PyData} (h : DpAll K (hide b H) vs ds) (x : Fr b H H') : DpAll K (hide b H') vs ds := dpAll_mono (hide_mono x) _ _ h
section
variable {P : Program} {w : World} {K : PySem.W.Frag} {mg : Str → Option Value} {base : Heap}
end
theorem cut_whole {xs : List V} {lo hi : Option Int} (h : HT.sIx xs.length 0 lo = 0 ∧ HT.sIx xs.length xs.length hi = xs.length) : cutV xs lo hi = xs := by
  unfold cutV
  rw [h.1, h.2, List.drop_zero, Nat.sub_zero, List.take_length]
section
variable {X : Cx}
def rSlE (K : PySem.W.Frag) : V → Option Int → Option Int → Hp → VK → Prop := fun x lo hi H Q => ∃ bg a xs, x = .ref a ∧ SqT K (hide bg H) a xs ∧ Bag H bg ∧ ∀ w H', Same H H' → SqT K (hide bg H') w (cutV xs lo hi) → Q (.ref w) H'
theorem sl_tupE : SlR X (rSlE X.K) := by
  intro pins s σ H x v vl vu lo hi sl Q I rx hs pl pu h
  obtain ⟨bg, a, xs, rfl, ha, hB, q⟩ := h
  refine sl_tupA pins s σ H _ v vl vu lo hi sl Q I rx hs pl pu ⟨a, xs, rfl, Same.tup (hide_same _ _) ha, fun hw => ?_, fun _ p np => ?_⟩
  · exact q a H (Same.refl H) (by rw [cut_whole hw]; exact ha)
  · exact q p _ (same_new np _) (SqT.of (hide_get (hB.ne np).symm upd_same))
def rCatH (K : PySem.W.Frag) (bg : Addr) : R2 := fun x y H Q => ∃ a b xs ys, x = .ref a ∧ y = .ref b ∧ SqT K (hide bg H) a xs ∧ SqT K (hide bg H) b ys ∧ xs.length + ys.length ≤ sizeLine ∧ Bag H bg ∧ ∀ w H', Same H H' → SqT K (hide bg H') w (xs ++ ys) → Q (.ref w) H'
theorem op_catH (bg : Addr) : OpR X (binaryOp .Add) (rCatH X.K bg) := by
  intro pins s σ H x y v u Q I rx ry h
  obtain ⟨a, b, xs, ys, rfl, rfl, ha, hb, hz, hB, q⟩ := h
  refine op_catA pins s σ H _ _ v u Q I rx ry ⟨a, b, xs, ys, rfl, rfl, Same.tup (hide_same _ _) ha, Same.tup (hide_same _ _) hb, hz, fun e => ?_, fun _ e => ?_, fun _ _ p np => ?_⟩
  · exact q b H (Same.refl H) (by rw [e]; exact hb)
  · exact q a H (Same.refl H) (by rw [e, List.append_nil]; exact ha)
  · exact q p _ (same_new np _) (SqT.of (hide_get (hB.ne np).symm upd_same))
def rCatE (K : PySem.W.Frag) : R2 := fun x y H Q => ∃ bg, rCatH K bg x y H Q
theorem op_catE : OpR X (binaryOp .Add) (rCatE X.K) := by
  intro pins s σ H x y v u Q I rx ry h
  obtain ⟨bg, h⟩ := h
  exact op_catH bg pins s σ H x y v u Q I rx ry h
end
def spSpoilt (K : PySem.W.Frag) (n : Nat) : Sp := fun vs H Q _ => ∃ (b : Addr) (v : V) (d : PyData), vs = [.ref b, v] ∧ Bag H b ∧ Da K b H v d ∧ Lay d ∧ wd 30 d = true ∧ d.depth ≤ n ∧ ∀ H' v' d', Fr b H H' → Bag H' b → Da K b H' v' d' → Lay d' → wd 31 d' = true → Q v' H'
theorem depth_mem {ds : List PyData} : ∀ {d : PyData}, d ∈ ds → d.depth ≤ PyData.depthAll ds := by
  induction ds with
  | nil => intro d m; cases m
  | cons x r ih =>
    intro d m
    simp only [PyData.depthAll]
    rcases List.mem_cons.mp m with rfl | m
    · omega
    · have := ih m
      omega
theorem depth_tup (ds : List PyData) : (PyData.tuple ds).depth = PyData.depthAll ds + 1 := by simp only [PyData.depth]
theorem depth_all {ds : List PyData} {n : Nat} (h : ∀ d ∈ ds, d.depth ≤ n) : PyData.depthAll ds ≤ n := by
  induction ds with
  | nil => exact Nat.zero_le _
  | cons x r ih =>
    simp only [PyData.depthAll]
    have h1 := h x (by simp)
    have h2 := ih fun d m => h d (List.mem_cons_of_mem _ m)
    omega
section
variable {P : Program} {w : World} {K : PySem.W.Frag} {mg : Str → Option Value} {base : Heap}
theorem none_spoilt {f : Addr} {fd : FuncData} (lv : Nat) : FnOk P w K mg base CX0 lv f fd ["_law_bag_here", "_law_thing"] (fun vs H Q E => 0 ≠ 0 ∧ spSpoilt K (0 - 1) vs H Q E) :=
  ⟨fun vs H Q E h => absurd rfl h.1, fun A outer s H args us vs Q E _ _ _ _ h => absurd rfl h.1⟩
end
theorem part_flat {p : PyData} {r : Str} (h : isPart p r = true) : p.depth = 0 := by
  cases p with
  | list xs => unfold isPart at h; repeat' split at h
               all_goals simp [inS, isTerm, intIn] at h
  | tuple xs => unfold isPart at h; repeat' split at h
                all_goals simp [inS, isTerm, intIn] at h
  | dict xs => unfold isPart at h; repeat' split at h
               all_goals simp [inS, isTerm, intIn] at h
  | _ => simp only [PyData.depth]
theorem inS_flat {d : PyData} {zs : List Str} (h : inS d zs = true) : d.depth = 0 := by
  cases d with
  | list xs => simp [inS] at h
  | tuple xs => simp [inS] at h
  | dict xs => simp [inS] at h
  | _ => simp only [PyData.depth]
theorem parts_flat : ∀ {ps : List PyData} {rs : List Str}, ps.length = rs.length → allParts ps rs = true → PyData.depthAll ps = 0
  | [], _, _, _ => by simp only [PyData.depthAll]
  | p :: ps, [], l, _ => by simp at l
  | p :: ps, r :: rs, l, h => by
    have h' : isPart p r = true ∧ allParts ps rs = true := by
      simpa [allParts] using h
    simp only [PyData.depthAll, part_flat h'.1, parts_flat (by simpa using l) h'.2]
    rfl
theorem plain_depth {d : PyData} {k : Str} (h : isPlain d k = true) : d.depth ≤ 1 := by
  obtain ⟨z, ps, rs, rfl, hz, hl, hp⟩ := plain_inv h
  simp only [PyData.depth, PyData.depthAll, parts_flat hl hp]
  decide
theorem cond_depth {d : PyData} (h : isCond d = true) : d.depth ≤ 1 := by
  match d, h with
  | .tuple [x, y, z], h =>
    have h' : (inS x vars && inS y signs && isTerm z) = true := h
    rw [Bool.and_eq_true, Bool.and_eq_true] at h'
    have a3 : z.depth = 0 := part_flat (r := "term") (by rw [part_term]; exact h'.2)
    simp only [PyData.depth, PyData.depthAll, inS_flat h'.1.1, inS_flat h'.1.2, a3]
    decide
def isNil : PyData → Bool
  | .tuple [] => true
  | _ => false
/-- the three shapes of a statement -/
theorem st_shape {k : Str} {n c : Nat} {s : PyData} (h : stN k n s = some c) :
    (∃ z ps, s = .tuple (.str z :: ps) ∧ ¬ z = "if" ∧ ¬ z = "while" ∧ isPlain s k = true ∧ c = 1) ∨
    (∃ co b c', s = .tuple [.str "while", co, b] ∧ isCond co = true ∧ bodyN k n b = some c' ∧ c = 1 + c') ∨
    (∃ co b1 b2 c1 c2, s = .tuple [.str "if", co, b1, b2] ∧ isCond co = true ∧ bodyN k n b1 = some c1 ∧ bodyN k n b2 = some c2 ∧ c = 1 + (c1 + c2)) := by
  unfold stN at h
  split at h
  · rename_i ho
    obtain ⟨z, ps, rfl⟩ := out_word ho
    by_cases h1 : z = "if"
    · subst h1
      rw [out_if] at ho
      rw [bods_if] at h
      match ps, ho, h with
      | [co, b1, b2], ho, h =>
        simp only [List.drop_succ_cons, List.drop_zero, List.map_cons, List.map_nil, sumO, addO_zero] at h
        cases e1 : bodyN k n b1 with
        | none => rw [e1] at h; simp [addO] at h
        | some c1 =>
          cases e2 : bodyN k n b2 with
          | none => rw [e1, e2] at h; simp [addO] at h
          | some c2 =>
            rw [e1, e2] at h
            have e : 1 + (c1 + c2) = c := by injection h
            exact .inr (.inr ⟨co, b1, b2, c1, c2, rfl, ho, e1, e2, e.symm⟩)
    by_cases h2 : z = "while"
    · subst h2
      rw [out_while] at ho
      rw [bods_while] at h
      match ps, ho, h with
      | [co, b1], ho, h =>
        simp only [List.drop_succ_cons, List.drop_zero, List.map_cons, List.map_nil, sumO, addO_zero] at h
        cases e1 : bodyN k n b1 with
        | none => rw [e1] at h; simp [addO] at h
        | some c1 =>
          rw [e1] at h
          have e : 1 + c1 = c := by injection h
          exact .inr (.inl ⟨co, b1, c1, rfl, ho, e1, e.symm⟩)
    · rw [out_else h1 h2] at ho
      have hp : isPlain (.tuple (.str z :: ps)) k = true := ho
      rw [bods_else h1 h2] at h
      have e : 1 = c := by injection h
      exact .inl ⟨z, ps, rfl, h1, h2, hp, e.symm⟩
  · cases h
theorem body_tuple {k : Str} {n c : Nat} {d : PyData} (h : bodyN k n d = some c) : ∃ ss, d = .tuple ss := by
  cases ht : isT d "tuple" with
  | false => rw [bodyN_no k n ht] at h; cases h
  | true => exact isT_tup ht
theorem sum_le {k : Str} {n c : Nat} {ss : List PyData} (h : bodyN k (n + 1) (.tuple ss) = some c) {s : PyData} (m : s ∈ ss) : ∃ a, stN k n s = some a ∧ a ≤ c := by
  rw [bodyN_tup] at h
  exact sumO_mem h _ (List.mem_map_of_mem m)
theorem noL_mem {ds : List PyData} (h : noLAll ds = true) : ∀ d ∈ ds, noL d = true := by
  induction ds with
  | nil => intro d m; cases m
  | cons x r ih =>
    simp only [noLAll, Bool.and_eq_true] at h
    intro d m
    rcases List.mem_cons.mp m with rfl | m
    · exact h.1
    · exact ih h.2 d m
theorem noL_tup {ds : List PyData} (h : noL (.tuple ds) = true) : noLAll ds = true := by simpa only [noL] using h
theorem noLAll_of {ds : List PyData} (h : ∀ d ∈ ds, noL d = true) : noLAll ds = true := by
  induction ds with
  | nil => rfl
  | cons x r ih =>
    simp only [noLAll, Bool.and_eq_true]
    exact ⟨h x (by simp), ih fun d m => h d (List.mem_cons_of_mem _ m)⟩
theorem body_depth {k : Str} : ∀ {n c : Nat} {d : PyData}, bodyN k n d = some c → d.depth ≤ 2 * n + 1
  | 0, c, d, h => by
    match d, h with
    | .tuple [], _ => simp [PyData.depth, PyData.depthAll]
  | n + 1, c, d, h => by
    cases ht : isT d "tuple" with
    | false => rw [bodyN_no k _ ht] at h; cases h
    | true =>
      obtain ⟨ss, rfl⟩ := isT_tup ht
      rw [bodyN_tup] at h
      rw [depth_tup]
      suffices hs : PyData.depthAll ss ≤ 2 * n + 2 by omega
      refine depth_all fun s ms => ?_
      obtain ⟨a, ea, la⟩ := sumO_mem h (stN k n s) (List.mem_map_of_mem ms)
      unfold stN at ea
      split at ea
      · rename_i ho
        obtain ⟨a1, b1, _, e2, _, l2⟩ := addO_le ea
        obtain ⟨z, ps, rfl⟩ := out_word ho
        have hb : ∀ b ∈ bodsOf (.tuple (.str z :: ps)), b.depth ≤ 2 * n + 1 := fun b mb => by
          obtain ⟨x, ex, lx⟩ := sumO_mem e2 _ (List.mem_map_of_mem mb)
          exact body_depth (n := n) (c := x) ex
        by_cases h1 : z = "if"
        · subst h1
          rw [out_if] at ho
          rw [bods_if] at hb
          match ps, ho, hb with
          | [c0, b1, b2], ho, hb =>
            have w1 := cond_depth (d := c0) ho
            have w2 := hb b1 (by simp)
            have w3 := hb b2 (by simp)
            simp only [PyData.depth, PyData.depthAll]
            omega
        by_cases h2 : z = "while"
        · subst h2
          rw [out_while] at ho
          rw [bods_while] at hb
          match ps, ho, hb with
          | [c0, b1], ho, hb =>
            have w1 := cond_depth (d := c0) ho
            have w2 := hb b1 (by simp)
            simp only [PyData.depth, PyData.depthAll]
            omega
        · rw [out_else h1 h2] at ho
          have := plain_depth ho
          omega
      · cases ea
theorem eqv_nil (ss : List PyData) : PyData.eqv (.tuple ss) (.tuple []) = isNil (.tuple ss) := by
  cases ss <;> simp [PyData.eqv, PyData.eqvAll, isNil]
theorem dp_four {K : PySem.W.Frag} {H : Hp} {xs : List V} {d0 d1 d2 d3 : PyData} (h : DpAll K H xs [d0, d1, d2, d3]) : ∃ x0 x1 x2 x3, xs = [x0, x1, x2, x3] ∧ Dp K H x0 d0 ∧ Dp K H x1 d1 ∧ Dp K H x2 d2 ∧ Dp K H x3 d3 := by
  match h with
  | .cons (v := x0) h0 (.cons (v := x1) h1 (.cons (v := x2) h2 (.cons (v := x3) h3 .nil))) => exact ⟨x0, x1, x2, x3, rfl, h0, h1, h2, h3⟩
abbrev sBC : Stmt := top 32
abbrev sSC : Stmt := top 33
abbrev sWC : Stmt := top 34
abbrev sIC : Stmt := top 35
def insT (c : PyData) (t : Nat) : PyData := .tuple [.str "test", c, .int (t : Nat)]
def insJ (t : Nat) : PyData := .tuple [.str "jump", .int (t : Nat)]
def whC (g : Nat → PyData → List PyData) (st0 : Nat) (c b : PyData) : List PyData := insT c (st0 + 1 + (g (st0 + 1) b).length + 1) :: (g (st0 + 1) b ++ [insJ st0])
def ifC (g : Nat → PyData → List PyData) (st0 : Nat) (c b1 b2 : PyData) : List PyData :=
  if isNil b2 = true then insT c (st0 + 1 + (g (st0 + 1) b1).length) :: g (st0 + 1) b1
  else insT c (st0 + 1 + (g (st0 + 1) b1).length + 1) :: (g (st0 + 1) b1 ++ insJ (st0 + 1 + (g (st0 + 1) b1).length + 1 + (g (st0 + 1 + (g (st0 + 1) b1).length + 1) b2).length) :: g (st0 + 1 + (g (st0 + 1) b1).length + 1) b2)
def stC (g : Nat → PyData → List PyData) (st0 : Nat) (s : PyData) : List PyData := match s with
  | .tuple [.str z, c, b] => if z = "while" then whC g st0 c b else [s]
  | .tuple [.str z, c, b1, b2] => if z = "if" then ifC g st0 c b1 b2 else [s]
  | _ => [s]
def codeL (f : Nat → PyData → List PyData) : Nat → List PyData → List PyData
  | _, [] => []
  | st0, s :: r => f st0 s ++ codeL f (st0 + (f st0 s).length) r
def bodyC : Nat → Nat → PyData → List PyData
  | 0, _, _ => []
  | n + 1, st0, .tuple ss => codeL (stC (bodyC n)) st0 ss
  | _ + 1, _, _ => []
theorem codeL_snoc (f : Nat → PyData → List PyData) : ∀ (st0 : Nat) (a : List PyData) (s : PyData), codeL f st0 (a ++ [s]) = codeL f st0 a ++ f (st0 + (codeL f st0 a).length) s
  | st0, [], s => by simp [codeL]
  | st0, x :: r, s => by
    rw [List.cons_append]
    simp only [codeL]
    rw [codeL_snoc f _ r s, List.append_assoc, List.length_append, Nat.add_assoc]
theorem stC_plain {g : Nat → PyData → List PyData} {st0 : Nat} {z : Str} {ps : List PyData} (h1 : ¬ z = "if") (h2 : ¬ z = "while") : stC g st0 (.tuple (.str z :: ps)) = [.tuple (.str z :: ps)] := by
  unfold stC
  split
  · rename_i z' c b e
    injection e with e; injection e with e1 e2; injection e1 with e1
    subst e1
    rw [if_neg h2]
  · rename_i z' c b1 b2 e
    injection e with e; injection e with e1 e2; injection e1 with e1
    subst e1
    rw [if_neg h1]
  · rfl
theorem stC_while {g : Nat → PyData → List PyData} {st0 : Nat} {c b : PyData} : stC g st0 (.tuple [.str "while", c, b]) = whC g st0 c b := by
  simp [stC]
theorem stC_if {g : Nat → PyData → List PyData} {st0 : Nat} {c b1 b2 : PyData} : stC g st0 (.tuple [.str "if", c, b1, b2]) = ifC g st0 c b1 b2 := by
  simp [stC]
theorem noL_ins {c : PyData} {t : Nat} (h : noL c = true) : noL (insT c t) = true := by simp [insT, noL, noLAll, h]
theorem noL_jmp {t : Nat} : noL (insJ t) = true := by simp [insJ, noL, noLAll]
theorem lay_ins {c : PyData} {t : Nat} (h : Lay c) : Lay (insT c t) := lay3 (lay_str (by decide +kernel)) h (lay_int _)
theorem lay_jmp {t : Nat} : Lay (insJ t) := lay2 (lay_str (by decide +kernel)) (lay_int _)
/-- what holds of an instruction -/
def okI (i : PyData) : Prop := noL i = true ∧ Lay i ∧ i.depth ≤ 2 ∧ ((∃ c t, isCond c = true ∧ i = insT c t) ∨ (∃ t, i = insJ t) ∨ ∃ z ps k, i = .tuple (.str z :: ps) ∧ isPlain i k = true)
theorem okI_T {c : PyData} {t : Nat} (hc : isCond c = true) (lc : Lay c) : okI (insT c t) := by
  refine ⟨noL_ins (cond_noL hc), lay_ins lc, ?_, .inl ⟨c, t, hc, rfl⟩⟩
  have := cond_depth hc
  simp only [insT, PyData.depth, PyData.depthAll]
  omega
theorem okI_J {t : Nat} : okI (insJ t) := ⟨noL_jmp, lay_jmp, by simp [insJ, PyData.depth, PyData.depthAll], .inr (.inl ⟨t, rfl⟩)⟩
theorem body_code_ok {k : Str} : ∀ {n c : Nat} {d : PyData} (st0 : Nat), Lay d → bodyN k n d = some c → (∀ i ∈ bodyC n st0 d, okI i) ∧ (bodyC n st0 d).length ≤ 2 * c
  | 0, c, d, st0, _, h => ⟨fun i m => by simp [bodyC] at m, Nat.zero_le _⟩
  | n + 1, c, d, st0, ld, h => by
    obtain ⟨ss, rfl⟩ := body_tuple h
    rw [bodyN_tup] at h
    have lm := lay_mem (lay_tup ld)
    show (∀ i ∈ codeL (stC (bodyC n)) st0 ss, okI i) ∧ (codeL (stC (bodyC n)) st0 ss).length ≤ 2 * c
    clear ld
    induction ss generalizing st0 c with
    | nil => exact ⟨fun i m => by simp [codeL] at m, Nat.zero_le _⟩
    | cons s r ih =>
      obtain ⟨a, b, e1, e2, _, _⟩ := addO_le (show addO (stN k n s) (sumO (r.map (stN k n))) = some c from h)
      have hc : a + b = c := by
        have h' : addO (stN k n s) (sumO (r.map (stN k n))) = some c := h
        rw [e1, e2] at h'
        injection h'
      have ls := lm s (by simp)
      have one : (∀ i ∈ stC (bodyC n) st0 s, okI i) ∧ (stC (bodyC n) st0 s).length ≤ 2 * a := by
        rcases st_shape e1 with ⟨z, ps, rfl, h1, h2, hp, rfl⟩ | ⟨co, bb, c', rfl, hco, hb, rfl⟩ | ⟨co, b1, b2, c1, c2, rfl, hco, hb1, hb2, rfl⟩
        · rw [stC_plain h1 h2]
          refine ⟨fun i m => ?_, by simp⟩
          rw [List.mem_singleton.mp m]
          exact ⟨plain_noL hp, ls, by have := plain_depth hp; omega, .inr (.inr ⟨z, ps, k, rfl, hp⟩)⟩
        · have lm' := lay_mem (lay_tup ls)
          obtain ⟨i1, l1⟩ := body_code_ok (st0 + 1) (lm' bb (by simp)) hb
          rw [stC_while]
          unfold whC
          refine ⟨fun i m => ?_, by simp; omega⟩
          simp only [List.mem_cons, List.mem_append, List.not_mem_nil, or_false] at m
          rcases m with rfl | m | rfl
          · exact okI_T hco (lm' co (by simp))
          · exact i1 i m
          · exact okI_J
        · have lm' := lay_mem (lay_tup ls)
          rw [stC_if]
          obtain ⟨i1, l1⟩ := body_code_ok (st0 + 1) (lm' b1 (by simp)) hb1
          unfold ifC
          split
          · refine ⟨fun i m => ?_, by simp; omega⟩
            simp only [List.mem_cons] at m
            rcases m with rfl | m
            · exact okI_T hco (lm' co (by simp))
            · exact i1 i m
          · obtain ⟨i2, l2⟩ := body_code_ok (st0 + 1 + (bodyC n (st0 + 1) b1).length + 1) (lm' b2 (by simp)) hb2
            refine ⟨fun i m => ?_, by simp; omega⟩
            simp only [List.mem_cons, List.mem_append] at m
            rcases m with rfl | m | rfl | m
            · exact okI_T hco (lm' co (by simp))
            · exact i1 i m
            · exact okI_J
            · exact i2 i m
      obtain ⟨j1, j2⟩ := ih (st0 := st0 + (stC (bodyC n) st0 s).length) (c := b) e2 (fun d m => lm d (List.mem_cons_of_mem _ m))
      simp only [codeL]
      refine ⟨fun i m => ?_, by rw [List.length_append]; omega⟩
      rcases List.mem_append.mp m with m | m
      · exact one.1 i m
      · exact j1 i m
def spBC (K : PySem.W.Frag) (n : Nat) : Sp := fun vs H Q _ => ∃ (v : V) (d : PyData) (k : Str) (c sn : Nat), vs = [v, .int (sn : Nat)] ∧ Dp K H v d ∧ Lay d ∧ noL d = true ∧ bodyN k n d = some c ∧ c ≤ 24 ∧
  ∀ H' p xs, Same H H' → H p = none → H' p = some (.lst xs) → DpAll K H' xs (bodyC n sn d) → Q (.ref p) H'
def spSC (K : PySem.W.Frag) (n : Nat) : Sp := fun vs H Q _ => ∃ (v : V) (d : PyData) (k : Str) (c sn : Nat), vs = [v, .int (sn : Nat)] ∧ Dp K H v d ∧ Lay d ∧ noL d = true ∧ stN k n d = some c ∧ c ≤ 24 ∧
  ∀ H' p xs, Same H H' → H p = none → H' p = some (.lst xs) → DpAll K H' xs (stC (bodyC n) sn d) → Q (.ref p) H'
def spWC (K : PySem.W.Frag) (n : Nat) : Sp := fun vs H Q _ => ∃ (v : V) (co b : PyData) (k : Str) (c sn : Nat), vs = [v, .int (sn : Nat)] ∧ Dp K H v (.tuple [.str "while", co, b]) ∧ Lay b ∧ noL co = true ∧ noL b = true ∧ bodyN k n b = some c ∧ c ≤ 24 ∧
  ∀ H' p xs, Same H H' → H p = none → H' p = some (.lst xs) → DpAll K H' xs (whC (bodyC n) sn co b) → Q (.ref p) H'
def spIC (K : PySem.W.Frag) (n : Nat) : Sp := fun vs H Q _ => ∃ (v : V) (co b1 b2 : PyData) (k : Str) (c1 c2 sn : Nat), vs = [v, .int (sn : Nat)] ∧ Dp K H v (.tuple [.str "if", co, b1, b2]) ∧ Lay b1 ∧ Lay b2 ∧ noL co = true ∧ noL b1 = true ∧ noL b2 = true ∧ bodyN k n b1 = some c1 ∧ bodyN k n b2 = some c2 ∧ c1 ≤ 24 ∧ c2 ≤ 24 ∧
  ∀ H' p xs, Same H H' → H p = none → H' p = some (.lst xs) → DpAll K H' xs (ifC (bodyC n) sn co b1 b2) → Q (.ref p) H'
theorem code_len {k : Str} {n c sn : Nat} {ss : List PyData} (ld : ∀ s ∈ ss, Lay s) (h : bodyN k (n + 1) (.tuple ss) = some c) (i : Nat) : (codeL (stC (bodyC n)) sn (ss.take i)).length ≤ 2 * c ∧ ∀ x ∈ codeL (stC (bodyC n)) sn (ss.take i), okI x := by
  have e : ∃ c', bodyN k (n + 1) (.tuple (ss.take i)) = some c' ∧ c' ≤ c := by
    rw [bodyN_tup] at h ⊢
    have e2 : ss = ss.take i ++ ss.drop i := (List.take_append_drop i ss).symm
    rw [e2, List.map_append, sumO_append] at h
    obtain ⟨a, b, h1, _, h3, _⟩ := addO_le h
    exact ⟨a, h1, h3⟩
  obtain ⟨c', h1, h2⟩ := e
  obtain ⟨h3, h4⟩ := body_code_ok (d := .tuple (ss.take i)) sn (lay_tuple fun s m => ld s (List.mem_of_mem_take m)) h1
  exact ⟨by have : (codeL (stC (bodyC n)) sn (ss.take i)).length ≤ 2 * c' := h4
            omega, h3⟩
section
variable {P : Program} {w : World} {K : PySem.W.Frag} {mg : Str → Option Value} {base : Heap}
theorem scBC : FnScope ["body", "start", "code", "statement", "at"] ["body", "start"] (defScope sBC) := ⟨rfl, rfl, rfl, by decide +kernel, rfl, by decide +kernel, by decide +kernel⟩
theorem ok_BC {f : Addr} {fd : FuncData} {lv n : Nat} (F : Fun K "body_code" "body_code" sBC f fd) (T : Gs K mg) (CS : Cal P w K mg base lv "statement_code" ["statement", "start"] (fun vs H Q E => n ≠ 0 ∧ spSC K (n - 1) vs H Q E)) :
    FnOk P w K mg base CX0 (lv + 1) f fd ["body", "start"] (spBC K n) := by
  refine F.ok scBC (fun vs H Q E h => ?_) (fun cdv A outer s H vs Q E hr h => ?_)
  · obtain ⟨v, d, k, c, sn, rfl, _⟩ := h
    rfl
  obtain ⟨v, d, k, c, sn, rfl, hd, ld, nd, hbc, hc, q⟩ := h
  refine ⟨_, pss_cons (ps_set (i := 2) scBC.nd rfl (.inl rfl) (pe_lst pa_nil))
    (pss_cons (ps_for PassesOwn.never rfl (pi_tup (pv 0)) (pg_name (i := 3) scBC.nd rfl (.inl rfl))
      (pss_cons (ps_set (i := 4) scBC.nd rfl (.inl rfl) (pe_op op_add (pv 1) (pe_callB call_len_seq (by rfl) T.len PySem.boot_len (pa_cons (pv 2) pa_nil))))
      (pss_one (ps_expr (pe_bm PySem.F.plainAttrs_list PySem.F.slot_list_extend PySem.F.type_list_extend mt_extend (pv 2) (pa_cons (pe_call CS.G hr rfl CS.m CS.kp CS.b .nil pass0 (pa_cons (pv 3) (pa_cons (pv 4) pa_nil))) pa_nil))))))
    (pss_one (ps_ret (pv 2)))), ?_⟩
  obtain ⟨ss, rfl⟩ := body_tuple hbc
  obtain ⟨a, xs, rfl, hs, ha⟩ := dp_tup_inv hd
  have hl := dpAll_len ha
  have lm := lay_mem (lay_tup ld)
  have nm := noL_mem (noL_tup nd)
  refine ⟨(by show 0 ≤ sizeLine; decide), fun l nl => ?_⟩
  have s0 : Same H (upd H l (.lst [])) := same_new nl _
  refine ⟨_, rfl, a, rfl, ⟨_, Same.tup s0 hs⟩, for_tup (K := K) (a := a) (xs := xs) (fun i σ H' => ∃ (ys : List V) (s3 s4 : Option V), σ = [some (.ref a), some (.int (sn : Nat)), some (.ref l), s3, s4] ∧ Same H H' ∧ H' l = some (.lst ys) ∧ DpAll K H' ys (bodyC n sn (.tuple (ss.take i))))
    ⟨[], none, none, rfl, s0, upd_same, by cases n <;> exact .nil⟩ (fun i σ H' _ ⟨_, _, _, _, s1, _⟩ => Same.tup s1 hs) ?_ ?_⟩
  · rintro i x σ H1 hx ⟨ys, s3, s4, rfl, s1, hl1, hys⟩
    obtain ⟨si, hsi, hxd⟩ := dpAll_get ha hx
    have msi := List.mem_of_getElem? hsi
    cases n with
    | zero =>
      cases ss with
      | nil => cases msi
      | cons _ _ => cases hbc
    | succ n =>
      obtain ⟨ai, hai, lai⟩ := sum_le hbc msi
      obtain ⟨cl1, cok⟩ := code_len (sn := sn) lm hbc i
      have hyl : ys.length = (codeL (stC (bodyC n)) sn (ss.take i)).length := dpAll_len hys
      refine ⟨_, rfl, _, rfl, l, ys, rfl, .inl (SqL.of hl1), _, _, rfl, rfl, ?_⟩
      refine ⟨_, rfl, .inl ⟨rfl, _, SqL.of hl1⟩, _, rfl, _, rfl, by omega, x, si, k, ai, sn + ys.length, rfl, dp_mono s1 _ _ hxd, lm _ msi, nm _ msi, hai, by omega, fun H2 p zs s2 np hp hzs => ?_⟩
      have hl2 := s2 _ _ hl1
      have nlp : l ≠ p := ne_of_none hl1 np
      have one := code_len (sn := sn) lm hbc (i + 1)
      have esn : codeL (stC (bodyC n)) sn (ss.take (i + 1)) = codeL (stC (bodyC n)) sn (ss.take i) ++ stC (bodyC n) (sn + ys.length) si := by rw [take_snoc hsi, codeL_snoc, hyl]
      rw [esn] at one
      have zl : zs.length = (stC (bodyC n) (sn + ys.length) si).length := dpAll_len hzs
      have ltot : ys.length + zs.length ≤ 2 * c := by
        have := one.1
        rw [List.length_append] at this
        omega
      have keep : ∀ a o, a ≠ l → H2 a = some o → (upd H2 l (.lst (ys ++ zs))) a = some o := fun a o n h => by rw [upd_ne n]; exact h
      refine ⟨l, p, ys, zs, rfl, rfl, hl2, hp, Nat.le_of_lt (Nat.lt_of_le_of_lt (by omega : _ ≤ 1000) (by decide)), ys ++ zs, _, _, rfl, same_upd (s1.trans s2) nl _, upd_same, ?_⟩
      show DpAll K _ (ys ++ zs) (codeL (stC (bodyC n)) sn (ss.take (i + 1)))
      rw [esn]
      refine dpAll_append (dpAll_keepL keep hl2 _ _ (noLAll_of fun d m => (one.2 d (List.mem_append_left _ m)).1) (dpAll_mono s2 _ _ hys)) (dpAll_keepL keep hl2 _ _ (noLAll_of fun d m => (one.2 d (List.mem_append_right _ m)).1) hzs)
  · rintro σ H1 ⟨ys, s3, s4, rfl, s1, hl1, hys⟩
    rw [hl, List.take_length] at hys
    exact ⟨_, rfl, q _ _ _ s1 nl hl1 hys⟩
theorem scSC : FnScope ["statement", "start"] ["statement", "start"] (defScope sSC) := ⟨rfl, rfl, rfl, by decide +kernel, rfl, by decide +kernel, by decide +kernel⟩
theorem ok_SC {f : Addr} {fd : FuncData} {lv n : Nat} (F : Fun K "statement_code" "statement_code" sSC f fd) (CW : Cal P w K mg base lv "while_code" ["statement", "start"] (spWC K n)) (CI : Cal P w K mg base lv "if_code" ["statement", "start"] (spIC K n)) :
    FnOk P w K mg base CX0 (lv + 1) f fd ["statement", "start"] (spSC K n) := by
  refine F.ok scSC (fun vs H Q E h => ?_) (fun cdv A outer s H vs Q E hr h => ?_)
  · obtain ⟨v, d, k, c, sn, rfl, _⟩ := h
    rfl
  obtain ⟨v, d, k, c, sn, rfl, hd, ld, nd, hst, hc, q⟩ := h
  refine ⟨_, pss_cons (ps_if (pt_cmpR op_eq (pe_ix ix_tup (pv 0) pe_int (fun _ _ => rfl)) pe_str (nomark _)) (pss_one (ps_ret (pe_call CW.G hr rfl CW.m CW.kp CW.b .nil pass0 (pa_cons (pv 0) (pa_cons (pv 1) pa_nil))))) pss_nil)
    (pss_cons (ps_if (pt_cmpR op_eq (pe_ix ix_tup (pv 0) pe_int (fun _ _ => rfl)) pe_str (nomark _)) (pss_one (ps_ret (pe_call CI.G hr rfl CI.m CI.kp CI.b .nil pass0 (pa_cons (pv 0) (pa_cons (pv 1) pa_nil))))) pss_nil)
    (pss_one (ps_ret (pe_lst (pa_cons (pv 0) pa_nil))))), ?_⟩
  rcases st_shape hst with ⟨z, ps, rfl, h1, h2, hp, rfl⟩ | ⟨co, bb, c', rfl, hco, hb, rfl⟩ | ⟨co, b1, b2, c1, c2, rfl, hco, hb1, hb2, rfl⟩
  · obtain ⟨a, xs, rfl, hs, ha⟩ := dp_tup_inv hd
    obtain ⟨xr, rfl⟩ : ∃ xr, xs = .str z :: xr := by
      cases ha with
      | cons hz _ => cases hz; exact ⟨_, rfl⟩
    refine ⟨_, rfl, a, _, _, _, rfl, rfl, hs, atI_nat (j := 0) rfl, rfl, _, rfl, strF h2 ?_⟩
    refine ⟨_, rfl, a, _, _, _, rfl, rfl, hs, atI_nat (j := 0) rfl, rfl, _, rfl, strF h1 ?_⟩
    refine ⟨_, rfl, (by show 1 ≤ sizeLine; decide), fun p np => ?_⟩
    rw [stC_plain h1 h2] at q
    exact q _ p _ (same_new np _) np upd_same (.cons (dp_mono (same_new np _) _ _ hd) .nil)
  · obtain ⟨a, xs, rfl, hs, ha⟩ := dp_tup_inv hd
    obtain ⟨xr, rfl⟩ : ∃ xr, xs = .str "while" :: xr := by
      cases ha with
      | cons hz _ => cases hz; exact ⟨_, rfl⟩
    have lm := lay_mem (lay_tup ld)
    have nm := noL_mem (noL_tup nd)
    rw [stC_while] at q
    exact ⟨_, rfl, a, _, _, _, rfl, rfl, hs, atI_nat (j := 0) rfl, rfl, _, rfl, strT ⟨_, rfl, _, rfl, _, co, bb, k, c', sn, rfl, hd, lm bb (by simp), nm co (by simp), nm bb (by simp), hb, by omega, q⟩⟩
  · obtain ⟨a, xs, rfl, hs, ha⟩ := dp_tup_inv hd
    obtain ⟨xr, rfl⟩ : ∃ xr, xs = .str "if" :: xr := by
      cases ha with
      | cons hz _ => cases hz; exact ⟨_, rfl⟩
    have lm := lay_mem (lay_tup ld)
    have nm := noL_mem (noL_tup nd)
    rw [stC_if] at q
    refine ⟨_, rfl, a, _, _, _, rfl, rfl, hs, atI_nat (j := 0) rfl, rfl, _, rfl, strF (by decide +kernel) ?_⟩
    exact ⟨_, rfl, a, _, _, _, rfl, rfl, hs, atI_nat (j := 0) rfl, rfl, _, rfl, strT ⟨_, rfl, _, rfl, _, co, b1, b2, k, c1, c2, sn, rfl, hd, lm b1 (by simp), lm b2 (by simp), nm co (by simp), nm b1 (by simp), nm b2 (by simp), hb1, hb2, by omega, by omega, q⟩⟩
theorem scWC : FnScope ["statement", "start", "condition", "body", "inside", "behind"] ["statement", "start"] (defScope sWC) := ⟨rfl, rfl, rfl, by decide +kernel, rfl, by decide +kernel, by decide +kernel⟩
theorem ok_WC {f : Addr} {fd : FuncData} {lv n : Nat} (F : Fun K "while_code" "while_code" sWC f fd) (T : Gs K mg) (CB : Cal P w K mg base lv "body_code" ["body", "start"] (spBC K n)) :
    FnOk P w K mg base CX0 (lv + 1) f fd ["statement", "start"] (spWC K n) := by
  refine F.ok scWC (fun vs H Q E h => ?_) (fun cdv A outer s H vs Q E hr h => ?_)
  · obtain ⟨v, co, b, k, c, sn, rfl, _⟩ := h
    rfl
  obtain ⟨v, co, b, k, c, sn, rfl, hd, lb, nco, nb, hbc, hc, q⟩ := h
  refine ⟨_, pss_cons (ps_asg (pe_slice sl_tup (pv 0) (po_some pe_int) po_none) (pg_tup (by rfl) (pgs_cons (pg_name (i := 2) scWC.nd rfl (.inl rfl)) (pgs_cons (pg_name (i := 3) scWC.nd rfl (.inl rfl)) pgs_nil))))
    (pss_cons (ps_set (i := 4) scWC.nd rfl (.inl rfl) (pe_call CB.G hr rfl CB.m CB.kp CB.b .nil pass0 (pa_cons (pv 3) (pa_cons (pe_op op_add (pv 1) pe_int) pa_nil))))
    (pss_cons (ps_set (i := 5) scWC.nd rfl (.inl rfl) (pe_op op_add (pe_op op_add (pe_op op_add (pv 1) pe_int) (pe_callB call_len_seq (by rfl) T.len PySem.boot_len (pa_cons (pv 4) pa_nil))) pe_int))
    (pss_one (ps_ret (pe_lst (pa_cons (pe_tup (pa_cons pe_str (pa_cons (pv 2) (pa_cons (pv 5) pa_nil)))) (StX.pa_star (pv 4) (pa_cons (pe_tup (pa_cons pe_str (pa_cons (pv 1) pa_nil))) pa_nil)))))))), ?_⟩
  obtain ⟨a, xs, rfl, hs, ha⟩ := dp_tup_inv hd
  obtain ⟨x0, x1, x2, d0, d1, d2, rfl, e, hx0, hx1, hx2⟩ := dp_three ha rfl
  injection e with e0 e
  injection e with e1 e
  injection e with e2 e
  subst e0 e1 e2
  cases hx0
  refine ⟨_, rfl, _, rfl, a, _, rfl, hs, not_whole1 _ _, fun p np => ?_⟩
  rw [cut1]
  have s1 : Same H (upd H p (.tup [x1, x2])) := same_new np _
  refine ⟨p, _, rfl, SqT.of upd_same, rfl, _, _, rfl, _, _, rfl, rfl, ?_⟩
  generalize upd H p (.tup [x1, x2]) = H1 at s1 ⊢
  refine ⟨_, rfl, _, rfl, _, _, rfl, rfl, x2, b, k, c, sn + 1, rfl, dp_mono s1 _ _ hx2, lb, nb, hbc, hc, fun H2 q2 ys s2 nq hq hys => ?_⟩
  have s12 := s1.trans s2
  obtain ⟨cok, clen⟩ := body_code_ok (sn + 1) lb hbc
  have yl := dpAll_len hys
  refine ⟨_, rfl, _, _, rfl, rfl, _, rfl, q2, ys, rfl, .inl (SqL.of hq), _, _, rfl, rfl, _, _, rfl, rfl, ?_⟩
  refine ⟨_, rfl, _, rfl, (by show 3 ≤ sizeLine; decide), fun t nt => ?_⟩
  have s3 : Same H2 (upd H2 t (.tup [.str "test", x1, .int ((sn : Nat) + 1 + (ys.length : Nat) + 1)])) := same_new nt _
  have et : (upd H2 t (.tup [.str "test", x1, .int ((sn : Nat) + 1 + (ys.length : Nat) + 1)])) t = some (.tup [.str "test", x1, .int ((sn : Nat) + 1 + (ys.length : Nat) + 1)]) := upd_same
  generalize upd H2 t (.tup [.str "test", x1, .int ((sn : Nat) + 1 + (ys.length : Nat) + 1)]) = H3 at s3 et ⊢
  refine ⟨_, rfl, q2, ys, rfl, .inr (SqL.of (s3 _ _ hq)), _, rfl, (by show 2 ≤ sizeLine; decide), fun j nj => ?_⟩
  have s4 : Same H3 (upd H3 j (.tup [.str "jump", .int (sn : Nat)])) := same_new nj _
  have ej : (upd H3 j (.tup [.str "jump", .int (sn : Nat)])) j = some (.tup [.str "jump", .int (sn : Nat)]) := upd_same
  generalize upd H3 j (.tup [.str "jump", .int (sn : Nat)]) = H4 at s4 ej ⊢
  refine ⟨?_, fun r nr => ?_⟩
  · show (ys ++ [V.ref j]).length + 1 ≤ sizeLine
    rw [List.length_append]
    exact Nat.le_of_lt (Nat.lt_of_le_of_lt (by show ys.length + 1 + 1 ≤ 1000; omega : _ ≤ 1000) (by decide))
  have s5 : Same H4 (upd H4 r (.lst (.ref t :: (ys ++ [.ref j])))) := same_new nr _
  have s14 := s12.trans (s3.trans s4)
  refine q _ r _ (s14.trans s5) (s14.free nr) upd_same ?_
  refine .cons (.tup (SqT.of (s5 _ _ (s4 _ _ et))) (.cons (.str _) (.cons (dp_mono (s14.trans s5) _ _ hx1) (.cons ?_ .nil)))) (dpAll_append (dpAll_mono (s3.trans (s4.trans s5)) _ _ hys) (.cons (.tup (SqT.of (s5 _ _ ej)) (.cons (.str _) (.cons (.int _) .nil))) .nil))
  rw [← yl]
  exact .int _
theorem scIC : FnScope ["statement", "start", "condition", "first", "second", "inside", "behind", "otherwise", "end"] ["statement", "start"] (defScope sIC) := ⟨rfl, rfl, rfl, by decide +kernel, rfl, by decide +kernel, by decide +kernel⟩
theorem ok_IC {f : Addr} {fd : FuncData} {lv n : Nat} (F : Fun K "if_code" "if_code" sIC f fd) (T : Gs K mg) (CB : Cal P w K mg base lv "body_code" ["body", "start"] (spBC K n)) :
    FnOk P w K mg base CX0 (lv + 1) f fd ["statement", "start"] (spIC K n) := by
  refine F.ok scIC (fun vs H Q E h => ?_) (fun cdv A outer s H vs Q E hr h => ?_)
  · obtain ⟨v, co, b1, b2, k, c1, c2, sn, rfl, _⟩ := h
    rfl
  obtain ⟨v, co, b1, b2, k, c1, c2, sn, rfl, hd, lb1, lb2, nco, nb1, nb2, hbc1, hbc2, hc1, hc2, q⟩ := h
  refine ⟨_, pss_cons (ps_asg (pe_slice sl_tup (pv 0) (po_some pe_int) po_none) (pg_tup (by rfl) (pgs_cons (pg_name (i := 2) scIC.nd rfl (.inl rfl)) (pgs_cons (pg_name (i := 3) scIC.nd rfl (.inl rfl)) (pgs_cons (pg_name (i := 4) scIC.nd rfl (.inl rfl)) pgs_nil)))))
    (pss_cons (ps_set (i := 5) scIC.nd rfl (.inl rfl) (pe_call CB.G hr rfl CB.m CB.kp CB.b .nil pass0 (pa_cons (pv 3) (pa_cons (pe_op op_add (pv 1) pe_int) pa_nil))))
    (pss_cons (ps_set (i := 6) scIC.nd rfl (.inl rfl) (pe_op op_add (pe_op op_add (pv 1) pe_int) (pe_callB call_len_seq (by rfl) T.len PySem.boot_len (pa_cons (pv 5) pa_nil))))
    (pss_cons (ps_if (pt_cmpR op_eq (pe_callB call_len_seq (by rfl) T.len PySem.boot_len (pa_cons (pv 4) pa_nil)) pe_int (nomark _)) (pss_one (ps_ret (pe_lst (pa_cons (pe_tup (pa_cons pe_str (pa_cons (pv 2) (pa_cons (pv 6) pa_nil)))) (StX.pa_star (pv 5) pa_nil))))) pss_nil)
    (pss_cons (ps_set (i := 7) scIC.nd rfl (.inl rfl) (pe_call CB.G hr rfl CB.m CB.kp CB.b .nil pass0 (pa_cons (pv 4) (pa_cons (pe_op op_add (pv 6) pe_int) pa_nil))))
    (pss_cons (ps_set (i := 8) scIC.nd rfl (.inl rfl) (pe_op op_add (pe_op op_add (pv 6) pe_int) (pe_callB call_len_seq (by rfl) T.len PySem.boot_len (pa_cons (pv 7) pa_nil))))
    (pss_one (ps_ret (pe_lst (pa_cons (pe_tup (pa_cons pe_str (pa_cons (pv 2) (pa_cons (pe_op op_add (pv 6) pe_int) pa_nil)))) (StX.pa_star (pv 5) (pa_cons (pe_tup (pa_cons pe_str (pa_cons (pv 8) pa_nil))) (StX.pa_star (pv 7) pa_nil)))))))))))), ?_⟩
  obtain ⟨a, xs, rfl, hs, ha⟩ := dp_tup_inv hd
  obtain ⟨x0, x1, x2, x3, rfl, hx0, hx1, hx2, hx3⟩ := dp_four ha
  cases hx0
  refine ⟨_, rfl, _, rfl, a, _, rfl, hs, not_whole1 _ _, fun p np => ?_⟩
  rw [cut1]
  have s1 : Same H (upd H p (.tup [x1, x2, x3])) := same_new np _
  refine ⟨p, _, rfl, SqT.of upd_same, rfl, _, _, rfl, _, _, rfl, _, _, rfl, rfl, ?_⟩
  generalize upd H p (.tup [x1, x2, x3]) = H1 at s1 ⊢
  refine ⟨_, rfl, _, rfl, _, _, rfl, rfl, x2, b1, k, c1, sn + 1, rfl, dp_mono s1 _ _ hx2, lb1, nb1, hbc1, hc1, fun H2 q2 ys s2 nq hq hys => ?_⟩
  have s12 := s1.trans s2
  obtain ⟨cok, clen⟩ := body_code_ok (sn + 1) lb1 hbc1
  have yl := dpAll_len hys
  refine ⟨_, rfl, _, _, rfl, rfl, _, rfl, q2, ys, rfl, .inl (SqL.of hq), _, _, rfl, rfl, ?_⟩
  obtain ⟨ss2, rfl⟩ := body_tuple hbc2
  obtain ⟨a2, xs2, rfl, hs2, ha2⟩ := dp_tup_inv hx3
  have hl2 := dpAll_len ha2
  refine ⟨_, rfl, a2, xs2, rfl, .inr (Same.tup s12 hs2), rfl, _, rfl, ?_⟩
  unfold ifC at q
  by_cases h0 : ss2 = []
  · subst h0
    have xz : xs2.length = 0 := hl2
    refine ite2 (fun _ => ?_) (fun c => absurd (decide_eq_true (by rw [xz]; rfl)) c)
    rw [if_pos (show isNil (.tuple []) = true from rfl)] at q
    refine ⟨_, rfl, _, rfl, (by show 3 ≤ sizeLine; decide), fun t nt => ?_⟩
    have s3 : Same H2 (upd H2 t (.tup [.str "test", x1, .int ((sn : Nat) + 1 + (ys.length : Nat))])) := same_new nt _
    have et : (upd H2 t (.tup [.str "test", x1, .int ((sn : Nat) + 1 + (ys.length : Nat))])) t = some (.tup [.str "test", x1, .int ((sn : Nat) + 1 + (ys.length : Nat))]) := upd_same
    generalize upd H2 t (.tup [.str "test", x1, .int ((sn : Nat) + 1 + (ys.length : Nat))]) = H3 at s3 et ⊢
    refine ⟨_, rfl, q2, ys, rfl, .inr (SqL.of (s3 _ _ hq)), ?_, fun r nr => ?_⟩
    · show (ys ++ []).length + 1 ≤ sizeLine
      rw [List.append_nil]
      exact Nat.le_of_lt (Nat.lt_of_le_of_lt (by show ys.length + 1 ≤ 1000; omega : _ ≤ 1000) (by decide))
    have s13 := s12.trans s3
    have s5 : Same H3 (upd H3 r (.lst (.ref t :: (ys ++ [])))) := same_new nr _
    refine q _ r _ (s13.trans s5) (s13.free nr) upd_same ?_
    refine .cons (.tup (SqT.of (s5 _ _ et)) (.cons (.str _) (.cons (dp_mono (s13.trans s5) _ _ hx1) (.cons ?_ .nil)))) (by rw [List.append_nil] at s5 ⊢; exact dpAll_mono (s3.trans s5) _ _ hys)
    rw [← yl]
    exact .int _
  · have hnil : isNil (.tuple ss2) = false := by
      cases ss2 with
      | nil => exact absurd rfl h0
      | cons _ _ => rfl
    rw [if_neg (by rw [hnil]; decide)] at q
    have xnz : ¬ xs2.length = 0 := fun e => h0 (List.length_eq_zero_iff.mp (by omega))
    refine ite2 (fun c => absurd (of_decide_eq_true c) (fun e => xnz (by injection e with e; omega))) (fun _ => ?_)
    refine ⟨_, rfl, _, rfl, _, _, rfl, rfl, _, .tuple ss2, k, c2, sn + 1 + ys.length + 1, rfl, dp_mono s12 _ _ hx3, lb2, nb2, hbc2, hc2, fun H3 q3 zs s3 nq3 hq3 hzs => ?_⟩
    have s13 := s12.trans s3
    obtain ⟨cok2, clen2⟩ := body_code_ok (sn + 1 + ys.length + 1) lb2 hbc2
    have zl := dpAll_len hzs
    refine ⟨_, rfl, _, _, rfl, rfl, _, rfl, q3, zs, rfl, .inl (SqL.of hq3), _, _, rfl, rfl, ?_⟩
    refine ⟨_, rfl, _, rfl, _, _, rfl, rfl, (by show 3 ≤ sizeLine; decide), fun t nt => ?_⟩
    have s4 : Same H3 (upd H3 t (.tup [.str "test", x1, .int ((sn : Nat) + 1 + (ys.length : Nat) + 1)])) := same_new nt _
    have et : (upd H3 t (.tup [.str "test", x1, .int ((sn : Nat) + 1 + (ys.length : Nat) + 1)])) t = some (.tup [.str "test", x1, .int ((sn : Nat) + 1 + (ys.length : Nat) + 1)]) := upd_same
    generalize upd H3 t (.tup [.str "test", x1, .int ((sn : Nat) + 1 + (ys.length : Nat) + 1)]) = H4 at s4 et ⊢
    refine ⟨_, rfl, q2, ys, rfl, .inr (SqL.of (s4 _ _ (s3 _ _ hq))), _, rfl, (by show 2 ≤ sizeLine; decide), fun j nj => ?_⟩
    have s5 : Same H4 (upd H4 j (.tup [.str "jump", .int ((sn : Nat) + 1 + (ys.length : Nat) + 1 + (zs.length : Nat))])) := same_new nj _
    have ej : (upd H4 j (.tup [.str "jump", .int ((sn : Nat) + 1 + (ys.length : Nat) + 1 + (zs.length : Nat))])) j = some (.tup [.str "jump", .int ((sn : Nat) + 1 + (ys.length : Nat) + 1 + (zs.length : Nat))]) := upd_same
    generalize upd H4 j (.tup [.str "jump", .int ((sn : Nat) + 1 + (ys.length : Nat) + 1 + (zs.length : Nat))]) = H5 at s5 ej ⊢
    refine ⟨_, rfl, q3, zs, rfl, .inr (SqL.of (s5 _ _ (s4 _ _ hq3))), ?_, fun r nr => ?_⟩
    · show (ys ++ V.ref j :: (zs ++ [])).length + 1 ≤ sizeLine
      rw [List.append_nil, List.length_append, List.length_cons]
      exact Nat.le_of_lt (Nat.lt_of_le_of_lt (by omega : _ ≤ 1000) (by decide))
    have s15 := s13.trans (s4.trans s5)
    rw [List.append_nil]
    have s6 : Same H5 (upd H5 r (.lst (.ref t :: (ys ++ .ref j :: zs)))) := same_new nr _
    refine q _ r _ (s15.trans s6) (s15.free nr) upd_same ?_
    rw [← yl, ← zl]
    exact .cons (.tup (SqT.of (s6 _ _ (s5 _ _ et))) (.cons (.str _) (.cons (dp_mono (s15.trans s6) _ _ hx1) (.cons (.int _) .nil)))) (dpAll_append (dpAll_mono (s3.trans (s4.trans (s5.trans s6))) _ _ hys) (.cons (.tup (SqT.of (s6 _ _ ej)) (.cons (.str _) (.cons (.int _) .nil))) (dpAll_mono (s4.trans (s5.trans s6)) _ _ hzs)))
theorem none_SC {f : Addr} {fd : FuncData} (lv : Nat) : FnOk P w K mg base CX0 lv f fd ["statement", "start"] (fun vs H Q E => 0 ≠ 0 ∧ spSC K (0 - 1) vs H Q E) :=
  ⟨fun vs H Q E h => absurd rfl h.1, fun A outer s H args us vs Q E _ _ _ _ h => absurd rfl h.1⟩
theorem recC {fB fS fW fI : Addr} {dB dS dW dI : FuncData} (FB : Fun K "body_code" "body_code" sBC fB dB) (bB : Binds K dB ["body", "start"] []) (mB : mg "body_code" = some (.ref fB))
    (FS : Fun K "statement_code" "statement_code" sSC fS dS) (bS : Binds K dS ["statement", "start"] []) (mS : mg "statement_code" = some (.ref fS))
    (FW : Fun K "while_code" "while_code" sWC fW dW) (bW : Binds K dW ["statement", "start"] []) (mW : mg "while_code" = some (.ref fW))
    (FI : Fun K "if_code" "if_code" sIC fI dI) (bI : Binds K dI ["statement", "start"] []) (mI : mg "if_code" = some (.ref fI)) (T : Gs K mg) :
    ∀ n : Nat, FnOk P w K mg base CX0 (2 + 3 * n) fB dB ["body", "start"] (spBC K n)
  | 0 => ok_BC (lv := 1) FB T ⟨fS, dS, none_SC 1, bS, FS.kp, mS⟩
  | n + 1 => by
    have ih := recC FB bB mB FS bS mS FW bW mW FI bI mI T n
    have cb : Cal P w K mg base (2 + 3 * n) "body_code" ["body", "start"] (spBC K n) := ⟨fB, dB, ih, bB, FB.kp, mB⟩
    have st := ok_SC (lv := 2 + 3 * n + 1) FS ⟨fW, dW, ok_WC FW T cb, bW, FW.kp, mW⟩ ⟨fI, dI, ok_IC FI T cb, bI, FI.kp, mI⟩
    have st2 : FnOk P w K mg base CX0 (2 + 3 * n + 1 + 1) fS dS ["statement", "start"] (fun vs H Q E => n + 1 ≠ 0 ∧ spSC K (n + 1 - 1) vs H Q E) :=
      ⟨fun vs H Q E h => st.len vs H Q E h.2, fun A outer s H args us vs Q E h1 h2 h3 h4 h => st.run A outer s H args us vs Q E h1 h2 h3 h4 h.2⟩
    exact ok_BC (lv := 2 + 3 * n + 1 + 1) (n := n + 1) FB T ⟨fS, dS, st2, bS, FS.kp, mS⟩
end
abbrev sLC : Stmt := top 55
def spLC (K : PySem.W.Frag) (n : Nat) : Sp := fun vs H Q _ => ∃ (v : V) (l : Addr) (d : PyData) (k : Str) (c : Nat) (cs : List V) (ds : List PyData), vs = [v, .ref l] ∧ n ≤ 4 ∧ Dp K H v d ∧ Lay d ∧ noL d = true ∧ bodyN k n d = some c ∧ c ≤ 24 ∧ H l = some (.lst cs) ∧ DpAll K H cs ds ∧ noLAll ds = true ∧ ds.length + (bodyC n ds.length d).length ≤ 1000 ∧
  ∀ H' p xs, Same H H' → (p = l ∨ H p = none) → H' p = some (.lst xs) → DpAll K H' xs (ds ++ bodyC n ds.length d) → Q (.ref p) H'
theorem codeL_take (f : Nat → PyData → List PyData) : ∀ (s0 : Nat) (ss : List PyData) (i : Nat), (codeL f s0 (ss.take i)).length ≤ (codeL f s0 ss).length
  | _, [], _ => by simp [codeL]
  | _, _ :: _, 0 => by simp [codeL]
  | s0, x :: r, i + 1 => by
    rw [List.take_succ_cons]
    simp only [codeL, List.length_append]
    have := codeL_take f (s0 + (f s0 x).length) r i
    omega
theorem set_mid {α : Type} (a : List α) (x y : α) (b : List α) : (a ++ x :: b).set a.length y = a ++ y :: b := by
  induction a with
  | nil => rfl
  | cons z r ih => simp [ih]
theorem ixN_at {n j : Nat} (h : j < n) : ixN n (j : Int) = some j := by
  unfold ixN
  rw [if_pos (by omega), if_pos (by omega)]
  simp
theorem int_eq {K : PySem.W.Frag} {H : Hp} {i j : Int} (h : i = j) : Dp K H (.int i) (.int j) := by rw [h]; exact .int _
theorem dpAll_set {K : PySem.W.Frag} {H : Hp} : ∀ {zs : List V} {ds : List PyData} (m : Nat) {v : V} {d : PyData}, DpAll K H zs ds → Dp K H v d → DpAll K H (zs.set m v) (ds.set m d)
  | _, _, _, _, _, .nil, _ => .nil
  | _, _, 0, _, _, .cons _ t, h => .cons h t
  | _, _, m + 1, _, _, .cons a t, h => .cons a (dpAll_set m t h)
theorem noL_set : ∀ {ds : List PyData} (m : Nat) {d : PyData}, noLAll ds = true → noL d = true → noLAll (ds.set m d) = true
  | [], _, _, _, _ => rfl
  | x :: r, 0, d, h, h2 => by
    simp only [noLAll, Bool.and_eq_true] at h
    simp only [List.set, noLAll, Bool.and_eq_true]
    exact ⟨h2, h.2⟩
  | x :: r, m + 1, d, h, h2 => by
    simp only [noLAll, Bool.and_eq_true] at h
    simp only [List.set, noLAll, Bool.and_eq_true]
    exact ⟨h.1, noL_set m h.2 h2⟩
/-- one item of a list changed by place, its data with it -/
theorem setD {K : PySem.W.Frag} {H : Hp} {r : Addr} {zs ys : List V} {A X Y W : List PyData} {v : V} {d : PyData} (yl : ys.length = X.length) (hz : DpAll K H zs A) (nA : noLAll A = true) (hr : H r = some (.lst zs)) (hv : Dp K H v d) (nd : noL d = true)
    (eA : A = X ++ PyData.none :: Y) (eW : X ++ d :: Y = W) : DpAll K (upd H r (.lst (zs.set ys.length v))) (zs.set ys.length v) W := by
  have h1 : DpAll K H (zs.set ys.length v) (A.set X.length d) := by rw [yl]; exact dpAll_set _ hz hv
  have e : A.set X.length d = W := by rw [eA, set_mid, eW]
  rw [e] at h1
  have n1 : noLAll W = true := by rw [← e]; exact noL_set _ nA nd
  exact dpAll_keepL (fun a o n h => by rw [upd_ne n]; exact h) hr _ _ n1 h1
section
variable {P : Program} {w : World} {K : PySem.W.Frag} {mg : Str → Option Value} {base : Heap}
theorem scLC : FnScope ["_law_body_here", "_law_code_here", "_law_statement_here", "_law_at", "_law_jump"] ["_law_body_here", "_law_code_here"] (defScope sLC) := ⟨rfl, rfl, rfl, by decide +kernel, rfl, by decide +kernel, by decide +kernel⟩
theorem ok_LC {f : Addr} {fd : FuncData} {lv n : Nat} (F : Fun K "_law_code" "_law_code" sLC f fd) (T : Gs K mg) (CC : Cal P w K mg base lv "_law_code" ["_law_body_here", "_law_code_here"] (fun vs H Q E => n ≠ 0 ∧ spLC K (n - 1) vs H Q E)) :
    FnOk P w K mg base CX0 (lv + 1) f fd ["_law_body_here", "_law_code_here"] (spLC K n) := by
  refine F.ok scLC (fun vs H Q E h => ?_) (fun cdv A outer s H vs Q E hr h => ?_)
  · obtain ⟨v, l, d, k, c, cs, ds, rfl, _⟩ := h
    rfl
  obtain ⟨v, l, d, k, c, cs, ds, rfl, hn4, hd, ld, nd, hbc, hc, hl, hcs, nds, hlen, q⟩ := h
  refine ⟨_, pss_cons (ps_for PassesOwn.never rfl (pi_tup (pv 0)) (pg_name (i := 2) scLC.nd rfl (.inl rfl))
      (pss_cons (ps_set (i := 3) scLC.nd rfl (.inl rfl) (pe_callB call_len_seq (by rfl) T.len PySem.boot_len (pa_cons (pv 1) pa_nil)))
      (pss_one (ps_if (pt_cmpR op_eq (pe_ix ix_tup (pv 2) pe_int (fun _ _ => rfl)) pe_str (nomark _))
        (pss_cons (ps_set (i := 1) scLC.nd rfl (.inl rfl) (pe_op op_cat (pe_call CC.G hr rfl CC.m CC.kp CC.b .nil pass0 (pa_cons (pe_ix ix_tup (pv 2) pe_int (fun _ _ => rfl)) (pa_cons (pe_op op_cat (pv 1) (pe_lst (pa_cons pe_non pa_nil))) pa_nil))) (pe_lst (pa_cons (pe_tup (pa_cons pe_str (pa_cons (pv 3) pa_nil))) pa_nil))))
        (pss_one (ps_asg (pe_tup (pa_cons pe_str (pa_cons (pe_ix ix_tup (pv 2) pe_int (fun _ _ => rfl)) (pa_cons (pe_callB call_len_seq (by rfl) T.len PySem.boot_len (pa_cons (pv 1) pa_nil)) pa_nil)))) (pg_sub (pv 1) (pv 3) set_list))))
        (pss_one (ps_if (pt_cmpR op_eq (pe_ix ix_tup (pv 2) pe_int (fun _ _ => rfl)) pe_str (nomark _))
          (pss_cons (ps_set (i := 1) scLC.nd rfl (.inl rfl) (pe_call CC.G hr rfl CC.m CC.kp CC.b .nil pass0 (pa_cons (pe_ix ix_tup (pv 2) pe_int (fun _ _ => rfl)) (pa_cons (pe_op op_cat (pv 1) (pe_lst (pa_cons pe_non pa_nil))) pa_nil))))
          (pss_one (ps_if (pt_cmpR (op_neD hr.units) (pe_ix ix_tup (pv 2) pe_int (fun _ _ => rfl)) (pe_tup pa_nil) (nomark _))
            (pss_cons (ps_set (i := 4) scLC.nd rfl (.inl rfl) (pe_callB call_len_seq (by rfl) T.len PySem.boot_len (pa_cons (pv 1) pa_nil)))
            (pss_cons (ps_set (i := 1) scLC.nd rfl (.inl rfl) (pe_call CC.G hr rfl CC.m CC.kp CC.b .nil pass0 (pa_cons (pe_ix ix_tup (pv 2) pe_int (fun _ _ => rfl)) (pa_cons (pe_op op_cat (pv 1) (pe_lst (pa_cons pe_non pa_nil))) pa_nil))))
            (pss_cons (ps_asg (pe_tup (pa_cons pe_str (pa_cons (pe_callB call_len_seq (by rfl) T.len PySem.boot_len (pa_cons (pv 1) pa_nil)) pa_nil))) (pg_sub (pv 1) (pv 4) set_list))
            (pss_one (ps_asg (pe_tup (pa_cons pe_str (pa_cons (pe_ix ix_tup (pv 2) pe_int (fun _ _ => rfl)) (pa_cons (pe_op op_add (pv 4) pe_int) pa_nil)))) (pg_sub (pv 1) (pv 3) set_list))))))
            (pss_one (ps_asg (pe_tup (pa_cons pe_str (pa_cons (pe_ix ix_tup (pv 2) pe_int (fun _ _ => rfl)) (pa_cons (pe_callB call_len_seq (by rfl) T.len PySem.boot_len (pa_cons (pv 1) pa_nil)) pa_nil)))) (pg_sub (pv 1) (pv 3) set_list))))))
          (pss_one (ps_set (i := 1) scLC.nd rfl (.inl rfl) (pe_op op_cat (pv 1) (pe_lst (pa_cons (pv 2) pa_nil)))))))))))
    (pss_one (ps_ret (pv 1))), ?_⟩
  obtain ⟨ss, rfl⟩ := body_tuple hbc
  obtain ⟨a, xs, rfl, hs, ha⟩ := dp_tup_inv hd
  have hxl := dpAll_len ha
  have lm := lay_mem (lay_tup ld)
  have nm := noL_mem (noL_tup nd)
  refine ⟨_, rfl, a, rfl, ⟨_, hs⟩, for_tup (K := K) (a := a) (xs := xs) (fun i σ H' => ∃ (p : Addr) (ys : List V) (s2 s3 s4 : Option V), σ = [some (.ref a), some (.ref p), s2, s3, s4] ∧ Same H H' ∧ (p = l ∨ H p = none) ∧ H' p = some (.lst ys) ∧ DpAll K H' ys (ds ++ bodyC n ds.length (.tuple (ss.take i))))
    ⟨l, cs, none, none, none, rfl, Same.refl H, .inl rfl, hl, by rw [show bodyC n ds.length (.tuple (ss.take 0)) = [] by cases n <;> rfl, List.append_nil]; exact hcs⟩ (fun i σ H' _ ⟨_, _, _, _, _, _, s1, _⟩ => Same.tup s1 hs) ?_ ?_⟩
  · rintro i x σ H1 hx ⟨p, ys, s2, s3, s4, rfl, s1, hpl, hp1, hys⟩
    obtain ⟨si, hsi, hxd⟩ := dpAll_get ha hx
    have msi := List.mem_of_getElem? hsi
    cases n with
    | zero =>
      cases ss with
      | nil => cases msi
      | cons _ _ => cases hbc
    | succ n =>
      obtain ⟨ai, hai, lai⟩ := sum_le hbc msi
      obtain ⟨cl1, cok⟩ := code_len (sn := ds.length) lm hbc i
      have one := code_len (sn := ds.length) lm hbc (i + 1)
      rw [take_snoc hsi, codeL_snoc] at one
      have hys' : DpAll K H1 ys (ds ++ codeL (stC (bodyC n)) ds.length (ss.take i)) := hys
      have esn : ds ++ bodyC (n + 1) ds.length (.tuple (ss.take (i + 1))) = (ds ++ codeL (stC (bodyC n)) ds.length (ss.take i)) ++ stC (bodyC n) (ds ++ codeL (stC (bodyC n)) ds.length (ss.take i)).length si := by
        show ds ++ codeL (stC (bodyC n)) ds.length (ss.take (i + 1)) = _
        rw [take_snoc hsi, codeL_snoc, List.length_append, List.append_assoc]
      have nX : noLAll (ds ++ codeL (stC (bodyC n)) ds.length (ss.take i)) = true := noLAll_of fun d m => by
        rcases List.mem_append.mp m with m | m
        · exact noL_mem nds d m
        · exact (cok d m).1
      have lenX : (ds ++ codeL (stC (bodyC n)) ds.length (ss.take i)).length + (stC (bodyC n) (ds ++ codeL (stC (bodyC n)) ds.length (ss.take i)).length si).length ≤ 1000 := by
        have h1 := codeL_take (stC (bodyC n)) ds.length ss (i + 1)
        rw [take_snoc hsi, codeL_snoc, List.length_append] at h1
        have h2 : ds.length + (codeL (stC (bodyC n)) ds.length ss).length ≤ 1000 := hlen
        rw [List.length_append]
        omega
      rw [esn]
      generalize hX : ds ++ codeL (stC (bodyC n)) ds.length (ss.take i) = X at hys' nX lenX ⊢
      have yl : ys.length = X.length := dpAll_len hys'
      refine ⟨_, rfl, p, ys, rfl, .inl (SqL.of hp1), ?_⟩
      have fin : ∀ (H' : Hp) (r : Addr) (zs : List V) (s4' : Option V), Same H H' → H r = none → H' r = some (.lst zs) → DpAll K H' zs (X ++ stC (bodyC n) X.length si) → ∃ (p2 : Addr) (ys2 : List V) (s2 s3 s4 : Option V), ([some (.ref a), some (.ref r), some x, some (.int ((ys.length : Nat) : Int)), s4'] : L2.St) = [some (.ref a), some (.ref p2), s2, s3, s4] ∧ Same H H' ∧ (p2 = l ∨ H p2 = none) ∧ H' p2 = some (.lst ys2) ∧ DpAll K H' ys2 (X ++ stC (bodyC n) X.length si) := by
        intro H' r zs s4' a1 a2 a3 a4
        exact ⟨r, zs, _, _, _, rfl, a1, .inr a2, a3, a4⟩
      rcases st_shape hai with ⟨z, ps, rfl, h1, h2, hp, rfl⟩ | ⟨co, bb, c', rfl, hco, hb, rfl⟩ | ⟨co, b1, b2, c1, c2, rfl, hco, hb1, hb2, rfl⟩
      · obtain ⟨ax, xx, rfl, hsx, hax⟩ := dp_tup_inv hxd
        obtain ⟨xr, rfl⟩ : ∃ xr, xx = .str z :: xr := by
          cases hax with
          | cons hz _ => cases hz; exact ⟨_, rfl⟩
        have hsx1 := Same.tup s1 hsx
        refine ⟨_, rfl, ax, _, _, _, rfl, rfl, hsx1, atI_nat (j := 0) rfl, rfl, _, rfl, strF h2 ?_⟩
        refine ⟨_, rfl, ax, _, _, _, rfl, rfl, hsx1, atI_nat (j := 0) rfl, rfl, _, rfl, strF h1 ?_⟩
        rw [stC_plain h1 h2] at lenX
        refine ⟨_, rfl, _, rfl, (by show 1 ≤ sizeLine; decide), fun l2 nl2 => ?_⟩
        have sA : Same H1 (upd H1 l2 (.lst [.ref ax])) := same_new nl2 _
        refine ⟨p, l2, ys, [.ref ax], rfl, rfl, sA _ _ hp1, upd_same, ?_, fun r nr => ?_⟩
        · exact Nat.le_of_lt (Nat.lt_of_le_of_lt (by show ys.length + 1 ≤ 1000; simp at lenX; omega : _ ≤ 1000) (by decide))
        have sB := sA.trans (same_new nr (.lst (ys ++ [.ref ax])))
        exact fin _ r _ _ (s1.trans sB) ((s1.trans sA).free nr) upd_same (by rw [stC_plain h1 h2]; exact dpAll_append (dpAll_mono sB _ _ hys') (.cons (dp_mono (s1.trans sB) _ _ hxd) .nil))
      · obtain ⟨ax, xx, rfl, hsx, hax⟩ := dp_tup_inv hxd
        obtain ⟨x0, x1, x2, d0, d1, d2, rfl, e, hx0, hx1, hx2⟩ := dp_three hax rfl
        injection e with e0 e
        injection e with e1 e
        injection e with e2 e
        subst e0 e1 e2
        cases hx0
        have lsi := lay_mem (lay_tup (lm _ msi))
        have nsi := noL_mem (noL_tup (nm _ msi))
        have hsx1 := Same.tup s1 hsx
        rw [stC_while] at fin lenX
        obtain ⟨bok, bl⟩ := body_code_ok (X.length + 1) (lsi bb (by simp)) hb
        unfold whC at fin lenX
        simp only [List.length_cons, List.length_append, List.length_nil] at lenX
        refine ⟨_, rfl, ax, _, _, _, rfl, rfl, hsx1, atI_nat (j := 0) rfl, rfl, _, rfl, strT ?_⟩
        refine ⟨_, rfl, ax, _, _, _, rfl, rfl, hsx1, atI_nat (j := 2) rfl, _, rfl, (by show 1 ≤ sizeLine; decide), fun l2 nl2 => ?_⟩
        have sA : Same H1 (upd H1 l2 (.lst [.non])) := same_new nl2 _
        refine ⟨p, l2, ys, [.non], rfl, rfl, sA _ _ hp1, upd_same, ?_, fun r nr => ?_⟩
        · exact Nat.le_of_lt (Nat.lt_of_le_of_lt (by show ys.length + 1 ≤ 1000; omega : _ ≤ 1000) (by decide))
        have sB := sA.trans (same_new nr (.lst (ys ++ [.non])))
        have nrH := (s1.trans sA).free nr
        have s1B := s1.trans sB
        refine ⟨by omega, x2, r, bb, k, c', ys ++ [.non], X ++ [.none], rfl, by omega, dp_mono s1B _ _ hx2, lsi bb (by simp), nsi bb (by simp), hb, by omega, upd_same, dpAll_append (dpAll_mono sB _ _ hys') (.cons .non .nil), noLAll_snoc nX rfl, by rw [List.length_append]; show X.length + 1 + (bodyC n (X.length + 1) bb).length ≤ 1000; omega, fun H3 p3 zs s3' hp3 e3 hzs' => ?_⟩
        have s13 := s1B.trans s3'
        have np3 : H p3 = none := by
          rcases hp3 with rfl | h
          · exact nrH
          · exact s1B.free h
        have hzs : DpAll K H3 zs (X ++ [.none] ++ bodyC n (X.length + 1) bb) := by
          have e : (X ++ [PyData.none]).length = X.length + 1 := by rw [List.length_append]; rfl
          rw [e] at hzs'
          exact hzs'
        have zl : zs.length = X.length + 1 + (bodyC n (X.length + 1) bb).length := by
          rw [dpAll_len hzs, List.length_append, List.length_append]; rfl
        refine ⟨_, rfl, (by show 2 ≤ sizeLine; decide), fun j nj => ⟨(by show 1 ≤ sizeLine; decide), fun l4 nl4 => ?_⟩⟩
        have sC : Same H3 (upd H3 j (.tup [.str "jump", .int ((ys.length : Nat) : Int)])) := same_new nj _
        have ej : (upd H3 j (.tup [.str "jump", .int ((ys.length : Nat) : Int)])) j = some (.tup [.str "jump", .int ((ys.length : Nat) : Int)]) := upd_same
        generalize upd H3 j (.tup [.str "jump", .int ((ys.length : Nat) : Int)]) = H4 at sC ej nl4 ⊢
        have sD : Same H4 (upd H4 l4 (.lst [.ref j])) := same_new nl4 _
        refine ⟨p3, l4, zs, [.ref j], rfl, rfl, sD _ _ (sC _ _ e3), upd_same, ?_, fun r5 nr5 => ?_⟩
        · exact Nat.le_of_lt (Nat.lt_of_le_of_lt (by show zs.length + 1 ≤ 1000; omega : _ ≤ 1000) (by decide))
        have s14 := s13.trans (sC.trans sD)
        have nr5H := s14.free nr5
        have sE := same_new nr5 (.lst (zs ++ [V.ref j]))
        have e5 : (upd (upd H4 l4 (.lst [.ref j])) r5 (.lst (zs ++ [V.ref j]))) r5 = some (.lst (zs ++ [V.ref j])) := upd_same
        have sDE := sD.trans sE
        generalize upd (upd H4 l4 (.lst [.ref j])) r5 (.lst (zs ++ [V.ref j])) = H5 at sE sDE e5 ⊢
        have s15 := s14.trans sE
        refine ⟨_, rfl, ax, _, _, _, rfl, rfl, Same.tup s15 hsx, atI_nat (j := 1) rfl, _, rfl, r5, _, rfl, .inl (SqL.of e5), (by show 3 ≤ sizeLine; decide), fun t nt => ?_⟩
        have nrt : r5 ≠ t := ne_of_none e5 nt
        have sF := same_new nt (.tup [.str "test", x1, .int (((zs ++ [V.ref j]).length : Nat) : Int)])
        have et : (upd H5 t (.tup [.str "test", x1, .int (((zs ++ [V.ref j]).length : Nat) : Int)])) t = some (.tup [.str "test", x1, .int (((zs ++ [V.ref j]).length : Nat) : Int)]) := upd_same
        generalize upd H5 t (.tup [.str "test", x1, .int (((zs ++ [V.ref j]).length : Nat) : Int)]) = H6 at sF et ⊢
        have e6 := sF _ _ e5
        have s16 := s15.trans sF
        refine ⟨_, rfl, _, rfl, r5, _, _, ys.length, rfl, rfl, e6, ixN_at (by rw [List.length_append]; show _ < zs.length + 1; omega), ?_⟩
        have hz6 : DpAll K H6 (zs ++ [.ref j]) ((X ++ [.none] ++ bodyC n (X.length + 1) bb) ++ [insJ X.length]) := by
          refine dpAll_append (dpAll_mono (sC.trans (sDE.trans sF)) _ _ hzs) (.cons (.tup (SqT.of (sF _ _ (sDE _ _ ej))) (.cons (.str _) (.cons ?_ .nil))) .nil)
          rw [yl]; exact .int _
        have nAll : noLAll ((X ++ [PyData.none] ++ bodyC n (X.length + 1) bb) ++ [insJ X.length]) = true := noLAll_of fun d m => by
          rcases List.mem_append.mp m with m | m
          · rcases List.mem_append.mp m with m | m
            · exact noL_mem (noLAll_snoc nX rfl) d m
            · exact (bok d m).1
          · rw [List.mem_singleton.mp m]; exact noL_jmp
        refine fin _ r5 _ _ (same_upd s16 nr5H _) nr5H upd_same ?_
        exact setD yl hz6 nAll e6 (.tup (SqT.of et) (.cons (.str _) (.cons (dp_mono s16 _ _ hx1) (.cons (int_eq (j := ((X.length + 1 + (bodyC n (X.length + 1) bb).length + 1 : Nat) : Int)) (by rw [List.length_append]; show ((zs.length + 1 : Nat) : Int) = _; omega)) .nil)))) (noL_ins (t := X.length + 1 + (bodyC n (X.length + 1) bb).length + 1) (cond_noL hco)) (by simp [List.append_assoc]) rfl
      · obtain ⟨ax, xx, rfl, hsx, hax⟩ := dp_tup_inv hxd
        obtain ⟨x0, x1, x2, x3, rfl, hx0, hx1, hx2, hx3⟩ := dp_four hax
        cases hx0
        have lsi := lay_mem (lay_tup (lm _ msi))
        have nsi := noL_mem (noL_tup (nm _ msi))
        have hsx1 := Same.tup s1 hsx
        rw [stC_if] at fin lenX
        obtain ⟨bok, bl⟩ := body_code_ok (X.length + 1) (lsi b1 (by simp)) hb1
        have l1000 : X.length + 1 + (bodyC n (X.length + 1) b1).length ≤ 1000 := by
          unfold ifC at lenX
          split at lenX
          · simp only [List.length_cons] at lenX; omega
          · simp only [List.length_cons, List.length_append] at lenX; omega
        refine ⟨_, rfl, ax, _, _, _, rfl, rfl, hsx1, atI_nat (j := 0) rfl, rfl, _, rfl, strF (by decide +kernel) ?_⟩
        refine ⟨_, rfl, ax, _, _, _, rfl, rfl, hsx1, atI_nat (j := 0) rfl, rfl, _, rfl, strT ?_⟩
        refine ⟨_, rfl, ax, _, _, _, rfl, rfl, hsx1, atI_nat (j := 2) rfl, _, rfl, (by show 1 ≤ sizeLine; decide), fun l2 nl2 => ?_⟩
        have sA : Same H1 (upd H1 l2 (.lst [.non])) := same_new nl2 _
        refine ⟨p, l2, ys, [.non], rfl, rfl, sA _ _ hp1, upd_same, ?_, fun r nr => ?_⟩
        · exact Nat.le_of_lt (Nat.lt_of_le_of_lt (by show ys.length + 1 ≤ 1000; omega : _ ≤ 1000) (by decide))
        have sB := sA.trans (same_new nr (.lst (ys ++ [.non])))
        have nrH := (s1.trans sA).free nr
        have s1B := s1.trans sB
        refine ⟨by omega, x2, r, b1, k, c1, ys ++ [.non], X ++ [.none], rfl, by omega, dp_mono s1B _ _ hx2, lsi b1 (by simp), nsi b1 (by simp), hb1, by omega, upd_same, dpAll_append (dpAll_mono sB _ _ hys') (.cons .non .nil), noLAll_snoc nX rfl, by rw [List.length_append]; show X.length + 1 + (bodyC n (X.length + 1) b1).length ≤ 1000; omega, fun H3 p3 zs s3' hp3 e3 hzs' => ?_⟩
        have s13 := s1B.trans s3'
        have np3 : H p3 = none := by
          rcases hp3 with rfl | h
          · exact nrH
          · exact s1B.free h
        have hzs : DpAll K H3 zs (X ++ [.none] ++ bodyC n (X.length + 1) b1) := by
          have e : (X ++ [PyData.none]).length = X.length + 1 := by rw [List.length_append]; rfl
          rw [e] at hzs'
          exact hzs'
        have zl : zs.length = X.length + 1 + (bodyC n (X.length + 1) b1).length := by
          rw [dpAll_len hzs, List.length_append, List.length_append]; rfl
        have nZ : noLAll (X ++ [PyData.none] ++ bodyC n (X.length + 1) b1) = true := noLAll_of fun d m => by
          rcases List.mem_append.mp m with m | m
          · exact noL_mem (noLAll_snoc nX rfl) d m
          · exact (bok d m).1
        obtain ⟨ss2, rfl⟩ := body_tuple hb2
        refine ⟨_, rfl, ax, _, _, _, rfl, rfl, Same.tup s13 hsx, atI_nat (j := 3) rfl, (by show 0 ≤ sizeLine; decide), fun e0 ne0 => ?_⟩
        have sE0 := same_new ne0 (.tup [])
        have ee0 : (upd H3 e0 (.tup [])) e0 = some (.tup []) := upd_same
        generalize upd H3 e0 (.tup []) = H4 at sE0 ee0 ⊢
        have s14 := s13.trans sE0
        have sh2 : SeqAt.shaped (.tuple ss2) = true := by
          show ((PyData.tuple ss2).canLay0 && decide ((PyData.tuple ss2).depth ≤ 64)) = true
          rw [Bool.and_eq_true]
          exact ⟨lsi _ (by simp), decide_eq_true (by have := body_depth hb2; omega)⟩
        refine ⟨.tuple ss2, .tuple [], dp_mono s14 _ _ hx3, .tup (SqT.of ee0) .nil, sh2, by decide +kernel, _, rfl, ?_⟩
        rw [eqv_nil]
        have e34 := sE0 _ _ e3
        cases hnil : isNil (.tuple ss2) with
        | true =>
          have h0 : ss2 = [] := by
            cases ss2 with
            | nil => rfl
            | cons _ _ => cases hnil
          subst h0
          unfold ifC at fin
          rw [if_pos hnil] at fin
          refine iteF ⟨_, rfl, ax, _, _, _, rfl, rfl, Same.tup s14 hsx, atI_nat (j := 1) rfl, _, rfl, p3, zs, rfl, .inl (SqL.of e34), (by show 3 ≤ sizeLine; decide), fun t nt => ?_⟩
          have sF := same_new nt (.tup [.str "test", x1, .int ((zs.length : Nat) : Int)])
          have et : (upd H4 t (.tup [.str "test", x1, .int ((zs.length : Nat) : Int)])) t = some (.tup [.str "test", x1, .int ((zs.length : Nat) : Int)]) := upd_same
          generalize upd H4 t (.tup [.str "test", x1, .int ((zs.length : Nat) : Int)]) = H5 at sF et ⊢
          have e5 := sF _ _ e34
          have s15 := s14.trans sF
          refine ⟨_, rfl, _, rfl, p3, zs, _, ys.length, rfl, rfl, e5, ixN_at (by omega), ?_⟩
          refine fin _ p3 _ _ (same_upd s15 np3 _) np3 upd_same ?_
          exact setD yl (dpAll_mono (sE0.trans sF) _ _ hzs) nZ e5 (.tup (SqT.of et) (.cons (.str _) (.cons (dp_mono s15 _ _ hx1) (.cons (int_eq (j := ((X.length + 1 + (bodyC n (X.length + 1) b1).length : Nat) : Int)) (by omega)) .nil)))) (noL_ins (t := X.length + 1 + (bodyC n (X.length + 1) b1).length) (cond_noL hco)) (by simp [List.append_assoc]) rfl
        | false =>
          unfold ifC at lenX
          rw [if_neg (by rw [hnil]; decide)] at lenX
          simp only [List.length_cons, List.length_append] at lenX
          have Zl : (X ++ [PyData.none] ++ bodyC n (X.length + 1) b1).length = X.length + 1 + (bodyC n (X.length + 1) b1).length := by rw [List.length_append, List.length_append]; rfl
          generalize hI1 : bodyC n (X.length + 1) b1 = I1 at lenX hzs zl nZ bok bl l1000 Zl
          generalize hI2 : bodyC n (X.length + 1 + I1.length + 1) (.tuple ss2) = I2 at lenX
          obtain ⟨bok2, _⟩ := body_code_ok (X.length + 1 + I1.length + 1) (lsi _ (by simp)) hb2
          rw [hI2] at bok2
          have hz4 := dpAll_mono sE0 _ _ hzs
          refine iteT ⟨_, rfl, p3, zs, rfl, .inl (SqL.of e34), ?_⟩
          refine ⟨_, rfl, ax, _, _, _, rfl, rfl, Same.tup s14 hsx, atI_nat (j := 3) rfl, _, rfl, (by show 1 ≤ sizeLine; decide), fun l5 nl5 => ?_⟩
          have sA5 : Same H4 (upd H4 l5 (.lst [.non])) := same_new nl5 _
          refine ⟨p3, l5, zs, [.non], rfl, rfl, sA5 _ _ e34, upd_same, ?_, fun r6 nr6 => ?_⟩
          · exact Nat.le_of_lt (Nat.lt_of_le_of_lt (by show zs.length + 1 ≤ 1000; omega : _ ≤ 1000) (by decide))
          have sB6 := sA5.trans (same_new nr6 (.lst (zs ++ [.non])))
          have nr6H := (s14.trans sA5).free nr6
          have s16 := s14.trans sB6
          refine ⟨by omega, x3, r6, .tuple ss2, k, c2, zs ++ [.non], (X ++ [.none] ++ I1) ++ [.none], rfl, by omega, dp_mono s16 _ _ hx3, lsi _ (by simp), nsi _ (by simp), hb2, by omega, upd_same, dpAll_append (dpAll_mono sB6 _ _ hz4) (.cons .non .nil), noLAll_snoc nZ rfl, ?_, fun H7 p7 ws s7 hp7 e7 hws' => ?_⟩
          · rw [List.length_append, Zl]
            show X.length + 1 + I1.length + 1 + (bodyC n (X.length + 1 + I1.length + 1) (.tuple ss2)).length ≤ 1000
            rw [hI2]
            omega
          have s17 := s16.trans s7
          have np7 : H p7 = none := by
            rcases hp7 with rfl | h
            · exact nr6H
            · exact s16.free h
          have hws : DpAll K H7 ws (((X ++ [.none] ++ I1) ++ [.none]) ++ I2) := by
            have e : ((X ++ [PyData.none] ++ I1) ++ [PyData.none]).length = X.length + 1 + I1.length + 1 := by rw [List.length_append, Zl]; rfl
            rw [e] at hws'
            have hws'' : DpAll K H7 ws (((X ++ [.none] ++ I1) ++ [.none]) ++ bodyC n (X.length + 1 + I1.length + 1) (.tuple ss2)) := hws'
            rw [hI2] at hws''
            exact hws''
          have wl : ws.length = X.length + 1 + I1.length + 1 + I2.length := by
            rw [dpAll_len hws, List.length_append, List.length_append, Zl]; rfl
          have nW : noLAll (((X ++ [PyData.none] ++ I1) ++ [PyData.none]) ++ I2) = true := noLAll_of fun d m => by
            rcases List.mem_append.mp m with m | m
            · exact noL_mem (noLAll_snoc nZ rfl) d m
            · exact (bok2 d m).1
          refine ⟨_, rfl, p7, ws, rfl, .inl (SqL.of e7), (by show 2 ≤ sizeLine; decide), fun j nj => ?_⟩
          have sJ := same_new nj (.tup [.str "jump", .int ((ws.length : Nat) : Int)])
          have ej : (upd H7 j (.tup [.str "jump", .int ((ws.length : Nat) : Int)])) j = some (.tup [.str "jump", .int ((ws.length : Nat) : Int)]) := upd_same
          generalize upd H7 j (.tup [.str "jump", .int ((ws.length : Nat) : Int)]) = H8 at sJ ej ⊢
          have e8 := sJ _ _ e7
          have s18 := s17.trans sJ
          refine ⟨_, rfl, _, rfl, p7, ws, _, zs.length, rfl, rfl, e8, ixN_at (by omega), ?_⟩
          have h9 : DpAll K (upd H8 p7 (.lst (ws.set zs.length (.ref j)))) (ws.set zs.length (.ref j)) ((X ++ [.none] ++ I1) ++ insJ (X.length + 1 + I1.length + 1 + I2.length) :: I2) :=
            setD (X := X ++ [.none] ++ I1) (Y := I2) (by rw [zl, Zl]) (dpAll_mono sJ _ _ hws) nW e8 (.tup (SqT.of ej) (.cons (.str _) (.cons (int_eq (j := ((X.length + 1 + I1.length + 1 + I2.length : Nat) : Int)) (by omega)) .nil))) noL_jmp (by simp [List.append_assoc]) rfl
          have s19 : Same H (upd H8 p7 (.lst (ws.set zs.length (.ref j)))) := same_upd s18 np7 _
          have e9 : (upd H8 p7 (.lst (ws.set zs.length (.ref j)))) p7 = some (.lst (ws.set zs.length (.ref j))) := upd_same
          have wl9 : (ws.set zs.length (V.ref j)).length = ws.length := List.length_set
          generalize upd H8 p7 (.lst (ws.set zs.length (.ref j))) = H9 at h9 s19 e9 ⊢
          generalize ws.set zs.length (V.ref j) = ws2 at h9 e9 wl9 ⊢
          refine ⟨_, rfl, ax, _, _, _, rfl, rfl, Same.tup s19 hsx, atI_nat (j := 1) rfl, _, rfl, _, _, rfl, rfl, (by show 3 ≤ sizeLine; decide), fun t nt => ?_⟩
          have sT := same_new nt (.tup [.str "test", x1, .int ((zs.length : Nat) + 1)])
          have et : (upd H9 t (.tup [.str "test", x1, .int ((zs.length : Nat) + 1)])) t = some (.tup [.str "test", x1, .int ((zs.length : Nat) + 1)]) := upd_same
          generalize upd H9 t (.tup [.str "test", x1, .int ((zs.length : Nat) + 1)]) = H10 at sT et ⊢
          have e10 := sT _ _ e9
          have s20 := s19.trans sT
          refine ⟨_, rfl, _, rfl, p7, ws2, _, ys.length, rfl, rfl, e10, ixN_at (by omega), ?_⟩
          refine fin _ p7 _ _ (same_upd s20 np7 _) np7 upd_same ?_
          unfold ifC
          rw [if_neg (by rw [hnil]; decide), hI1, hI2]
          have nW2 : noLAll ((X ++ [PyData.none] ++ I1) ++ insJ (X.length + 1 + I1.length + 1 + I2.length) :: I2) = true := noLAll_of fun d m => by
            rcases List.mem_append.mp m with m | m
            · exact noL_mem nZ d m
            · rcases List.mem_cons.mp m with rfl | m
              · exact noL_jmp
              · exact (bok2 d m).1
          exact setD yl (dpAll_mono sT _ _ h9) nW2 e10 (.tup (SqT.of et) (.cons (.str _) (.cons (dp_mono s20 _ _ hx1) (.cons (int_eq (j := ((X.length + 1 + I1.length + 1 : Nat) : Int)) (by omega)) .nil)))) (noL_ins (t := X.length + 1 + I1.length + 1) (cond_noL hco)) (by simp [List.append_assoc]) rfl
  · rintro σ H1 ⟨p, ys, s2, s3, s4, rfl, s1, hpl, hp1, hys⟩
    rw [hxl, List.take_length] at hys
    exact ⟨_, rfl, q _ _ _ s1 hpl hp1 hys⟩
theorem none_LC {f : Addr} {fd : FuncData} (lv : Nat) : FnOk P w K mg base CX0 lv f fd ["_law_body_here", "_law_code_here"] (fun vs H Q E => 0 ≠ 0 ∧ spLC K (0 - 1) vs H Q E) :=
  ⟨fun vs H Q E h => absurd rfl h.1, fun A outer s H args us vs Q E _ _ _ _ h => absurd rfl h.1⟩
theorem recLC {f : Addr} {fd : FuncData} (F : Fun K "_law_code" "_law_code" sLC f fd) (bF : Binds K fd ["_law_body_here", "_law_code_here"] []) (mF : mg "_law_code" = some (.ref f)) (T : Gs K mg) :
    ∀ n : Nat, FnOk P w K mg base CX0 (2 + n) f fd ["_law_body_here", "_law_code_here"] (spLC K n)
  | 0 => ok_LC (lv := 1) F T ⟨f, fd, none_LC 1, bF, F.kp, mF⟩
  | n + 1 => by
    have ih := recLC F bF mF T n
    have c2 : FnOk P w K mg base CX0 (2 + n) f fd ["_law_body_here", "_law_code_here"] (fun vs H Q E => n + 1 ≠ 0 ∧ spLC K (n + 1 - 1) vs H Q E) :=
      ⟨fun vs H Q E h => ih.len vs H Q E h.2, fun A outer s H args us vs Q E h1 h2 h3 h4 h => ih.run A outer s H args us vs Q E h1 h2 h3 h4 h.2⟩
    exact ok_LC (lv := 2 + n) (n := n + 1) F T ⟨f, fd, c2, bF, F.kp, mF⟩
end
abbrev sAsm : Stmt := top 31
abbrev sLaw : Stmt := top 61
theorem roles_test (k : Str) : rolesZ "test" k = none := by
  unfold rolesZ
  rw [if_neg (by decide +kernel), if_neg (by decide +kernel), if_neg (by decide +kernel)]
  split
  · rw [if_neg (by decide +kernel), if_neg (by decide +kernel)]
  · rw [if_neg (by decide +kernel), if_neg (by decide +kernel)]
theorem roles_jump (k : Str) : rolesZ "jump" k = none := by
  unfold rolesZ
  rw [if_neg (by decide +kernel), if_neg (by decide +kernel), if_neg (by decide +kernel)]
  split
  · rw [if_neg (by decide +kernel), if_neg (by decide +kernel)]
  · rw [if_neg (by decide +kernel), if_neg (by decide +kernel)]
def spRight7 (K : PySem.W.Frag) : Sp := fun vs H Q _ => ∃ (p r : Addr) (xs ys : List V) (ds : List PyData), vs = [.ref p, .ref r] ∧ H p = some (.lst xs) ∧ H r = some (.lst ys) ∧ DpAll K H xs ds ∧ DpAll K H ys ds ∧ (∀ i ∈ ds, okI i) ∧ ∀ H', Same H H' → Q (.bl true) H'
def spAsm (K : PySem.W.Frag) : Sp := fun vs H Q _ => ∃ (v : V) (k : Str) (d : PyData), vs = [v] ∧ Dp K H v (.tuple [.str k, d]) ∧ Lay (.tuple [.str k, d]) ∧ noL d = true ∧ isProg (.tuple [.str k, d]) = true ∧
  ∀ H' p xs, Same H H' → H p = none → H' p = some (.lst xs) → DpAll K H' xs (bodyC 4 0 d) → Q (.ref p) H'
theorem shaped_code {ds : List PyData} (h : ∀ i ∈ ds, okI i) : SeqAt.shaped (.list ds) = true := by
  show ((PyData.list ds).canLay0 && decide ((PyData.list ds).depth ≤ 64)) = true
  rw [Bool.and_eq_true]
  refine ⟨?_, decide_eq_true ?_⟩
  · simp only [PyData.canLay0]; exact lay_all fun d m => (h d m).2.1
  · have := depth_all (n := 2) fun d m => (h d m).2.2.1
    simp only [PyData.depth]
    omega
section
variable {P : Program} {w : World} {K : PySem.W.Frag} {mg : Str → Option Value} {base : Heap}
theorem scAsm : FnScope ["program"] ["program"] (defScope sAsm) := ⟨rfl, rfl, rfl, by decide +kernel, rfl, by decide +kernel, by decide +kernel⟩
theorem ok_asm {f : Addr} {fd : FuncData} (F : Fun K "assemble" "assemble" sAsm f fd) (CP : Cal P w K mg base 7 "is_program" ["thing"] (spProg K)) (CB : Cal P w K mg base 14 "body_code" ["body", "start"] (spBC K 4)) : FnOk P w K mg base CX0 15 f fd ["program"] (spAsm K) := by
  refine F.ok scAsm (fun vs H Q E h => ?_) (fun cdv A outer s H vs Q E hr h => ?_)
  · obtain ⟨v, k, d, rfl, _⟩ := h
    rfl
  obtain ⟨v, k, d, rfl, hd, ld, nd, hp, q⟩ := h
  have hr6 : Room 7 _ := hr.mono (by decide)
  refine ⟨_, pss_cons (ps_if (pt_not (pt_val (pe_call CP.G hr6 rfl CP.m CP.kp CP.b .nil pass0 (pa_cons (pv 0) pa_nil)))) (pss_one ps_never) pss_nil)
    (pss_one (ps_ret (pe_call CB.G hr rfl CB.m CB.kp CB.b .nil pass0 (pa_cons (pe_ix ix_tup (pv 0) pe_int (fun _ _ => rfl)) (pa_cons pe_int pa_nil))))), ?_⟩
  refine ⟨_, rfl, v, _, rfl, hd, ld, fun H1 s1 => ⟨_, rfl, ?_⟩⟩
  rw [hp]
  obtain ⟨a, xs, rfl, hs, ha⟩ := dp_tup_inv hd
  obtain ⟨x0, x1, d0, d1, rfl, e, hx0, hx1⟩ := dp_two ha rfl
  injection e with e0 e
  injection e with e1 e
  subst e0 e1
  have h' : (inS (.str k) kinds && okN 0 (bodyN k 4 d)) = true := hp
  rw [Bool.and_eq_true] at h'
  cases hb : bodyN k 4 d with
  | none => rw [hb] at h'; cases h'.2
  | some c =>
    rw [hb] at h'
    have hc : 0 + c ≤ 24 := of_decide_eq_true h'.2
    refine iteF ⟨_, rfl, a, _, _, _, rfl, rfl, Same.tup s1 hs, atI_nat (j := 1) rfl, x1, d, k, c, 0, rfl, dp_mono s1 _ _ hx1, lay_mem (lay_tup ld) _ (by simp), nd, hb, by omega, fun H2 p ys s2 np e2 hys => ?_⟩
    exact q _ p _ (s1.trans s2) (s1.free np) e2 hys
end
/-- an instruction -/
inductive Ins where
  | set (v : Str) (n : Int)
  | add (v : Str) (t : PyData)
  | wait (n : Int)
  | ask (g : Str) (t : PyData) (v : Str)
  | ans (n : Int)
  | grow (t : PyData)
  | lst (t : PyData)
  | test (c : PyData) (t : Nat)
  | jump (t : Nat)
def Ins.toD : Ins → PyData
  | .set v n => .tuple [.str "set", .str v, .int n]
  | .add v t => .tuple [.str "add", .str v, t]
  | .wait n => .tuple [.str "wait", .int n]
  | .ask g t v => .tuple [.str "ask", .str g, t, .str v]
  | .ans n => .tuple [.str "answer", .int n]
  | .grow t => .tuple [.str "grow", t]
  | .lst t => .tuple [.str "list", t]
  | .test c t => insT c t
  | .jump t => insJ t
def okV (v : Str) : Prop := v = "a" ∨ v = "b"
def Ins.ok (k : Str) : Ins → Prop
  | .set v n => okV v ∧ 0 ≤ n ∧ n ≤ 15
  | .add v t => okV v ∧ isTerm t = true
  | .wait n => 1 ≤ n ∧ n ≤ longest
  | .ask g t v => k = "teller" ∧ (g = "+" ∨ g = "-" ∨ g = "=") ∧ isTerm t = true ∧ okV v
  | .ans n => k = "teller" ∧ (n = 0 ∨ n = 1)
  | .grow t => ¬ k = "teller" ∧ isTerm t = true
  | .lst t => ¬ k = "teller" ∧ isTerm t = true
  | .test c _ => isCond c = true
  | .jump _ => True
theorem inS_var {d : PyData} (h : inS d vars = true) : ∃ v, d = .str v ∧ okV v := by
  cases d with
  | str z =>
    have h' : (vars : List Str).any (· == z) = true := h
    simp only [vars, List.any_cons, List.any_nil, Bool.or_false, Bool.or_eq_true, beq_iff_eq] at h'
    exact ⟨z, rfl, h'.elim (fun e => .inl e.symm) (fun e => .inr e.symm)⟩
  | _ => cases h
theorem inS_ask {d : PyData} (h : inS d asks = true) : ∃ g, d = .str g ∧ (g = "+" ∨ g = "-" ∨ g = "=") := by
  cases d with
  | str z =>
    have h' : (asks : List Str).any (· == z) = true := h
    simp only [asks, List.any_cons, List.any_nil, Bool.or_false, Bool.or_eq_true, beq_iff_eq] at h'
    exact ⟨z, rfl, h'.elim (fun e => .inl e.symm) (fun h => .inr (h.elim (fun e => .inl e.symm) (fun e => .inr e.symm)))⟩
  | _ => cases h
theorem inS_sign {d : PyData} (h : inS d signs = true) : ∃ g, d = .str g ∧ (g = "==" ∨ g = "!=" ∨ g = "<") := by
  cases d with
  | str z =>
    have h' : (signs : List Str).any (· == z) = true := h
    simp only [signs, List.any_cons, List.any_nil, Bool.or_false, Bool.or_eq_true, beq_iff_eq] at h'
    exact ⟨z, rfl, h'.elim (fun e => .inl e.symm) (fun h => .inr (h.elim (fun e => .inl e.symm) (fun e => .inr e.symm)))⟩
  | _ => cases h
theorem intIn_cases {d : PyData} {lo hi : Int} (h : intIn d lo hi = true) : ∃ i, d = .int i ∧ lo ≤ i ∧ i ≤ hi := by
  cases d with
  | int i =>
    have h' : (decide (lo ≤ i) && decide (i ≤ hi)) = true := h
    rw [Bool.and_eq_true, decide_eq_true_iff, decide_eq_true_iff] at h'
    exact ⟨i, rfl, h'.1, h'.2⟩
  | _ => cases h
theorem term_cases {d : PyData} (h : isTerm d = true) : (∃ v, d = .str v ∧ okV v) ∨ ∃ i, d = .int i ∧ 0 ≤ i ∧ i ≤ 15 := by
  have h' : (inS d vars || intIn d 0 15) = true := h
  rcases Bool.or_eq_true _ _ ▸ h' with h | h
  · exact .inl (inS_var h)
  · exact .inr (intIn_cases h)
theorem cond_cases {c : PyData} (h : isCond c = true) : ∃ v g t, c = .tuple [.str v, .str g, t] ∧ okV v ∧ (g = "==" ∨ g = "!=" ∨ g = "<") ∧ isTerm t = true := by
  match c, h with
  | .tuple [x, y, z], h =>
    have h' : (inS x vars && inS y signs && isTerm z) = true := h
    rw [Bool.and_eq_true, Bool.and_eq_true] at h'
    obtain ⟨v, rfl, hv⟩ := inS_var h'.1.1
    obtain ⟨g, rfl, hg⟩ := inS_sign h'.1.2
    exact ⟨v, g, z, rfl, hv, hg, h'.2⟩
theorem plain_ins {s : PyData} {k : Str} (h : isPlain s k = true) : ∃ i : Ins, s = i.toD ∧ i.ok k := by
  obtain ⟨z, ps, rs, rfl, hz, hl, hp⟩ := plain_inv h
  unfold rolesZ at hz
  split at hz
  · subst_vars
    cases hz
    match ps, hl, hp with
    | [x, y], _, hp =>
      have h' : isPart x "variable" = true ∧ isPart y "value" = true := by simpa [allParts] using hp
      rw [part_variable, part_value] at h'
      obtain ⟨v, rfl, hv⟩ := inS_var h'.1
      obtain ⟨n, rfl, hn⟩ := intIn_cases h'.2
      exact ⟨.set v n, rfl, hv, hn⟩
  split at hz
  · subst_vars
    cases hz
    match ps, hl, hp with
    | [x, y], _, hp =>
      have h' : isPart x "variable" = true ∧ isPart y "term" = true := by simpa [allParts] using hp
      rw [part_variable, part_term] at h'
      obtain ⟨v, rfl, hv⟩ := inS_var h'.1
      exact ⟨.add v y, rfl, hv, h'.2⟩
  split at hz
  · subst_vars
    cases hz
    match ps, hl, hp with
    | [x], _, hp =>
      have h' : isPart x "steps" = true := by simpa [allParts] using hp
      rw [part_steps] at h'
      obtain ⟨n, rfl, hn⟩ := intIn_cases h'
      exact ⟨.wait n, rfl, hn⟩
  split at hz
  · rename_i hk
    split at hz
    · subst_vars
      cases hz
      match ps, hl, hp with
      | [x, y, v], _, hp =>
        have h' : isPart x "sign" = true ∧ isPart y "term" = true ∧ isPart v "variable" = true := by simpa [allParts] using hp
        rw [part_sign, part_term, part_variable] at h'
        obtain ⟨g, rfl, hg⟩ := inS_ask h'.1
        obtain ⟨z, rfl, hv⟩ := inS_var h'.2.2
        exact ⟨.ask g y z, rfl, rfl, hg, h'.2.1, hv⟩
    · split at hz
      · subst_vars
        cases hz
        match ps, hl, hp with
        | [x], _, hp =>
          have h' : isPart x "answer" = true := by simpa [allParts] using hp
          rw [part_answer] at h'
          obtain ⟨n, rfl, hn⟩ := intIn_cases h'
          exact ⟨.ans n, rfl, rfl, by omega⟩
      · cases hz
  · rename_i hk
    split at hz
    · subst_vars
      cases hz
      match ps, hl, hp with
      | [x], _, hp =>
        have h' : isPart x "term" = true := by simpa [allParts] using hp
        rw [part_term] at h'
        exact ⟨.grow x, rfl, hk, h'⟩
    · split at hz
      · subst_vars
        cases hz
        match ps, hl, hp with
        | [x], _, hp =>
          have h' : isPart x "term" = true := by simpa [allParts] using hp
          rw [part_term] at h'
          exact ⟨.lst x, rfl, hk, h'⟩
      · cases hz
/-- the instructions of a program, read as such -/
theorem code_ins {k : Str} : ∀ {n c : Nat} {d : PyData} (st0 : Nat), bodyN k n d = some c → ∃ is : List Ins, bodyC n st0 d = is.map Ins.toD ∧ ∀ i ∈ is, i.ok k
  | 0, c, d, st0, h => ⟨[], rfl, fun i m => nomatch m⟩
  | n + 1, c, d, st0, h => by
    obtain ⟨ss, rfl⟩ := body_tuple h
    rw [bodyN_tup] at h
    show ∃ is : List Ins, codeL (stC (bodyC n)) st0 ss = is.map Ins.toD ∧ ∀ i ∈ is, i.ok k
    induction ss generalizing st0 c with
    | nil => exact ⟨[], rfl, fun i m => nomatch m⟩
    | cons s r ih =>
      obtain ⟨a, b, e1, e2, _, _⟩ := addO_le (show addO (stN k n s) (sumO (r.map (stN k n))) = some c from h)
      have one : ∃ is : List Ins, stC (bodyC n) st0 s = is.map Ins.toD ∧ ∀ i ∈ is, i.ok k := by
        rcases st_shape e1 with ⟨z, ps, rfl, h1, h2, hp, rfl⟩ | ⟨co, bb, c', rfl, hco, hb, rfl⟩ | ⟨co, b1, b2, c1, c2, rfl, hco, hb1, hb2, rfl⟩
        · rw [stC_plain h1 h2]
          obtain ⟨i, e, hi⟩ := plain_ins hp
          exact ⟨[i], by rw [e]; rfl, fun j m => by rw [List.mem_singleton.mp m]; exact hi⟩
        · rw [stC_while]
          unfold whC
          obtain ⟨is, e, hi⟩ := code_ins (st0 + 1) hb
          refine ⟨.test co (st0 + 1 + (bodyC n (st0 + 1) bb).length + 1) :: (is ++ [.jump st0]), ?_, fun j m => ?_⟩
          · rw [e]
            simp [Ins.toD]
          · simp only [List.mem_cons, List.mem_append, List.not_mem_nil, or_false] at m
            rcases m with rfl | m | rfl
            · exact hco
            · exact hi j m
            · trivial
        · rw [stC_if]
          unfold ifC
          obtain ⟨is, e, hi⟩ := code_ins (st0 + 1) hb1
          split
          · refine ⟨.test co (st0 + 1 + (bodyC n (st0 + 1) b1).length) :: is, ?_, fun j m => ?_⟩
            · rw [e]
              simp [Ins.toD]
            · rcases List.mem_cons.mp m with rfl | m
              · exact hco
              · exact hi j m
          · obtain ⟨js, e', hj⟩ := code_ins (st0 + 1 + (bodyC n (st0 + 1) b1).length + 1) hb2
            refine ⟨.test co (st0 + 1 + (bodyC n (st0 + 1) b1).length + 1) :: (is ++ .jump (st0 + 1 + (bodyC n (st0 + 1) b1).length + 1 + (bodyC n (st0 + 1 + (bodyC n (st0 + 1) b1).length + 1) b2).length) :: js), ?_, fun j m => ?_⟩
            · rw [e', e]
              simp [Ins.toD]
            · simp only [List.mem_cons, List.mem_append] at m
              rcases m with rfl | m | rfl | m
              · exact hco
              · exact hi j m
              · trivial
              · exact hj j m
      obtain ⟨is, e, hi⟩ := one
      obtain ⟨js, e', hj⟩ := ih (st0 := st0 + (stC (bodyC n) st0 s).length) (c := b) e2
      refine ⟨is ++ js, ?_, fun j m => ?_⟩
      · simp only [codeL]
        rw [e', e, List.map_append]
      · rcases List.mem_append.mp m with m | m
        · exact hi j m
        · exact hj j m
/-! ### what an instruction does -/
def vget (a b : Int) (v : Str) : Int := if v = "a" then a else b
def tval (a b : Int) : PyData → Int
  | .str z => vget a b z
  | .int i => i
  | _ => 0
def cval (a b : Int) : PyData → Bool
  | .tuple [.str v, .str g, t] => if g = "==" then decide (vget a b v = tval a b t) else if g = "!=" then !decide (vget a b v = tval a b t) else decide (vget a b v < tval a b t)
  | _ => false
def Ins.cost : Ins → Int
  | .wait n => n
  | _ => 1
def Ins.next (pc : Nat) (a b : Int) : Ins → Nat
  | .jump t => t
  | .test c t => if cval a b c = true then pc + 1 else t
  | _ => pc + 1
def vput (v : Str) (n : Int) (p : Int × Int) : Int × Int := if v = "a" then (n, p.2) else (p.1, n)
def Ins.held (a b : Int) : Ins → Int × Int
  | .set v n => vput v n (a, b)
  | .add v t => vput v ((vget a b v + tval a b t) % 16) (a, b)
  | _ => (a, b)
def Ins.grown (a b : Int) : Ins → Int
  | .grow t => tval a b t
  | _ => 0
def place (x a b : Int) (g : Str) (t : PyData) : Int := if g = "+" then x + tval a b t else if g = "-" then x - tval a b t else tval a b t
def in16 (a b : Int) : Prop := (0 ≤ a ∧ a ≤ 15) ∧ 0 ≤ b ∧ b ≤ 15
theorem vput16 {v : Str} {n a b : Int} (h : in16 a b) (h0 : 0 ≤ n) (h1 : n ≤ 15) : in16 (vput v n (a, b)).1 (vput v n (a, b)).2 := by
  unfold vput
  split
  · exact ⟨⟨h0, h1⟩, h.2⟩
  · exact ⟨h.1, h0, h1⟩
theorem held16 {k : Str} {i : Ins} {a b : Int} (hi : i.ok k) (h : in16 a b) : in16 (i.held a b).1 (i.held a b).2 := by
  cases i with
  | set v n => exact vput16 h hi.2.1 hi.2.2
  | add v t => exact vput16 h (Int.emod_nonneg _ (by decide)) (by have := Int.emod_lt_of_pos (vget a b v + tval a b t) (by decide : (0 : Int) < 16); omega)
  | _ => exact h
theorem vget16 {a b : Int} (h : in16 a b) (v : Str) : 0 ≤ vget a b v ∧ vget a b v ≤ 15 := by
  unfold vget
  split
  · exact h.1
  · exact h.2
theorem tval16 {a b : Int} (h : in16 a b) {t : PyData} (ht : isTerm t = true) : 0 ≤ tval a b t ∧ tval a b t ≤ 15 := by
  rcases term_cases ht with ⟨v, rfl, _⟩ | ⟨i, rfl, h0, h1⟩
  · exact vget16 h v
  · exact ⟨h0, h1⟩
theorem cost_pos {k : Str} {i : Ins} (h : i.ok k) : 1 ≤ i.cost ∧ i.cost ≤ longest := by
  cases i with
  | wait n => exact h
  | _ => exact ⟨Int.le_refl _, by show (1 : Int) ≤ longest; decide⟩
abbrev sCost : Stmt := top 37
abbrev sWorth : Stmt := inClass (top 38) 3
abbrev sTrue : Stmt := inClass (top 38) 4
abbrev sFol : Stmt := inClass (top 38) 6
def Ins.word : Ins → Str
  | .set _ _ => "set"
  | .add _ _ => "add"
  | .wait _ => "wait"
  | .ask _ _ _ => "ask"
  | .ans _ => "answer"
  | .grow _ => "grow"
  | .lst _ => "list"
  | .test _ _ => "test"
  | .jump _ => "jump"
def Ins.parts : Ins → List PyData
  | .set v n => [.str v, .int n]
  | .add v t => [.str v, t]
  | .wait n => [.int n]
  | .ask g t v => [.str g, t, .str v]
  | .ans n => [.int n]
  | .grow t => [t]
  | .lst t => [t]
  | .test c t => [c, .int (t : Nat)]
  | .jump t => [.int (t : Nat)]
theorem toD_eq (i : Ins) : i.toD = .tuple (.str i.word :: i.parts) := by cases i <;> rfl
theorem ins_inv {K : PySem.W.Frag} {H : Hp} {v : V} {i : Ins} (h : Dp K H v i.toD) : ∃ p xr, v = .ref p ∧ SqT K H p (.str i.word :: xr) ∧ DpAll K H xr i.parts := by
  rw [toD_eq] at h
  obtain ⟨p, xs, rfl, hs, ha⟩ := dp_tup_inv h
  cases ha with
  | cons h0 t =>
    cases h0
    exact ⟨p, _, rfl, hs, t⟩
theorem dp_solo {K : PySem.W.Frag} {H : Hp} {xs : List V} {d : PyData} (h : DpAll K H xs [d]) : ∃ x, xs = [x] ∧ Dp K H x d := by
  cases h with
  | cons h0 t => cases t; exact ⟨_, rfl, h0⟩
theorem dp_pair {K : PySem.W.Frag} {H : Hp} {xs : List V} {d e : PyData} (h : DpAll K H xs [d, e]) : ∃ x y, xs = [x, y] ∧ Dp K H x d ∧ Dp K H y e := by
  cases h with
  | cons h0 t =>
    obtain ⟨y, rfl, h1⟩ := dp_solo t
    exact ⟨_, _, rfl, h0, h1⟩
theorem dp_trip {K : PySem.W.Frag} {H : Hp} {xs : List V} {d e f : PyData} (h : DpAll K H xs [d, e, f]) : ∃ x y z, xs = [x, y, z] ∧ Dp K H x d ∧ Dp K H y e ∧ Dp K H z f := by
  cases h with
  | cons h0 t =>
    obtain ⟨y, z, rfl, h1, h2⟩ := dp_pair t
    exact ⟨_, _, _, rfl, h0, h1, h2⟩
/-! ### the object of a walk -/
def wf (cd hd sn : Addr) (pc : Nat) (ct t : Int) (ex : List (Str × V)) : List (Str × V) := ("code", .ref cd) :: ("at", .int pc) :: ("held", .ref hd) :: ("counter", .int ct) :: ("taken", .int t) :: ("seen", .ref sn) :: ex
def hv (a b : Int) : List (Key × V) := [(Sum.inr "a", .int a), (Sum.inr "b", .int b)]
theorem hv_get {v : Str} (h : okV v) (a b : Int) : valV (hv a b) (Sum.inr v : Key) = some (V.int (vget a b v)) := by
  rcases h with rfl | rfl
  · rfl
  · rfl
theorem hv_put {v : Str} (h : okV v) (a b n : Int) : putK (hv a b) (Sum.inr v : Key) (V.int n) = hv (vput v n (a, b)).1 (vput v n (a, b)).2 := by
  rcases h with rfl | rfl
  · rfl
  · rfl
/-- what the top has written of a class of walks -/
structure WC (K : PySem.W.Frag) (C : Addr) : Prop where
  cl : Cls K C
  nCode : NoAttr K C "code"
  nAt : NoAttr K C "at"
  nHeld : NoAttr K C "held"
  nCnt : NoAttr K C "counter"
  nTak : NoAttr K C "taken"
  nSeen : NoAttr K C "seen"
/-- a method of a class -/
structure MCal (P : Program) (w : World) (K : PySem.W.Frag) (mg : Str → Option Value) (base : Heap) (k : Nat) (C : Addr) (x : Str) (ps : List Str) (sp : Sp) where
  f : Addr
  fd : FuncData
  G : FnOk P w K mg base CX0 k f fd ps sp
  b : Binds K fd ps []
  m : Meth K C x f
/-- no further attribute of the object hides a method -/
def noM (ex : List (Str × V)) : Prop := ex.lookup ("worth" : Str) = none ∧ ex.lookup ("is_true" : Str) = none ∧ ex.lookup ("follower" : Str) = none ∧ ex.lookup ("earlier" : Str) = none ∧ ex.lookup ("upcoming" : Str) = none ∧ ex.lookup ("take" : Str) = none ∧ ex.length ≤ 10
/-- a walk stands at wk -/
structure WkA (K : PySem.W.Frag) (H : Hp) (C wk dx cd hd sn : Addr) (pc : Nat) (a b ct t : Int) (ex : List (Str × V)) : Prop where
  ob : H wk = some (.ins C dx (wf cd hd sn pc ct t ex))
  hl : H hd = some (.dK (hv a b))
def spWorth (K : PySem.W.Frag) (C : Addr) : Sp := fun vs H Q _ => ∃ (wk dx cd hd sn : Addr) (pc : Nat) (a b ct t : Int) (ex : List (Str × V)) (v : V) (d : PyData), vs = [.ref wk, v] ∧ WkA K H C wk dx cd hd sn pc a b ct t ex ∧ Dp K H v d ∧ isTerm d = true ∧ Q (.int (tval a b d)) H
def spTrue (K : PySem.W.Frag) (C : Addr) : Sp := fun vs H Q _ => ∃ (wk dx cd hd sn : Addr) (pc : Nat) (a b ct t : Int) (ex : List (Str × V)) (v : V) (d : PyData), vs = [.ref wk, v] ∧ WkA K H C wk dx cd hd sn pc a b ct t ex ∧ noM ex ∧ Dp K H v d ∧ isCond d = true ∧ Q (.bl (cval a b d)) H
def spFol (K : PySem.W.Frag) (C : Addr) : Sp := fun vs H Q _ => ∃ (wk dx cd hd sn : Addr) (pc : Nat) (a b ct t : Int) (ex : List (Str × V)) (v : V) (i : Ins) (k : Str), vs = [.ref wk, v] ∧ WkA K H C wk dx cd hd sn pc a b ct t ex ∧ noM ex ∧ Dp K H v i.toD ∧ i.ok k ∧ Q (.int (i.next pc a b : Nat)) H
def spCost (K : PySem.W.Frag) : Sp := fun vs H Q _ => ∃ (v : V) (i : Ins), vs = [v] ∧ Dp K H v i.toD ∧ Q (.int i.cost) H
section
variable {P : Program} {w : World} {K : PySem.W.Frag} {mg : Str → Option Value} {base : Heap}
theorem scCost : FnScope ["instruction"] ["instruction"] (defScope sCost) := ⟨rfl, rfl, rfl, by decide +kernel, rfl, by decide +kernel, by decide +kernel⟩
theorem ok_cost {f : Addr} {fd : FuncData} (F : Fun K "cost" "cost" sCost f fd) : FnOk P w K mg base CX0 1 f fd ["instruction"] (spCost K) := by
  refine F.ok scCost (fun vs H Q E h => ?_) (fun cdv A outer s H vs Q E hr h => ?_)
  · obtain ⟨v, i, rfl, _⟩ := h
    rfl
  obtain ⟨v, i, rfl, hd, q⟩ := h
  refine ⟨_, pss_one (ps_ret (pe_ifExp (pt_cmpR op_eq (pe_ix ix_tup (pv 0) pe_int (fun _ _ => rfl)) pe_str (nomark _)) (pe_ix ix_tup (pv 0) pe_int (fun _ _ => rfl)) pe_int)), ?_⟩
  obtain ⟨p, xr, rfl, hs, ha⟩ := ins_inv hd
  refine ⟨_, rfl, p, _, _, _, rfl, rfl, hs, atI_nat (j := 0) rfl, rfl, _, rfl, ?_⟩
  cases i with
  | wait n =>
    obtain ⟨x, rfl, hx⟩ := dp_solo ha
    cases hx
    exact strT ⟨_, rfl, p, _, _, _, rfl, rfl, hs, atI_nat (j := 1) rfl, q⟩
  | set v n => exact strF (by simp only [Ins.word]; decide +kernel) q
  | add v n => exact strF (by simp only [Ins.word]; decide +kernel) q
  | ask g t v => exact strF (by simp only [Ins.word]; decide +kernel) q
  | ans n => exact strF (by simp only [Ins.word]; decide +kernel) q
  | grow n => exact strF (by simp only [Ins.word]; decide +kernel) q
  | lst n => exact strF (by simp only [Ins.word]; decide +kernel) q
  | test n t => exact strF (by simp only [Ins.word]; decide +kernel) q
  | jump n => exact strF (by simp only [Ins.word]; decide +kernel) q
theorem scWorth : FnScope ["self", "term"] ["self", "term"] (defScope sWorth) := ⟨rfl, rfl, rfl, by decide +kernel, rfl, by decide +kernel, by decide +kernel⟩
theorem ok_worth {f C : Addr} {fd : FuncData} (F : Fun K "worth" "Walk.worth" sWorth f fd) (T : Gs K mg) (W : WC K C) : FnOk P w K mg base CX0 1 f fd ["self", "term"] (spWorth K C) := by
  refine F.ok scWorth (fun vs H Q E h => ?_) (fun cdv A outer s H vs Q E hr h => ?_)
  · obtain ⟨wk, dx, cd, hd, sn, pc, a, b, ct, t, ex, v, d, rfl, _⟩ := h
    rfl
  obtain ⟨wk, dx, cd, hd, sn, pc, a, b, ct, t, ex, v, d, rfl, hw, hdv, ht, q⟩ := h
  have hu := hu_of hr
  refine ⟨_, pss_one (ps_ret (pe_ifExp (pt_val (pe_callB call_isi (by rfl) T.isi (by decide +kernel) (pa_cons (pv 1) (pa_cons (pe_bltn (v := .ty "str") (by rfl) T.str (by decide +kernel) rfl) pa_nil)))) (pe_dget hu (pe_fld (pv 0) rfl) (pv 1) (fun _ _ => rfl)) (pv 1))), ?_⟩
  refine ⟨_, rfl, v, .ty "str", _, _, _, rfl, .ty _, dp_ty hdv, kit_isT d (by simp) (dp_nd hdv), _, rfl, ?_⟩
  rcases term_cases ht with ⟨z, rfl, hz⟩ | ⟨i, rfl, h0, h1⟩
  · cases hdv
    exact iteT ⟨_, rfl, wk, C, dx, _, _, rfl, hw.ob, W.cl, W.nHeld, rfl, _, rfl, hd, _, rfl, (by show DGet H hd (.str z) (some (.int (vget a b z))); rw [← hv_get hz a b]; exact DGet.k (k := Sum.inr z) hw.hl), q⟩
  · cases hdv
    exact iteF ⟨_, rfl, q⟩
theorem scTrue : FnScope ["self", "condition", "variable", "sign", "term"] ["self", "condition"] (defScope sTrue) := ⟨rfl, rfl, rfl, by decide +kernel, rfl, by decide +kernel, by decide +kernel⟩
theorem ok_true {f C : Addr} {fd : FuncData} (F : Fun K "is_true" "Walk.is_true" sTrue f fd) (W : WC K C) (MW : MCal P w K mg base 1 C "worth" ["self", "term"] (spWorth K C)) : FnOk P w K mg base CX0 2 f fd ["self", "condition"] (spTrue K C) := by
  refine F.ok scTrue (fun vs H Q E h => ?_) (fun cdv A outer s H vs Q E hr h => ?_)
  · obtain ⟨wk, dx, cd, hd, sn, pc, a, b, ct, t, ex, v, d, rfl, _⟩ := h
    rfl
  obtain ⟨wk, dx, cd, hd, sn, pc, a, b, ct, t, ex, v, d, rfl, hw, hn, hdv, hc, q⟩ := h
  have hu := hu_of hr
  refine ⟨_, pss_cons (ps_asg (pv 1) (pg_tup (by rfl) (pgs_cons (pg_name (i := 2) scTrue.nd rfl (.inl rfl)) (pgs_cons (pg_name (i := 3) scTrue.nd rfl (.inl rfl)) (pgs_cons (pg_name (i := 4) scTrue.nd rfl (.inl rfl)) pgs_nil)))))
    (pss_cons (ps_if (pt_cmpR op_eq (pv 3) pe_str (nomark _)) (pss_one (ps_ret (pe_cmpR op_eq (pe_dget hu (pe_fld (pv 0) rfl) (pv 2) (fun _ _ => rfl)) (pe_meth (pv 0) W.cl MW.m MW.G hr MW.b .nil pass0 (pa_cons (pv 4) pa_nil)) (nomark _)))) pss_nil)
    (pss_cons (ps_if (pt_cmpR op_eq (pv 3) pe_str (nomark _)) (pss_one (ps_ret (pe_cmpR op_ne (pe_dget hu (pe_fld (pv 0) rfl) (pv 2) (fun _ _ => rfl)) (pe_meth (pv 0) W.cl MW.m MW.G hr MW.b .nil pass0 (pa_cons (pv 4) pa_nil)) (nomark _)))) pss_nil)
    (pss_one (ps_ret (pe_cmpR op_lt (pe_dget hu (pe_fld (pv 0) rfl) (pv 2) (fun _ _ => rfl)) (pe_meth (pv 0) W.cl MW.m MW.G hr MW.b .nil pass0 (pa_cons (pv 4) pa_nil)) (nomark _)))))), ?_⟩
  obtain ⟨v0, g, t0, rfl, hv0, hg, ht⟩ := cond_cases hc
  obtain ⟨p, xs, rfl, hs, ha⟩ := dp_tup_inv hdv
  obtain ⟨x, y, z, rfl, hx, hy, hz⟩ := dp_trip ha
  cases hx
  cases hy
  have eC : cval a b (.tuple [.str v0, .str g, t0]) = (if g = "==" then decide (vget a b v0 = tval a b t0) else if g = "!=" then !decide (vget a b v0 = tval a b t0) else decide (vget a b v0 < tval a b t0)) := rfl
  rw [eC] at q
  refine ⟨_, rfl, p, _, rfl, hs, rfl, _, _, rfl, _, _, rfl, _, _, rfl, rfl, ?_⟩
  have hget : DGet H hd (.str v0) (some (.int (vget a b v0))) := by rw [← hv_get hv0 a b]; exact DGet.k (k := Sum.inr v0) hw.hl
  have call : ∀ Q' : VK, Q' (.int (tval a b t0)) H → spWorth K C [.ref wk, z] H Q' (fun _ _ _ => False) := fun Q' q' => ⟨wk, dx, cd, hd, sn, pc, a, b, ct, t, ex, z, t0, rfl, hw, hz, ht, q'⟩
  rcases hg with rfl | rfl | rfl
  · rw [if_pos rfl] at q
    refine ⟨_, rfl, rfl, _, rfl, strT ?_⟩
    refine ⟨_, rfl, wk, C, dx, _, _, rfl, hw.ob, W.cl, W.nHeld, rfl, _, rfl, hd, _, rfl, hget, _, rfl, wk, dx, _, rfl, hw.ob, hn.1, _, rfl, ?_⟩
    refine ⟨wk, dx, cd, hd, sn, pc, a, b, ct, t, ex, z, t0, rfl, hw, hz, ht, rfl, ?_⟩
    by_cases c : vget a b v0 = tval a b t0
    · rw [decide_eq_true c] at q
      have e : decide (V.int (vget a b v0) = V.int (tval a b t0)) = true := decide_eq_true (by rw [c])
      rw [e]; exact q
    · rw [decide_eq_false c] at q
      have e : decide (V.int (vget a b v0) = V.int (tval a b t0)) = false := decide_eq_false (fun z => c (by injection z))
      rw [e]; exact q
  · rw [if_neg (by decide +kernel), if_pos rfl] at q
    refine ⟨_, rfl, rfl, _, rfl, strF (by decide +kernel) ?_⟩
    refine ⟨_, rfl, rfl, _, rfl, strT ?_⟩
    refine ⟨_, rfl, wk, C, dx, _, _, rfl, hw.ob, W.cl, W.nHeld, rfl, _, rfl, hd, _, rfl, hget, _, rfl, wk, dx, _, rfl, hw.ob, hn.1, _, rfl, ?_⟩
    refine ⟨wk, dx, cd, hd, sn, pc, a, b, ct, t, ex, z, t0, rfl, hw, hz, ht, rfl, ?_⟩
    by_cases c : vget a b v0 = tval a b t0
    · rw [decide_eq_true c] at q
      have e : decide (V.int (vget a b v0) = V.int (tval a b t0)) = true := decide_eq_true (by rw [c])
      rw [e]; exact q
    · rw [decide_eq_false c] at q
      have e : decide (V.int (vget a b v0) = V.int (tval a b t0)) = false := decide_eq_false (fun z => c (by injection z))
      rw [e]; exact q
  · rw [if_neg (by decide +kernel), if_neg (by decide +kernel)] at q
    refine ⟨_, rfl, rfl, _, rfl, strF (by decide +kernel) ?_⟩
    refine ⟨_, rfl, rfl, _, rfl, strF (by decide +kernel) ?_⟩
    refine ⟨_, rfl, wk, C, dx, _, _, rfl, hw.ob, W.cl, W.nHeld, rfl, _, rfl, hd, _, rfl, hget, _, rfl, wk, dx, _, rfl, hw.ob, hn.1, _, rfl, ?_⟩
    exact ⟨wk, dx, cd, hd, sn, pc, a, b, ct, t, ex, z, t0, rfl, hw, hz, ht, _, _, rfl, rfl, q⟩
theorem scFol : FnScope ["self", "instruction"] ["self", "instruction"] (defScope sFol) := ⟨rfl, rfl, rfl, by decide +kernel, rfl, by decide +kernel, by decide +kernel⟩
theorem ok_fol {f C : Addr} {fd : FuncData} (F : Fun K "follower" "Walk.follower" sFol f fd) (W : WC K C) (MT : MCal P w K mg base 2 C "is_true" ["self", "condition"] (spTrue K C)) : FnOk P w K mg base CX0 3 f fd ["self", "instruction"] (spFol K C) := by
  refine F.ok scFol (fun vs H Q E h => ?_) (fun cdv A outer s H vs Q E hr h => ?_)
  · obtain ⟨wk, dx, cd, hd, sn, pc, a, b, ct, t, ex, v, i, k, rfl, _⟩ := h
    rfl
  obtain ⟨wk, dx, cd, hd, sn, pc, a, b, ct, t, ex, v, i, k, rfl, hw, hn, hdv, hi, q⟩ := h
  refine ⟨_, pss_cons (ps_if (pt_cmpR op_eq (pe_ix ix_tup (pv 1) pe_int (fun _ _ => rfl)) pe_str (nomark _)) (pss_one (ps_ret (pe_ix ix_tup (pv 1) pe_int (fun _ _ => rfl)))) pss_nil)
    (pss_cons (ps_if (PW.pt (pw_and (pt_cmpR op_eq (pe_ix ix_tup (pv 1) pe_int (fun _ _ => rfl)) pe_str (nomark _)) (pw_and1 (pt_not (pt_val (pe_meth (pv 0) W.cl MT.m MT.G hr MT.b .nil pass0 (pa_cons (pe_ix ix_tup (pv 1) pe_int (fun _ _ => rfl)) pa_nil))))))) (pss_one (ps_ret (pe_ix ix_tup (pv 1) pe_int (fun _ _ => rfl)))) pss_nil)
    (pss_one (ps_ret (pe_op op_add (pe_fld (pv 0) rfl) pe_int)))), ?_⟩
  obtain ⟨p, xr, rfl, hs, ha⟩ := ins_inv hdv
  refine ⟨_, rfl, p, _, _, _, rfl, rfl, hs, atI_nat (j := 0) rfl, rfl, _, rfl, ?_⟩
  have plus : ∀ D : L2.Ends, D.rt (.int ((pc + 1 : Nat) : Int)) H → (tRet (tOp (rI0 fun i j => .int (i + j)) (tFld K (tVar 0) "at") (tC (.int 1)))) D [some (.ref wk), some (.ref p)] H := fun D q' => ⟨_, rfl, wk, C, dx, _, _, rfl, hw.ob, W.cl, W.nAt, rfl, _, _, rfl, rfl, q'⟩
  cases i with
  | jump n =>
    obtain ⟨x, rfl, hx⟩ := dp_solo ha
    cases hx
    exact strT ⟨_, rfl, p, _, _, _, rfl, rfl, hs, atI_nat (j := 1) rfl, q⟩
  | test c n =>
    obtain ⟨x, y, rfl, hx, hy⟩ := dp_pair ha
    cases hy
    refine strF (by simp only [Ins.word]; decide +kernel) ⟨_, rfl, p, _, _, _, rfl, rfl, hs, atI_nat (j := 0) rfl, rfl, _, rfl, strT ?_⟩
    refine ⟨_, rfl, wk, dx, _, rfl, hw.ob, hn.2.1, _, rfl, p, _, _, _, rfl, rfl, hs, atI_nat (j := 1) rfl, ?_⟩
    refine ⟨wk, dx, cd, hd, sn, pc, a, b, ct, t, ex, x, c, rfl, hw, hn, hx, hi, _, rfl, ?_⟩
    have e : (Ins.test c n).next pc a b = if cval a b c = true then pc + 1 else n := rfl
    rw [e] at q
    cases hc : cval a b c with
    | true => rw [hc, if_pos rfl] at q; exact iteF (plus _ q)
    | false => rw [hc, if_neg (by decide)] at q; exact iteT ⟨_, rfl, p, _, _, _, rfl, rfl, hs, atI_nat (j := 2) rfl, q⟩
  | wait n => exact strF (by simp only [Ins.word]; decide +kernel) ⟨_, rfl, p, _, _, _, rfl, rfl, hs, atI_nat (j := 0) rfl, rfl, _, rfl, strF (by simp only [Ins.word]; decide +kernel) (iteF (plus _ q))⟩
  | set v n => exact strF (by simp only [Ins.word]; decide +kernel) ⟨_, rfl, p, _, _, _, rfl, rfl, hs, atI_nat (j := 0) rfl, rfl, _, rfl, strF (by simp only [Ins.word]; decide +kernel) (iteF (plus _ q))⟩
  | add v n => exact strF (by simp only [Ins.word]; decide +kernel) ⟨_, rfl, p, _, _, _, rfl, rfl, hs, atI_nat (j := 0) rfl, rfl, _, rfl, strF (by simp only [Ins.word]; decide +kernel) (iteF (plus _ q))⟩
  | ask g t v => exact strF (by simp only [Ins.word]; decide +kernel) ⟨_, rfl, p, _, _, _, rfl, rfl, hs, atI_nat (j := 0) rfl, rfl, _, rfl, strF (by simp only [Ins.word]; decide +kernel) (iteF (plus _ q))⟩
  | ans n => exact strF (by simp only [Ins.word]; decide +kernel) ⟨_, rfl, p, _, _, _, rfl, rfl, hs, atI_nat (j := 0) rfl, rfl, _, rfl, strF (by simp only [Ins.word]; decide +kernel) (iteF (plus _ q))⟩
  | grow n => exact strF (by simp only [Ins.word]; decide +kernel) ⟨_, rfl, p, _, _, _, rfl, rfl, hs, atI_nat (j := 0) rfl, rfl, _, rfl, strF (by simp only [Ins.word]; decide +kernel) (iteF (plus _ q))⟩
  | lst n => exact strF (by simp only [Ins.word]; decide +kernel) ⟨_, rfl, p, _, _, _, rfl, rfl, hs, atI_nat (j := 0) rfl, rfl, _, rfl, strF (by simp only [Ins.word]; decide +kernel) (iteF (plus _ q))⟩
end
abbrev sUp : Stmt := inClass (top 38) 1
abbrev sEar : Stmt := inClass (top 38) 2
abbrev sTake : Stmt := inClass (top 38) 5
/-! ### data stand over a change of objects that are no sequences -/
def seqO : HO → Prop
  | .lst _ => True
  | .tup _ => True
  | .frz _ _ => True
  | _ => False
def KeepS (H H' : Hp) : Prop := ∀ a o, seqO o → H a = some o → H' a = some o
theorem KeepS.rd {H H' : Hp} {a : Addr} {u : HO} (k : KeepS H H') (hu : seqO u) (h : Rd H a u) : Rd H' a u := by
  rcases h with h | ⟨o, h⟩
  · exact .inl (k _ _ hu h)
  · exact .inr ⟨o, k _ _ trivial h⟩
theorem KeepS.tup {K : PySem.W.Frag} {H H' : Hp} {a : Addr} {xs : List V} (k : KeepS H H') (h : SqT K H a xs) : SqT K H' a xs := h.elim (fun r => .inl (k.rd trivial r)) .inr
theorem KeepS.lst {K : PySem.W.Frag} {H H' : Hp} {a : Addr} {xs : List V} (k : KeepS H H') (h : SqL K H a xs) : SqL K H' a xs := h.elim (fun r => .inl (k.rd trivial r)) .inr
mutual
theorem dp_keepS {K : PySem.W.Frag} {H H' : Hp} (e : KeepS H H') : ∀ (d : PyData) (v : V), Dp K H v d → Dp K H' v d
  | .none, _, h => by cases h; exact .non
  | .bool b, _, h => by cases h; exact .bl b
  | .int i, _, h => by cases h; exact .int i
  | .str x, _, h => by cases h; exact .str x
  | .list ds, _, h => by
    cases h with
    | lst hs ha => exact .lst (e.lst hs) (dpAll_keepS e ds _ ha)
  | .tuple ds, _, h => by
    cases h with
    | tup hs ha => exact .tup (e.tup hs) (dpAll_keepS e ds _ ha)
  | .dict _, _, h => by cases h
theorem dpAll_keepS {K : PySem.W.Frag} {H H' : Hp} (e : KeepS H H') : ∀ (ds : List PyData) (vs : List V), DpAll K H vs ds → DpAll K H' vs ds
  | [], _, h => by cases h; exact .nil
  | d :: ds, _, h => by
    cases h with
    | cons hd ht => exact .cons (dp_keepS e d _ hd) (dpAll_keepS e ds _ ht)
end
theorem KeepS.upd {H : Hp} {p : Addr} {o u : HO} (h : H p = some o) (n : ¬ seqO o) : KeepS H (upd H p u) := fun a x hx e => by
  rw [upd_ne]
  · exact e
  · intro z
    subst z
    rw [h] at e
    cases e
    exact n hx
theorem KeepS.trans {H H' H'' : Hp} (a : KeepS H H') (b : KeepS H' H'') : KeepS H H'' := fun x o hx e => b x o hx (a x o hx e)
theorem KeepS.of {H H' : Hp} (s : Same H H') : KeepS H H' := fun x o _ e => s x o e
/-- nothing but what stands at these places has changed -/
def Fx (S : List Addr) (H H' : Hp) : Prop := ∀ p o, p ∉ S → H p = some o → H' p = some o
theorem Fx.of {S : List Addr} {H H' : Hp} (s : Same H H') : Fx S H H' := fun p o _ e => s p o e
theorem Fx.trans {S : List Addr} {H H' H'' : Hp} (a : Fx S H H') (b : Fx S H' H'') : Fx S H H'' := fun p o n e => b p o n (a p o n e)
theorem Fx.upd {S : List Addr} {H : Hp} {p : Addr} {o : HO} (m : p ∈ S) : Fx S H (upd H p o) := fun q x n e => by
  rw [upd_ne (fun z : q = p => n (by rw [z]; exact m))]
  exact e
theorem Fx.mono {S S' : List Addr} {H H' : Hp} (h : ∀ p ∈ S, p ∈ S') (a : Fx S H H') : Fx S' H H' := fun p o n e => a p o (fun m => n (h p m)) e
/-- what was changed was new: nothing has changed for who stood before -/
theorem Fx.same {S : List Addr} {H0 H H' : Hp} (s : Same H0 H) (n : ∀ p ∈ S, H0 p = none) (a : Fx S H H') : Same H0 H' := fun p o e => a p o (fun m => by rw [n p m] at e; cases e) (s p o e)
def keyS (pc : Nat) (a b : Int) : List Key := [Sum.inl (pc : Int), Sum.inl a, Sum.inl b]
def itemV : Option V → V
  | some v => v
  | none => .non
def spUp (K : PySem.W.Frag) (C : Addr) : Sp := fun vs H Q _ => ∃ (wk dx cd hd sn : Addr) (pc : Nat) (a b ct t : Int) (ex : List (Str × V)) (xs : List V), vs = [.ref wk] ∧ WkA K H C wk dx cd hd sn pc a b ct t ex ∧ SqL K H cd xs ∧ Q (itemV xs[pc]?) H
def spEar (K : PySem.W.Frag) (C : Addr) : Sp := fun vs H Q _ => ∃ (wk dx cd hd sn : Addr) (pc : Nat) (a b ct t : Int) (ex : List (Str × V)) (kvs : List (List Key × V)), vs = [.ref wk] ∧ WkA K H C wk dx cd hd sn pc a b ct t ex ∧ H sn = some (.dT kvs) ∧ kvs.length ≤ 100000 ∧ (∀ p ∈ kvs, ∃ r, p.2 = .ref r) ∧
  (∀ r, valV kvs (keyS pc a b) = some (.ref r) → ∀ H', Same H H' → Q (.ref r) H') ∧
  (valV kvs (keyS pc a b) = none → ∀ H' r, Fx [sn] H H' → H' sn = some (.dT (kvs ++ [(keyS pc a b, .ref r)])) → H r = none → H' r = some (.tup [.int t, .int ct]) → Q .non H')
def spTake (K : PySem.W.Frag) (C : Addr) : Sp := fun vs H Q _ => ∃ (wk dx cd hd sn : Addr) (pc : Nat) (a b ct t : Int) (ex : List (Str × V)) (v : V) (i : Ins) (k : Str), vs = [.ref wk, v] ∧ WkA K H C wk dx cd hd sn pc a b ct t ex ∧ noM ex ∧ Dp K H v i.toD ∧ i.ok k ∧
  ∀ H', Fx [wk, hd] H H' → WkA K H' C wk dx cd hd sn (i.next pc a b) (i.held a b).1 (i.held a b).2 (ct + i.grown a b) (t + i.cost) ex → Q .non H'
section
variable {P : Program} {w : World} {K : PySem.W.Frag} {mg : Str → Option Value} {base : Heap}
theorem scUp : FnScope ["self"] ["self"] (defScope sUp) := ⟨rfl, rfl, rfl, by decide +kernel, rfl, by decide +kernel, by decide +kernel⟩
theorem ok_up {f C : Addr} {fd : FuncData} (F : Fun K "upcoming" "Walk.upcoming" sUp f fd) (T : Gs K mg) (W : WC K C) : FnOk P w K mg base CX0 1 f fd ["self"] (spUp K C) := by
  refine F.ok scUp (fun vs H Q E h => ?_) (fun cdv A outer s H vs Q E hr h => ?_)
  · obtain ⟨wk, dx, cd, hd, sn, pc, a, b, ct, t, ex, xs, rfl, _⟩ := h
    rfl
  obtain ⟨wk, dx, cd, hd, sn, pc, a, b, ct, t, ex, xs, rfl, hw, hc, q⟩ := h
  refine ⟨_, pss_one (ps_ret (pe_ifExp (pt_cmpR op_lt (pe_fld (pv 0) rfl) (pe_callB call_len_seq (by rfl) T.len PySem.boot_len (pa_cons (pe_fld (pv 0) rfl) pa_nil)) (nomark _)) (pe_ix ix_list (pe_fld (pv 0) rfl) (pe_fld (pv 0) rfl) (fun _ _ => rfl)) pe_non)), ?_⟩
  refine ⟨_, rfl, wk, C, dx, _, _, rfl, hw.ob, W.cl, W.nAt, rfl, _, rfl, wk, C, dx, _, _, rfl, hw.ob, W.cl, W.nCode, rfl, cd, xs, rfl, .inl hc, _, _, rfl, rfl, _, rfl, ?_⟩
  by_cases hlt : pc < xs.length
  · refine ite2 (fun _ => ?_) (fun c => absurd (decide_eq_true (by show (pc : Int) < (xs.length : Int); omega)) c)
    have e : xs[pc]? = some xs[pc] := List.getElem?_eq_getElem hlt
    rw [e] at q
    exact ⟨_, rfl, wk, C, dx, _, _, rfl, hw.ob, W.cl, W.nCode, rfl, _, rfl, wk, C, dx, _, _, rfl, hw.ob, W.cl, W.nAt, rfl, cd, xs, _, _, rfl, rfl, hc, atI_nat e, q⟩
  · refine ite2 (fun c => absurd (of_decide_eq_true c) (by show ¬ (pc : Int) < (xs.length : Int); omega)) (fun _ => ?_)
    have e : xs[pc]? = none := List.getElem?_eq_none (by omega)
    rw [e] at q
    exact q
theorem scEar : FnScope ["self", "state", "before"] ["self"] (defScope sEar) := ⟨rfl, rfl, rfl, by decide +kernel, rfl, by decide +kernel, by decide +kernel⟩
theorem ok_ear {f C : Addr} {fd : FuncData} (F : Fun K "earlier" "Walk.earlier" sEar f fd) (W : WC K C) : FnOk P w K mg base CX0 1 f fd ["self"] (spEar K C) := by
  refine F.ok scEar (fun vs H Q E h => ?_) (fun cdv A outer s H vs Q E hr h => ?_)
  · obtain ⟨wk, dx, cd, hd, sn, pc, a, b, ct, t, ex, kvs, rfl, _⟩ := h
    rfl
  obtain ⟨wk, dx, cd, hd, sn, pc, a, b, ct, t, ex, kvs, rfl, hw, hs, hl, hr1, qS, qN⟩ := h
  have hu := hu_of hr
  refine ⟨_, pss_cons (ps_set (i := 1) scEar.nd rfl (.inl rfl) (pe_tup (pa_cons (pe_fld (pv 0) rfl) (pa_cons (pe_dget hu (pe_fld (pv 0) rfl) pe_str (fun _ _ => rfl)) (pa_cons (pe_dget hu (pe_fld (pv 0) rfl) pe_str (fun _ _ => rfl)) pa_nil)))))
    (pss_cons (ps_set (i := 2) scEar.nd rfl (.inl rfl) (pe_dget1 hu (pe_fld (pv 0) rfl) (pv 1) ⟨rfl, rfl, rfl, rfl⟩))
    (pss_cons (ps_if (pt_cmpR op_isN (pv 2) pe_non (nomark _)) (pss_one (ps_dput hu (pe_fld (pv 0) rfl) (pv 1) (pe_tup (pa_cons (pe_fld (pv 0) rfl) (pa_cons (pe_fld (pv 0) rfl) pa_nil))) rfl)) pss_nil)
    (pss_one (ps_ret (pv 2))))), ?_⟩
  refine ⟨_, rfl, wk, C, dx, _, _, rfl, hw.ob, W.cl, W.nAt, rfl, _, rfl, wk, C, dx, _, _, rfl, hw.ob, W.cl, W.nHeld, rfl, hd, _, rfl, DGet.k (k := Sum.inr "a") hw.hl, _, rfl, wk, C, dx, _, _, rfl, hw.ob, W.cl, W.nHeld, rfl, hd, _, rfl, DGet.k (k := Sum.inr "b") hw.hl, (by show 3 ≤ sizeLine; decide), fun st nst => ?_⟩
  have s1 := same_new nst (.tup [.int (pc : Nat), .int a, .int b])
  have est : (upd H st (.tup [.int (pc : Nat), .int a, .int b])) st = some (.tup ((keyS pc a b).map kV)) := upd_same
  generalize upd H st (.tup [.int (pc : Nat), .int a, .int b]) = H1 at s1 est ⊢
  have ob1 := s1 _ _ hw.ob
  have hs1 := s1 _ _ hs
  refine ⟨_, rfl, wk, C, dx, _, _, rfl, ob1, W.cl, W.nSeen, rfl, sn, rfl, .inr ⟨_, .inl hs1⟩, _, rfl, _, DGet.t (k := keyS pc a b) hs1 est, ?_⟩
  cases hv : valV kvs (keyS pc a b) with
  | some v =>
    obtain ⟨p, mp, ep⟩ : ∃ p ∈ kvs, p.2 = v := by
      unfold valV at hv
      cases hf : kvs.find? (fun kv => decide (kv.1 = keyS pc a b)) with
      | none => rw [hf] at hv; cases hv
      | some p =>
        rw [hf] at hv
        exact ⟨p, List.mem_of_find?_eq_some hf, by injection hv⟩
    obtain ⟨r, er⟩ := hr1 p mp
    rw [er] at ep
    subst ep
    refine ⟨_, rfl, rfl, _, rfl, ite2 (fun c => absurd (of_decide_eq_true c) (fun z => nomatch z)) (fun _ => ?_)⟩
    exact ⟨_, rfl, qS r hv _ s1⟩
  | none =>
    refine ⟨_, rfl, rfl, _, rfl, ite2 (fun _ => ?_) (fun c => absurd (decide_eq_true rfl) c)⟩
    refine ⟨_, rfl, wk, C, dx, _, _, rfl, ob1, W.cl, W.nTak, rfl, _, rfl, wk, C, dx, _, _, rfl, ob1, W.cl, W.nCnt, rfl, (by show 2 ≤ sizeLine; decide), fun r nr => ?_⟩
    have s2 := same_new nr (.tup [.int t, .int ct])
    have er : (upd H1 r (.tup [.int t, .int ct])) r = some (.tup [.int t, .int ct]) := upd_same
    generalize upd H1 r (.tup [.int t, .int ct]) = H2 at s2 er ⊢
    have hs2 := s2 _ _ hs1
    have nrs : r ≠ sn := fun z => by rw [z] at er; rw [er] at hs2; cases hs2
    refine ⟨_, rfl, wk, C, dx, _, _, rfl, s2 _ _ ob1, W.cl, W.nSeen, rfl, _, rfl, sn, _, rfl, DPut.t (k := keyS pc a b) hs2 (s2 _ _ est) (Nat.lt_of_le_of_lt hl (by decide)), ?_⟩
    refine ⟨_, rfl, qN hv _ r (Fx.trans (Fx.of (s1.trans s2)) (Fx.upd (by simp))) ?_ (s1.free nr) ?_⟩
    · rw [upd_same, putK_new _ hv]
    · rw [upd_ne nrs]
      exact er
theorem scTake : FnScope ["self", "instruction", "word", "variable", "term"] ["self", "instruction"] (defScope sTake) := ⟨rfl, rfl, rfl, by decide +kernel, rfl, by decide +kernel, by decide +kernel⟩
theorem ok_take {f C : Addr} {fd : FuncData} (F : Fun K "take" "Walk.take" sTake f fd) (T : Gs K mg) (W : WC K C) (CC : Cal P w K mg base 1 "cost" ["instruction"] (spCost K)) (MF : MCal P w K mg base 3 C "follower" ["self", "instruction"] (spFol K C)) (MW : MCal P w K mg base 1 C "worth" ["self", "term"] (spWorth K C)) :
    FnOk P w K mg base CX0 4 f fd ["self", "instruction"] (spTake K C) := by
  refine F.ok scTake (fun vs H Q E h => ?_) (fun cdv A outer s H vs Q E hr h => ?_)
  · obtain ⟨wk, dx, cd, hd, sn, pc, a, b, ct, t, ex, v, i, k, rfl, _⟩ := h
    rfl
  obtain ⟨wk, dx, cd, hd, sn, pc, a, b, ct, t, ex, v, i, k, rfl, hw, hn, hdv, hi, q⟩ := h
  have hu := hu_of hr
  have hr1 : Room 1 _ := hr.mono (by decide)
  refine ⟨_, pss_cons (ps_fldaug (pv 0) (pe_call CC.G hr1 rfl CC.m CC.kp CC.b .nil pass0 (pa_cons (pv 1) pa_nil)) in_add)
    (pss_cons (ps_fld (pv 0) (pe_meth (pv 0) W.cl MF.m MF.G hr MF.b .nil pass0 (pa_cons (pv 1) pa_nil)) rfl)
    (pss_cons (ps_set (i := 2) scTake.nd rfl (.inl rfl) (pe_ix ix_tup (pv 1) pe_int (fun _ _ => rfl)))
    (pss_one (ps_if (pt_cmpR op_eq (pv 2) pe_str (nomark _))
      (pss_one (ps_dput hu (pe_fld (pv 0) rfl) (pe_ix ix_tup (pv 1) pe_int (fun _ _ => rfl)) (pe_ix ix_tup (pv 1) pe_int (fun _ _ => rfl)) rfl))
      (pss_one (ps_if (pt_cmpR op_eq (pv 2) pe_str (nomark _))
        (pss_cons (ps_asg (pe_slice sl_tup (pv 1) (po_some pe_int) po_none) (pg_tup (by rfl) (pgs_cons (pg_name (i := 3) scTake.nd rfl (.inl rfl)) (pgs_cons (pg_name (i := 4) scTake.nd rfl (.inl rfl)) pgs_nil))))
        (pss_one (ps_dput hu (pe_fld (pv 0) rfl) (pv 3) (pe_op op_mod (pe_op op_add (pe_dget hu (pe_fld (pv 0) rfl) (pv 3) (fun _ _ => rfl)) (pe_meth (pv 0) W.cl MW.m MW.G hr1 MW.b .nil pass0 (pa_cons (pv 4) pa_nil))) (pe_op op_add (pe_gint rfl T.mG) pe_int)) rfl)))
        (pss_one (ps_if (pt_cmpR op_eq (pv 2) pe_str (nomark _)) (pss_one (ps_fldaug (pv 0) (pe_meth (pv 0) W.cl MW.m MW.G hr1 MW.b .nil pass0 (pa_cons (pe_ix ix_tup (pv 1) pe_int (fun _ _ => rfl)) pa_nil)) in_add)) pss_nil)))))))), ?_⟩
  have lx : ∀ {x y : Int} {p : Nat}, (wf cd hd sn p x y ex).length < 1000 := by
    intro x y p
    have := hn.2.2.2.2.2.2
    show ex.length + 1 + 1 + 1 + 1 + 1 + 1 < 1000
    omega
  have nwh : hd ≠ wk := fun z => by
    have h1 := hw.hl
    rw [z, hw.ob] at h1
    cases h1
  refine ⟨_, rfl, wk, C, dx, _, _, rfl, hw.ob, W.cl, W.nTak, rfl, _, rfl, v, i, rfl, hdv, _, _, rfl, rfl, dx, _, hw.ob, lx, ?_⟩
  have e1 : (upd H wk (.ins C dx (putF "taken" (.int (t + i.cost)) (wf cd hd sn pc ct t ex)))) wk = some (.ins C dx (wf cd hd sn pc ct (t + i.cost) ex)) := upd_same
  have f1 : Fx [wk, hd] H (upd H wk (.ins C dx (putF "taken" (.int (t + i.cost)) (wf cd hd sn pc ct t ex)))) := Fx.upd (by simp)
  have k1 : KeepS H (upd H wk (.ins C dx (putF "taken" (.int (t + i.cost)) (wf cd hd sn pc ct t ex)))) := KeepS.upd hw.ob (fun z => z)
  have h1 : (upd H wk (.ins C dx (putF "taken" (.int (t + i.cost)) (wf cd hd sn pc ct t ex)))) hd = some (.dK (hv a b)) := by rw [upd_ne nwh]; exact hw.hl
  generalize upd H wk (.ins C dx (putF "taken" (.int (t + i.cost)) (wf cd hd sn pc ct t ex))) = H1 at e1 f1 k1 h1 ⊢
  have hd1 := dp_keepS k1 _ _ hdv
  refine ⟨_, rfl, wk, dx, _, rfl, e1, hn.2.2.1, _, rfl, wk, dx, cd, hd, sn, pc, a, b, ct, t + i.cost, ex, v, i, k, rfl, ⟨e1, h1⟩, hn, hd1, hi, ?_⟩
  refine ⟨_, rfl, wk, C, dx, _, rfl, e1, W.cl, W.nAt, lx, ?_⟩
  have e2 : (upd H1 wk (.ins C dx (putF "at" (.int (i.next pc a b : Nat)) (wf cd hd sn pc ct (t + i.cost) ex)))) wk = some (.ins C dx (wf cd hd sn (i.next pc a b) ct (t + i.cost) ex)) := upd_same
  have f2 : Fx [wk, hd] H (upd H1 wk (.ins C dx (putF "at" (.int (i.next pc a b : Nat)) (wf cd hd sn pc ct (t + i.cost) ex)))) := f1.trans (Fx.upd (by simp))
  have k2 : KeepS H1 (upd H1 wk (.ins C dx (putF "at" (.int (i.next pc a b : Nat)) (wf cd hd sn pc ct (t + i.cost) ex)))) := KeepS.upd e1 (fun z => z)
  have h2 : (upd H1 wk (.ins C dx (putF "at" (.int (i.next pc a b : Nat)) (wf cd hd sn pc ct (t + i.cost) ex)))) hd = some (.dK (hv a b)) := by rw [upd_ne nwh]; exact h1
  generalize upd H1 wk (.ins C dx (putF "at" (.int (i.next pc a b : Nat)) (wf cd hd sn pc ct (t + i.cost) ex))) = H2 at e2 f2 k2 h2 ⊢
  have hd2 := dp_keepS k2 _ _ hd1
  obtain ⟨p, xr, rfl, hs, ha⟩ := ins_inv hd2
  refine ⟨_, rfl, p, _, _, _, rfl, rfl, hs, atI_nat (j := 0) rfl, ?_⟩
  refine ⟨_, rfl, rfl, _, rfl, ?_⟩
  have put : ∀ (H3 : Hp) (z : Str) (n : Int), okV z → Fx [wk, hd] H H3 → H3 wk = some (.ins C dx (wf cd hd sn (i.next pc a b) ct (t + i.cost) ex)) → H3 hd = some (.dK (hv a b)) → vput z n (a, b) = i.held a b → i.grown a b = 0 → Q .non (upd H3 hd (.dK (putK (hv a b) (Sum.inr z : Key) (V.int n)))) := by
    intro H3 z n hz f3 e3 h3 eh eg
    refine q _ (f3.trans (Fx.upd (by simp))) ⟨?_, ?_⟩
    · rw [upd_ne nwh.symm, eg, Int.add_zero]
      exact e3
    · rw [upd_same, hv_put hz, eh]
  have keepq : i.held a b = (a, b) → i.grown a b = 0 → Q .non H2 := fun eh eg => q _ f2 ⟨by rw [eg, Int.add_zero]; exact e2, by rw [eh]; exact h2⟩
  cases i with
  | set z n =>
    obtain ⟨x, y, rfl, hx, hy⟩ := dp_pair ha
    cases hx
    cases hy
    refine strT ⟨_, rfl, p, _, _, _, rfl, rfl, hs, atI_nat (j := 2) rfl, _, rfl, wk, C, dx, _, _, rfl, e2, W.cl, W.nHeld, rfl, _, rfl, p, _, _, _, rfl, rfl, hs, atI_nat (j := 1) rfl, hd, _, rfl, DPut.k (k := Sum.inr z) h2 (by show 2 < sizeLine; decide), ?_⟩
    exact put H2 z n hi.1 f2 e2 h2 rfl rfl
  | add z d =>
    obtain ⟨x, y, rfl, hx, hy⟩ := dp_pair ha
    cases hx
    refine strF (by simp only [Ins.word]; decide +kernel) ⟨_, rfl, rfl, _, rfl, strT ?_⟩
    refine ⟨_, rfl, _, rfl, p, _, rfl, hs, not_whole1 _ _, fun r nr => ?_⟩
    rw [cut1]
    have s3 : Same H2 (upd H2 r (.tup [.str z, y])) := same_new nr _
    have er : (upd H2 r (.tup [.str z, y])) r = some (.tup [.str z, y]) := upd_same
    generalize upd H2 r (.tup [.str z, y]) = H3 at s3 er ⊢
    have e3 := s3 _ _ e2
    have h3 := s3 _ _ h2
    refine ⟨r, _, rfl, SqT.of er, rfl, _, _, rfl, _, _, rfl, rfl, ?_⟩
    have hget : DGet H3 hd (.str z) (some (.int (vget a b z))) := by rw [← hv_get hi.1 a b]; exact DGet.k (k := Sum.inr z) h3
    refine ⟨_, rfl, wk, C, dx, _, _, rfl, e3, W.cl, W.nHeld, rfl, _, rfl, hd, _, rfl, hget, _, rfl, wk, dx, _, rfl, e3, hn.1, _, rfl, ?_⟩
    refine ⟨wk, dx, cd, hd, sn, _, a, b, ct, _, ex, y, d, rfl, ⟨e3, h3⟩, dp_mono s3 _ _ hy, hi.2, _, _, rfl, rfl, _, _, rfl, rfl, _, _, rfl, rfl, (by show (0 : Int) < 15 + 1; decide), ?_⟩
    refine ⟨_, rfl, wk, C, dx, _, _, rfl, e3, W.cl, W.nHeld, rfl, _, rfl, hd, _, rfl, DPut.k (k := Sum.inr z) h3 (by show 2 < sizeLine; decide), ?_⟩
    exact put H3 z _ hi.1 (f2.trans (Fx.of s3)) e3 h3 rfl rfl
  | grow d =>
    obtain ⟨x, rfl, hx⟩ := dp_solo ha
    refine strF (by simp only [Ins.word]; decide +kernel) ⟨_, rfl, rfl, _, rfl, strF (by simp only [Ins.word]; decide +kernel) ⟨_, rfl, rfl, _, rfl, strT ?_⟩⟩
    refine ⟨_, rfl, wk, C, dx, _, _, rfl, e2, W.cl, W.nCnt, rfl, _, rfl, wk, dx, _, rfl, e2, hn.1, _, rfl, p, _, _, _, rfl, rfl, hs, atI_nat (j := 1) rfl, ?_⟩
    refine ⟨wk, dx, cd, hd, sn, _, a, b, ct, _, ex, x, d, rfl, ⟨e2, h2⟩, hx, hi.2, _, _, rfl, rfl, dx, _, e2, lx, ?_⟩
    refine q _ (f2.trans (Fx.upd (by simp))) ⟨upd_same, ?_⟩
    rw [upd_ne nwh]
    exact h2
  | wait n => exact strF (by simp only [Ins.word]; decide +kernel) ⟨_, rfl, rfl, _, rfl, strF (by simp only [Ins.word]; decide +kernel) ⟨_, rfl, rfl, _, rfl, strF (by simp only [Ins.word]; decide +kernel) (keepq rfl rfl)⟩⟩
  | ask g t v => exact strF (by simp only [Ins.word]; decide +kernel) ⟨_, rfl, rfl, _, rfl, strF (by simp only [Ins.word]; decide +kernel) ⟨_, rfl, rfl, _, rfl, strF (by simp only [Ins.word]; decide +kernel) (keepq rfl rfl)⟩⟩
  | ans n => exact strF (by simp only [Ins.word]; decide +kernel) ⟨_, rfl, rfl, _, rfl, strF (by simp only [Ins.word]; decide +kernel) ⟨_, rfl, rfl, _, rfl, strF (by simp only [Ins.word]; decide +kernel) (keepq rfl rfl)⟩⟩
  | lst n => exact strF (by simp only [Ins.word]; decide +kernel) ⟨_, rfl, rfl, _, rfl, strF (by simp only [Ins.word]; decide +kernel) ⟨_, rfl, rfl, _, rfl, strF (by simp only [Ins.word]; decide +kernel) (keepq rfl rfl)⟩⟩
  | test n u => exact strF (by simp only [Ins.word]; decide +kernel) ⟨_, rfl, rfl, _, rfl, strF (by simp only [Ins.word]; decide +kernel) ⟨_, rfl, rfl, _, rfl, strF (by simp only [Ins.word]; decide +kernel) (keepq rfl rfl)⟩⟩
  | jump n => exact strF (by simp only [Ins.word]; decide +kernel) ⟨_, rfl, rfl, _, rfl, strF (by simp only [Ins.word]; decide +kernel) ⟨_, rfl, rfl, _, rfl, strF (by simp only [Ins.word]; decide +kernel) (keepq rfl rfl)⟩⟩
end
abbrev sWI : Stmt := inClass (top 38) 0
/-! ### C.m(e, ..), C a class of the program, m a def of it -/
def tCFun (C : Addr) (sp : Sp) (dvs : List V) (E : XK) (ta : TE) (t : TA) : TE := fun σ H Q => ta σ H fun x H1 => x = .ref C ∧ t σ H1 fun vs H2 => sp (vs ++ dvs) H2 Q E
section
variable {X : Cx} {CX : CXT} {k : Nat} {C f : Addr} {fd : FuncData} {ps : List Str} {ds : List Value} {dvs : List V} {mc : Value} {sp : Sp} {E : XK} {o e : Expr} {es : List Expr} {m : Str} {pos apos : Pos} {ta : TE} {t : TA} {pl : Sem Bool}
theorem pe_cfun (he : PE X o ta) (r : ClX.CRead X.K C mc) (c : PySem.W.findCls X.K (.ref C) mc m = some (.val (.ref f))) (hk : PySem.W.keepIn X.K (.ref f) = true) (F : FnOk X.prog X.w X.K X.mg X.base CX k f fd ps sp) (hr : Room k X.A) (hb : Binds X.K fd ps ds) (hd : Vals dvs ds) (hx : Passes CX X E) (ha : PA X (e :: es) t)
    (hst : starEach (e :: es) X.env = (false, eval e X.env) :: starEach es X.env := by rfl) (hpl : (backTo pos (starEach es X.env)).any (·.1) = false := by rfl)
    (ht : eval (.Call (.Attribute o m apos) (e :: es) [] pos) X.env = (do
      let ov ← eval o X.env
      standAt apos.atName
      let (f, first) ← holding [ov] (getMethod ov m pl)
      callWith pos f first (backTo pos (starEach (e :: es) X.env)) (backToKw pos (keywordEach [] X.env))) := by rfl) :
    PE X (.Call (.Attribute o m apos) (e :: es) [] pos) (tCFun C sp dvs E ta t) := by
  refine ⟨fun pins s σ H Q I h => ?_⟩
  refine PySem.W.methodCall_KW (pl := pl) (thn (he.run pins s σ H _ I h) fun u s1 ⟨x, H1, I1, rx, ex, q⟩ => ?_) ht
  subst ex
  obtain rfl : u = Value.ref C := rx
  refine PySem.W.method_cls I1.kIn r.ga (ClX.getcval_ok (v := .ref f) I1 r ⟨c, rfl⟩ fun s2 I2 => ?_)
  refine PySem.W.callWith_K (h₀ := X.base) I2.ok.mod.kin hk (thn (ha.run pos pins s2 σ H1 _ I2 q) fun us s3 ⟨vs, H2, I3, r3, q3⟩ => ⟨I3.kIn, ?_⟩) hst hpl
  exact run_fn F hr hb hd hx I3 r3 q3
end
/-- {.. for x in a list} -/
theorem dc_list {K : PySem.W.Frag} {a : Addr} {xs : List V} {g : TG} {tt : TT} {tk tv : TE} {vs : List Nat} {σ : L2.St} {H1 : Hp} {D : Addr} {Qd : Hp → Prop} (Pv : Nat → Hp → Prop) (h0 : Pv 0 (upd H1 D (.dK []))) (hl : ∀ i H, i ≤ xs.length → Pv i H → SqL K H a xs)
    (hs : ∀ i x H, xs[i]? = some x → Pv i H → g x (wipe σ vs) H fun σ2 H2 => wipe σ2 vs = wipe σ vs ∧ tt σ2 H2 fun b H3 =>
      if b = true then tk σ2 H3 fun y H4 => tv σ2 H4 fun z H5 => ∃ kvs k, y = kV k ∧ H5 D = some (.dK kvs) ∧ kvs.length < sizeLine ∧ Pv (i + 1) (upd H5 D (.dK (putK kvs k z))) else Pv (i + 1) H3) (hd : ∀ H, Pv xs.length H → Qd H) :
    ∃ W : Nat → Nat → Hp → Prop, (∃ m, W 0 m (upd H1 D (.dK []))) ∧ ∀ i m H, W i m H →
      ((Itl K a).stop i H ∧ Qd H) ∨ ((Itl K a).go i H ∧ ∃ Nx : Hp → Prop, (∀ H', Nx H' → ∃ m', m' < m ∧ W (i + 1) m' H') ∧ ∀ x H', (Itl K a).yld i H x H' → g x (wipe σ vs) H' fun σ2 H2 => wipe σ2 vs = wipe σ vs ∧ tt σ2 H2 fun b H3 =>
        if b = true then tk σ2 H3 fun y H4 => tv σ2 H4 fun z H5 => ∃ kvs k, y = kV k ∧ H5 D = some (.dK kvs) ∧ kvs.length < sizeLine ∧ Nx (upd H5 D (.dK (putK kvs k z))) else Nx H3) := by
  refine ⟨fun i m H => m = xs.length - i ∧ i ≤ xs.length ∧ Pv i H, ⟨xs.length, by simp, Nat.zero_le _, h0⟩, ?_⟩
  rintro i m H ⟨rfl, hi, p⟩
  have q := hl i H hi p
  by_cases hlt : i < xs.length
  · refine .inr ⟨⟨xs, xs[i], q, by simp [hlt]⟩, Pv (i + 1), fun H' p' => ⟨xs.length - (i + 1), by omega, rfl, hlt, p'⟩, fun x H' y => ?_⟩
    obtain ⟨e, y⟩ := y
    subst e
    exact hs i x _ (y xs q) p
  · have e : i = xs.length := by omega
    subst e
    exact .inl ⟨⟨xs, q, Nat.le_refl _⟩, hd H p⟩
/-- what the top has written of the tellers' walks -/
structure TC (K : PySem.W.Frag) (C : Addr) : Prop where
  wc : WC K C
  nPos : NoAttr K C "position"
  nPre : NoAttr K C "present"
  nQue : NoAttr K C "questions"
def exT (x : Int) (pr qs : Addr) : List (Str × V) := [("position", .int x), ("present", .ref pr), ("questions", .ref qs)]
theorem noM_T (x : Int) (pr qs : Addr) : noM (exT x pr qs) := ⟨rfl, rfl, rfl, rfl, rfl, rfl, by show 3 ≤ 10; decide⟩
/-- the asked positions as a dict -/
def qD (ps : List Int) : List (Key × V) := ps.map fun p => (Sum.inl p, .bl true)
def putQ (p : Int) (ps : List Int) : List Int := if p ∈ ps then ps else ps ++ [p]
theorem qD_val (p : Int) : ∀ ps : List Int, (valV (qD ps) (Sum.inl p : Key)).isSome = decide (p ∈ ps)
  | [] => rfl
  | x :: r => by
    have ih := qD_val p r
    show (valV ((Sum.inl x, V.bl true) :: qD r) (Sum.inl p : Key)).isSome = _
    by_cases e : x = p
    · subst e
      rw [valV_pos rfl]
      simp
    · rw [valV_neg (p := ((Sum.inl x : Key), V.bl true)) (by intro z; injection z with z; exact e z), ih]
      have e' : ¬ p = x := fun z => e z.symm
      simp [e']
theorem qD_put (p : Int) (ps : List Int) : putK (qD ps) (Sum.inl p : Key) (.bl true) = qD (putQ p ps) := by
  have h := qD_val p ps
  unfold putQ
  by_cases e : p ∈ ps
  · rw [if_pos e]
    rw [decide_eq_true e] at h
    unfold putK
    rw [valV_any, h, if_pos rfl]
    unfold qD
    rw [List.map_map]
    refine List.map_congr_left fun x _ => ?_
    show (if (Sum.inl x : Key) = Sum.inl p then ((Sum.inl x : Key), V.bl true) else (Sum.inl x, V.bl true)) = (Sum.inl x, V.bl true)
    split <;> rfl
  · rw [if_neg e]
    rw [decide_eq_false e] at h
    have hn : valV (qD ps) (Sum.inl p : Key) = none := by
      cases hv : valV (qD ps) (Sum.inl p : Key) with
      | none => rfl
      | some v => rw [hv] at h; cases h
    rw [putK_new _ hn]
    unfold qD
    rw [List.map_append]
    rfl
/-- a teller's walk stands at wk: its present members are those that mem tells, it has asked about ps -/
structure TkA (K : PySem.W.Frag) (H : Hp) (C wk dx cd hd sn pr qs : Addr) (pc : Nat) (a b t x : Int) (mem : Int → Bool) (ps : List Int) : Prop where
  wa : WkA K H C wk dx cd hd sn pc a b 0 t (exT x pr qs)
  pre : ∃ kvs, H pr = some (.dK kvs) ∧ ∀ z : Int, (valV kvs (Sum.inl z : Key)).isSome = mem z
  que : H qs = some (.dK (qD ps))
  apart : pr ≠ qs ∧ hd ≠ pr
def spWI (K : PySem.W.Frag) (C : Addr) : Sp := fun vs H Q _ => ∃ (wk dx cd : Addr), vs = [.ref wk, .ref cd] ∧ H wk = some (.ins C dx []) ∧
  ∀ H' hd sn, Fx [wk] H H' → H hd = none → H sn = none → hd ≠ sn → WkA K H' C wk dx cd hd sn 0 0 0 0 0 [] → H' sn = some (.dT []) → Q .non H'
def spTI (K : PySem.W.Frag) (C : Addr) : Sp := fun vs H Q _ => ∃ (wk dx cd m : Addr) (x : Int) (ns : List Int), vs = [.ref wk, .ref cd, .int x, .ref m] ∧ H wk = some (.ins C dx []) ∧ SqL K H m (ns.map V.int) ∧ ns.length ≤ 10000 ∧
  ∀ H' hd sn pr qs, Fx [wk] H H' → H hd = none → H sn = none → H pr = none → H qs = none → TkA K H' C wk dx cd hd sn pr qs 0 0 0 0 x (fun z => decide (z ∈ ns)) [] → H' sn = some (.dT []) → Q .non H'
def spPl (K : PySem.W.Frag) (C : Addr) : Sp := fun vs H Q _ => ∃ (wk dx cd hd sn pr qs : Addr) (pc : Nat) (a b t x : Int) (g : Str) (v : V) (d : PyData), vs = [.ref wk, .str g, v] ∧ WkA K H C wk dx cd hd sn pc a b 0 t (exT x pr qs) ∧ Dp K H v d ∧ isTerm d = true ∧ (g = "+" ∨ g = "-" ∨ g = "=") ∧ Q (.int (place x a b g d)) H
def spAsk (K : PySem.W.Frag) (C : Addr) : Sp := fun vs H Q _ => ∃ (wk dx cd hd sn pr qs : Addr) (pc : Nat) (a b t x : Int) (mem : Int → Bool) (ps : List Int) (v : V) (g z : Str) (d : PyData), vs = [.ref wk, v] ∧ TkA K H C wk dx cd hd sn pr qs pc a b t x mem ps ∧ Dp K H v (Ins.ask g d z).toD ∧ (Ins.ask g d z).ok "teller" ∧ ps.length ≤ 100000 ∧
  ∀ H', Fx [hd, qs] H H' → TkA K H' C wk dx cd hd sn pr qs pc (vput z (if 0 ≤ place x a b g d ∧ mem (place x a b g d) = true then 1 else 0) (a, b)).1 (vput z (if 0 ≤ place x a b g d ∧ mem (place x a b g d) = true then 1 else 0) (a, b)).2 t x mem (if 0 ≤ place x a b g d then putQ (place x a b g d) ps else ps) → Q .non H'
def isort (ps : List Int) : List Int := ps.mergeSort (fun x y => decide (x ≤ y))
theorem isort_perm (ps : List Int) : (isort ps).Perm ps := List.mergeSort_perm _ _
theorem isort_sorted (ps : List Int) : (isort ps).Pairwise (· ≤ ·) := by
  have h := List.pairwise_mergeSort (le := fun (x y : Int) => decide (x ≤ y)) (fun a b c h1 h2 => decide_eq_true (Int.le_trans (of_decide_eq_true h1) (of_decide_eq_true h2))) (fun a b => by
    rcases Int.le_total a b with h | h
    · rw [decide_eq_true h]; rfl
    · rw [decide_eq_true h, Bool.or_true]) ps
  exact h.imp fun h => of_decide_eq_true h
theorem isort_unique {ps ns : List Int} (hp : ns.Perm ps) (hs : ns.Pairwise (· ≤ ·)) : ns = isort ps :=
  List.Perm.eq_of_pairwise (le := (· ≤ ·)) (fun a b _ _ h1 h2 => Int.le_antisymm h1 h2) hs (isort_sorted ps) (hp.trans (isort_perm ps).symm)
def spAP (K : PySem.W.Frag) (C : Addr) : Sp := fun vs H Q _ => ∃ (wk dx cd hd sn pr qs : Addr) (pc : Nat) (a b t x : Int) (mem : Int → Bool) (ps : List Int), vs = [.ref wk] ∧ TkA K H C wk dx cd hd sn pr qs pc a b t x mem ps ∧
  ∀ H' p, Same H H' → H p = none → H' p = some (.lst ((isort ps).map V.int)) → Q (.ref p) H'
section
variable {P : Program} {w : World} {K : PySem.W.Frag} {mg : Str → Option Value} {base : Heap}
theorem scWI : FnScope ["self", "code"] ["self", "code"] (defScope sWI) := ⟨rfl, rfl, rfl, by decide +kernel, rfl, by decide +kernel, by decide +kernel⟩
theorem ok_WI {f C : Addr} {fd : FuncData} (F : Fun K "__init__" "Walk.__init__" sWI f fd) (W : WC K C) : FnOk P w K mg base CX0 1 f fd ["self", "code"] (spWI K C) := by
  refine F.ok scWI (fun vs H Q E h => ?_) (fun cdv A outer s H vs Q E hr h => ?_)
  · obtain ⟨wk, dx, cd, rfl, _⟩ := h
    rfl
  obtain ⟨wk, dx, cd, rfl, hw, q⟩ := h
  refine ⟨_, pss_cons (ps_fld (pv 0) (pv 1) rfl) (pss_cons (ps_fld (pv 0) pe_int rfl) (pss_cons (ps_fld (pv 0) (pe_disp (pps_cons pe_str pe_int (pps_cons pe_str pe_int pps_nil)) rfl rfl (by simp) (by decide)) rfl)
    (pss_cons (ps_fld (pv 0) pe_int rfl) (pss_cons (ps_fld (pv 0) pe_int rfl) (pss_one (ps_fld (pv 0) pe_dnewT rfl)))))), ?_⟩
  refine ⟨_, rfl, _, rfl, wk, C, dx, _, rfl, hw, W.cl, W.nCode, (by show 0 < 1000; decide), ?_⟩
  refine ⟨_, rfl, wk, C, dx, _, rfl, upd_same, W.cl, W.nAt, (by show 1 < 1000; decide), ?_⟩
  intro hd nhd
  have fA : Fx [wk] H (upd (upd H wk (.ins C dx (putF "code" (.ref cd) []))) wk (.ins C dx (putF "at" (.int 0) (putF "code" (.ref cd) [])))) := (Fx.upd (by simp)).trans (Fx.upd (by simp))
  have eA : (upd (upd H wk (.ins C dx (putF "code" (.ref cd) []))) wk (.ins C dx (putF "at" (.int 0) (putF "code" (.ref cd) [])))) wk = some (.ins C dx [("code", .ref cd), ("at", .int 0)]) := upd_same
  have nA : ∀ p, p ≠ wk → (upd (upd H wk (.ins C dx (putF "code" (.ref cd) []))) wk (.ins C dx (putF "at" (.int 0) (putF "code" (.ref cd) [])))) p = none → H p = none := fun p n e => by rw [upd_ne n, upd_ne n] at e; exact e
  generalize upd (upd H wk (.ins C dx (putF "code" (.ref cd) []))) wk (.ins C dx (putF "at" (.int 0) (putF "code" (.ref cd) []))) = HA at fA eA nA nhd ⊢
  have nwh : wk ≠ hd := ne_of_none eA nhd
  refine ⟨upd_same, [(Sum.inr "a", .int 0), (Sum.inr "b", .int 0)], rfl, by decide, ?_⟩
  have fB : Fx [wk] HA (upd (upd HA hd (.dK [])) hd (.dK (mergeK [] [(Sum.inr "a", .int 0), (Sum.inr "b", .int 0)]))) := fun p o n e => by
    rw [upd_ne (ne_of_none e nhd), upd_ne (ne_of_none e nhd)]
    exact e
  have eB : (upd (upd HA hd (.dK [])) hd (.dK (mergeK [] [(Sum.inr "a", .int 0), (Sum.inr "b", .int 0)]))) wk = some (.ins C dx [("code", .ref cd), ("at", .int 0)]) := by rw [upd_ne nwh, upd_ne nwh]; exact eA
  have hB : (upd (upd HA hd (.dK [])) hd (.dK (mergeK [] [(Sum.inr "a", .int 0), (Sum.inr "b", .int 0)]))) hd = some (.dK (hv 0 0)) := upd_same
  generalize upd (upd HA hd (.dK [])) hd (.dK (mergeK [] [(Sum.inr "a", .int 0), (Sum.inr "b", .int 0)])) = HB at fB eB hB ⊢
  refine ⟨_, rfl, wk, C, dx, _, rfl, eB, W.cl, W.nHeld, (by show 2 < 1000; decide), ?_⟩
  refine ⟨_, rfl, wk, C, dx, _, rfl, upd_same, W.cl, W.nCnt, (by show 3 < 1000; decide), ?_⟩
  refine ⟨_, rfl, wk, C, dx, _, rfl, upd_same, W.cl, W.nTak, (by show 4 < 1000; decide), ?_⟩
  intro sn nsn
  rw [upd_ne] at nsn
  · rw [upd_ne, upd_ne] at nsn
    · have nws : wk ≠ sn := ne_of_none eB nsn
      have nhs : hd ≠ sn := ne_of_none hB nsn
      refine ⟨_, rfl, wk, C, dx, _, rfl, (by rw [upd_ne nws]; exact upd_same), W.cl, W.nSeen, (by show 5 < 1000; decide), ?_⟩
      have nsnA : HA sn = none := by
        cases z : HA sn with
        | none => rfl
        | some o =>
          have := fB sn o (by simp; exact fun e => nws e.symm) z
          rw [nsn] at this
          cases this
      refine q _ hd sn ?_ (nA hd (fun e => nwh e.symm) nhd) (nA sn (fun e => nws e.symm) nsnA) nhs ⟨upd_same, ?_⟩ ?_
      · intro p o n e
        have n' : p ≠ wk := fun z => n (by simp [z])
        have e1 := fB p o n (fA p o n e)
        rw [upd_ne n', upd_ne (ne_of_none e1 nsn), upd_ne n', upd_ne n', upd_ne n']
        exact e1
      · rw [upd_ne nwh.symm, upd_ne nhs, upd_ne nwh.symm, upd_ne nwh.symm, upd_ne nwh.symm]
        exact hB
      · rw [upd_ne (fun e => nws e.symm), upd_same]
    · intro z
      rw [z, upd_same] at nsn
      cases nsn
    · intro z
      rw [z, upd_same] at nsn
      cases nsn
  · intro z
    rw [z, upd_same] at nsn
    cases nsn
end
section
variable {P : Program} {w : World} {K : PySem.W.Frag} {mg : Str → Option Value} {base : Heap}
end
structure S3 where
  pc : Nat
  a : Int
  b : Int
deriving DecidableEq
/-- what comes of a run -/
inductive Res where
  | ans (v t : Int) (ps : List Int)
  | ended (t : Int) (ps : List Int)
  | silent (f s : Int) (ps : List Int)
  | run (ps : List Int)
def lookS (s : S3) (seen : List (S3 × Int)) : Option Int := (seen.find? fun e => decide (e.1 = s)).map (·.2)
def over (lim : Option Int) (t : Int) : Bool := match lim with
  | none => false
  | some L => decide (L < t)
def askQ (x : Int) (s : S3) (i : Ins) (ps : List Int) : List Int := match i with
  | .ask g d _ => if 0 ≤ place x s.a s.b g d then putQ (place x s.a s.b g d) ps else ps
  | _ => ps
def heldS (x : Int) (mem : Int → Bool) (s : S3) (i : Ins) : Int × Int := match i with
  | .ask g d z => vput z (if 0 ≤ place x s.a s.b g d ∧ mem (place x s.a s.b g d) = true then 1 else 0) (s.a, s.b)
  | i => i.held s.a s.b
def nextS (x : Int) (mem : Int → Bool) (s : S3) (i : Ins) : S3 := ⟨i.next s.pc s.a s.b, (heldS x mem s i).1, (heldS x mem s i).2⟩
def ansOf : Ins → Option Int
  | .ans v => some v
  | _ => none
def repS (lim : Option Int) (f t : Int) (ps : List Int) : Res := match lim with
  | none => .silent f t ps
  | some _ => .run ps
def loopF (code : List Ins) (x : Int) (mem : Int → Bool) (lim : Option Int) : Nat → S3 → Int → List (S3 × Int) → List Int → Res
  | 0, _, _, _, ps => .run ps
  | n + 1, s, t, seen, ps => match lookS s seen with
    | some f => repS lim f t ps
    | none => match code[s.pc]? with
      | none => .ended t ps
      | some i => if over lim (t + i.cost) = true then .run ps else match ansOf i with
        | some v => .ans v (t + i.cost) ps
        | none => loopF code x mem lim n (nextS x mem s i) (t + i.cost) (seen ++ [(s, t)]) (askQ x s i ps)
def fuel (code : List Ins) : Nat := code.length * 256 + 1
def runF (code : List Ins) (x : Int) (mem : Int → Bool) (lim : Option Int) : Res := loopF code x mem lim (fuel code) ⟨0, 0, 0⟩ 0 [] []
/-! ### at most so many states -/
def enc (s : S3) : Nat := (s.pc * 16 + s.a.toNat) * 16 + s.b.toNat
def okS3 (code : List Ins) (s : S3) : Prop := s.pc < code.length ∧ in16 s.a s.b
theorem enc_lt {code : List Ins} {s : S3} (h : okS3 code s) : enc s < code.length * 256 := by
  obtain ⟨h1, ⟨h2, h3⟩, h4, h5⟩ := h
  unfold enc
  omega
theorem enc_inj {code : List Ins} {s s' : S3} (h : okS3 code s) (h' : okS3 code s') (e : enc s = enc s') : s = s' := by
  obtain ⟨pc, a, b⟩ := s
  obtain ⟨pc', a', b'⟩ := s'
  obtain ⟨h1, ⟨h2, h3⟩, h4, h5⟩ := h
  obtain ⟨h1', ⟨h2', h3'⟩, h4', h5'⟩ := h'
  unfold enc at e
  simp only at h1 h2 h3 h4 h5 h1' h2' h3' h4' h5' e
  have e1 : pc = pc' := by omega
  have e2 : a = a' := by omega
  have e3 : b = b' := by omega
  rw [e1, e2, e3]
theorem few_states {code : List Ins} {ss : List S3} (hn : ss.Nodup) (h : ∀ s ∈ ss, okS3 code s) : ss.length ≤ code.length * 256 := by
  have h1 : (ss.map enc).Nodup := by
    induction ss with
    | nil => exact List.nodup_nil
    | cons s r ih =>
      rw [List.nodup_cons] at hn
      rw [List.map_cons, List.nodup_cons]
      refine ⟨fun m => ?_, ih hn.2 fun x m => h x (List.mem_cons_of_mem _ m)⟩
      obtain ⟨s', ms, e⟩ := List.mem_map.mp m
      have := enc_inj (h s' (List.mem_cons_of_mem _ ms)) (h s (by simp)) e
      exact hn.1 (this ▸ ms)
  have h2 : ss.map enc ⊆ List.range (code.length * 256) := by
    intro n m
    obtain ⟨s, ms, rfl⟩ := List.mem_map.mp m
    exact List.mem_range.mpr (enc_lt (h s ms))
  have := List.Nodup.length_le_of_subset h1 h2
  rwa [List.length_map, List.length_range] at this
theorem lookS_none {s : S3} {seen : List (S3 × Int)} (h : lookS s seen = none) : s ∉ seen.map (·.1) := by
  intro m
  obtain ⟨e, me, es⟩ := List.mem_map.mp m
  unfold lookS at h
  rw [Option.map_eq_none_iff, List.find?_eq_none] at h
  have := h e me
  simp [es] at this
/-! ### the dict of states -/
def keyOf (s : S3) : List Key := keyS s.pc s.a s.b
theorem keyOf_inj {s s' : S3} (h : keyOf s = keyOf s') : s = s' := by
  obtain ⟨pc, a, b⟩ := s
  obtain ⟨pc', a', b'⟩ := s'
  unfold keyOf keyS at h
  injection h with h1 h
  injection h with h2 h
  injection h with h3 h
  injection h1 with h1
  injection h2 with h2
  injection h3 with h3
  simp only at h1 h2 h3
  have e1 : pc = pc' := by omega
  rw [e1, h2, h3]
inductive SeenR (H : Hp) : List (List Key × V) → List (S3 × Int) → Prop
  | nil : SeenR H [] []
  | cons {s : S3} {t : Int} {r : Addr} {kvs : List (List Key × V)} {seen : List (S3 × Int)} : H r = some (.tup [.int t, .int 0]) → SeenR H kvs seen → SeenR H ((keyOf s, .ref r) :: kvs) ((s, t) :: seen)
theorem SeenR.len {H : Hp} : ∀ {kvs : List (List Key × V)} {seen : List (S3 × Int)}, SeenR H kvs seen → kvs.length = seen.length
  | _, _, .nil => rfl
  | _, _, .cons _ h => by rw [List.length_cons, List.length_cons, h.len]
theorem SeenR.refs {H : Hp} : ∀ {kvs : List (List Key × V)} {seen : List (S3 × Int)}, SeenR H kvs seen → ∀ p ∈ kvs, ∃ r, p.2 = .ref r
  | _, _, .nil => fun p m => nomatch m
  | _, _, .cons _ h => fun p m => by
    rcases List.mem_cons.mp m with rfl | m
    · exact ⟨_, rfl⟩
    · exact h.refs p m
theorem SeenR.keep {H H' : Hp} (k : KeepS H H') : ∀ {kvs : List (List Key × V)} {seen : List (S3 × Int)}, SeenR H kvs seen → SeenR H' kvs seen
  | _, _, .nil => .nil
  | _, _, .cons e h => .cons (k _ _ trivial e) (h.keep k)
theorem SeenR.snoc {H : Hp} {s : S3} {t : Int} {r : Addr} (e : H r = some (.tup [.int t, .int 0])) : ∀ {kvs : List (List Key × V)} {seen : List (S3 × Int)}, SeenR H kvs seen → SeenR H (kvs ++ [(keyOf s, .ref r)]) (seen ++ [(s, t)])
  | _, _, .nil => .cons e .nil
  | _, _, .cons e' h => .cons e' (h.snoc e)
theorem SeenR.look {H : Hp} (s : S3) : ∀ {kvs : List (List Key × V)} {seen : List (S3 × Int)}, SeenR H kvs seen →
    (valV kvs (keyOf s) = none ∧ lookS s seen = none) ∨ ∃ r t, valV kvs (keyOf s) = some (.ref r) ∧ lookS s seen = some t ∧ H r = some (.tup [.int t, .int 0])
  | _, _, .nil => .inl ⟨rfl, rfl⟩
  | _, _, .cons (s := s0) (t := t0) (r := r0) (kvs := kvs) (seen := seen) e h => by
    by_cases c : s0 = s
    · subst c
      refine .inr ⟨r0, t0, valV_pos rfl, ?_, e⟩
      simp [lookS]
    · have e1 : lookS s ((s0, t0) :: seen) = lookS s seen := by simp [lookS, List.find?_cons, c]
      have e2 : valV ((keyOf s0, V.ref r0) :: kvs) (keyOf s) = valV kvs (keyOf s) := valV_neg (fun z => c (keyOf_inj z))
      rw [e1, e2]
      exact h.look s
/-! ### the object that tells it -/
def resOut : Res → Str
  | .ans _ _ _ => "answered"
  | .ended _ _ => "ended"
  | .silent _ _ _ => "silent"
  | .run _ => "running"
def resAns : Res → V
  | .ans v _ _ => .int v
  | _ => .non
def resLen : Res → V
  | .ans _ t _ => .int t
  | .ended t _ => .int t
  | _ => .non
def resFst : Res → V
  | .silent f _ _ => .int f
  | _ => .non
def resSnd : Res → V
  | .silent _ s _ => .int s
  | _ => .non
def resPs : Res → List Int
  | .ans _ _ ps => isort ps
  | .ended _ ps => isort ps
  | .silent _ _ ps => isort ps
  | .run ps => isort ps
def rf (o : Str) (an l f s : V) (as : Addr) : List (Str × V) := [("outcome", .str o), ("answer", an), ("length", l), ("first", f), ("second", s), ("asked", .ref as)]
def RunV (H : Hp) (C r dx as : Addr) (o : Str) (an l f s : V) (ns : List Int) : Prop := H r = some (.ins C dx (rf o an l f s as)) ∧ H as = some (.lst (ns.map V.int))
def RunA (H : Hp) (C r : Addr) (R : Res) : Prop := ∃ dx as, RunV H C r dx as (resOut R) (resAns R) (resLen R) (resFst R) (resSnd R) (resPs R)
/-- the same, with a list of its own -/
def RunN (H H' : Hp) (C r : Addr) (R : Res) : Prop := ∃ dx as, H as = none ∧ RunV H' C r dx as (resOut R) (resAns R) (resLen R) (resFst R) (resSnd R) (resPs R)
theorem RunN.back {H0 H H' : Hp} {C r : Addr} {R : Res} (s : Same H0 H) (h : RunN H H' C r R) : RunN H0 H' C r R := by
  obtain ⟨dx, as, n, rv⟩ := h
  exact ⟨dx, as, s.free n, rv⟩
/-! ### the law's own steps -/
abbrev sTO : Stmt := top 56
abbrev sTr : Stmt := top 57
abbrev sNx : Stmt := top 58
def stV (s : S3) : List V := [.int (s.pc : Nat), .int s.a, .int s.b]
def spTO (K : PySem.W.Frag) : Sp := fun vs H Q _ => ∃ (v : V) (st : Addr) (d : PyData) (s : S3), vs = [v, .ref st] ∧ Dp K H v d ∧ isTerm d = true ∧ SqT K H st (stV s) ∧ Q (.int (tval s.a s.b d)) H
def spTr (K : PySem.W.Frag) : Sp := fun vs H Q _ => ∃ (v : V) (st : Addr) (d : PyData) (s : S3), vs = [v, .ref st] ∧ Dp K H v d ∧ isCond d = true ∧ SqT K H st (stV s) ∧ Q (.bl (cval s.a s.b d)) H
def heldN (an : Int) (s : S3) : Ins → Int × Int
  | .ask _ _ z => vput z an (s.a, s.b)
  | i => i.held s.a s.b
def spNx (K : PySem.W.Frag) : Sp := fun vs H Q _ => ∃ (v : V) (st : Addr) (an : Int) (i : Ins) (s : S3) (k : Str), vs = [v, .ref st, .int an] ∧ Dp K H v i.toD ∧ i.ok k ∧ SqT K H st (stV s) ∧
  ∀ H' r, Same H H' → H r = none → H' r = some (.tup [.int ((s.pc + 1 : Nat) : Int), .int (heldN an s i).1, .int (heldN an s i).2]) → Q (.ref r) H'
def spPlc (K : PySem.W.Frag) : Sp := fun vs H Q _ => ∃ (v : V) (st : Addr) (x : Int) (g : Str) (d : PyData) (z : Str) (k : Str) (s : S3), vs = [v, .ref st, .int x] ∧ Dp K H v (Ins.ask g d z).toD ∧ (Ins.ask g d z).ok k ∧ SqT K H st (stV s) ∧
  ∀ H', Same H H' → Q (.int (place x s.a s.b g d)) H'
section
variable {P : Program} {w : World} {K : PySem.W.Frag} {mg : Str → Option Value} {base : Heap}
theorem scTO : FnScope ["_law_term_here", "_law_state"] ["_law_term_here", "_law_state"] (defScope sTO) := ⟨rfl, rfl, rfl, by decide +kernel, rfl, by decide +kernel, by decide +kernel⟩
theorem ok_TO {f : Addr} {fd : FuncData} (F : Fun K "_law_term_of" "_law_term_of" sTO f fd) : FnOk P w K mg base CX0 1 f fd ["_law_term_here", "_law_state"] (spTO K) := by
  refine F.ok scTO (fun vs H Q E h => ?_) (fun cdv A outer s H vs Q E hr h => ?_)
  · obtain ⟨v, st, d, s, rfl, _⟩ := h
    rfl
  obtain ⟨v, st, d, s3, rfl, hd, ht, hs, q⟩ := h
  refine ⟨_, pss_cons (ps_if (pt_cmpR op_eq (pv 0) pe_str (nomark _)) (pss_one (ps_ret (pe_ix ix_tup (pv 1) pe_int (fun _ _ => rfl)))) pss_nil)
    (pss_cons (ps_if (pt_cmpR op_eq (pv 0) pe_str (nomark _)) (pss_one (ps_ret (pe_ix ix_tup (pv 1) pe_int (fun _ _ => rfl)))) pss_nil)
    (pss_one (ps_ret (pv 0)))), ?_⟩
  rcases term_cases ht with ⟨z, rfl, rfl | rfl⟩ | ⟨i, rfl, h0, h1⟩
  · cases hd
    exact ⟨_, rfl, rfl, _, rfl, strT ⟨_, rfl, st, _, _, _, rfl, rfl, hs, atI_nat (j := 1) rfl, q⟩⟩
  · cases hd
    exact ⟨_, rfl, rfl, _, rfl, strF (by decide +kernel) ⟨_, rfl, rfl, _, rfl, strT ⟨_, rfl, st, _, _, _, rfl, rfl, hs, atI_nat (j := 2) rfl, q⟩⟩⟩
  · cases hd
    refine ⟨_, rfl, rfl, _, rfl, ite2 (fun c => absurd (of_decide_eq_true c) (fun z => nomatch z)) (fun _ => ?_)⟩
    refine ⟨_, rfl, rfl, _, rfl, ite2 (fun c => absurd (of_decide_eq_true c) (fun z => nomatch z)) (fun _ => ?_)⟩
    exact ⟨_, rfl, q⟩
theorem scTr : FnScope ["_law_condition_here", "_law_state", "_law_value", "_law_other"] ["_law_condition_here", "_law_state"] (defScope sTr) := ⟨rfl, rfl, rfl, by decide +kernel, rfl, by decide +kernel, by decide +kernel⟩
theorem ok_Tr {f : Addr} {fd : FuncData} (F : Fun K "_law_true" "_law_true" sTr f fd) (CT : Cal P w K mg base 1 "_law_term_of" ["_law_term_here", "_law_state"] (spTO K)) : FnOk P w K mg base CX0 2 f fd ["_law_condition_here", "_law_state"] (spTr K) := by
  refine F.ok scTr (fun vs H Q E h => ?_) (fun cdv A outer s H vs Q E hr h => ?_)
  · obtain ⟨v, st, d, s, rfl, _⟩ := h
    rfl
  obtain ⟨v, st, d, s3, rfl, hd, hc, hs, q⟩ := h
  refine ⟨_, pss_cons (ps_set (i := 2) scTr.nd rfl (.inl rfl) (pe_call CT.G hr rfl CT.m CT.kp CT.b .nil pass0 (pa_cons (pe_ix ix_tup (pv 0) pe_int (fun _ _ => rfl)) (pa_cons (pv 1) pa_nil))))
    (pss_cons (ps_set (i := 3) scTr.nd rfl (.inl rfl) (pe_call CT.G hr rfl CT.m CT.kp CT.b .nil pass0 (pa_cons (pe_ix ix_tup (pv 0) pe_int (fun _ _ => rfl)) (pa_cons (pv 1) pa_nil))))
    (pss_cons (ps_if (pt_cmpR op_eq (pe_ix ix_tup (pv 0) pe_int (fun _ _ => rfl)) pe_str (nomark _)) (pss_one (ps_ret (pe_cmpR op_eq (pv 2) (pv 3) (nomark _)))) pss_nil)
    (pss_cons (ps_if (pt_cmpR op_eq (pe_ix ix_tup (pv 0) pe_int (fun _ _ => rfl)) pe_str (nomark _)) (pss_one (ps_ret (pe_cmpR op_ne (pv 2) (pv 3) (nomark _)))) pss_nil)
    (pss_one (ps_ret (pe_cmpR op_lt (pv 2) (pv 3) (nomark _))))))), ?_⟩
  obtain ⟨v0, g, t0, rfl, hv0, hg, ht⟩ := cond_cases hc
  obtain ⟨p, xs, rfl, hp, ha⟩ := dp_tup_inv hd
  obtain ⟨x, y, z, rfl, hx, hy, hz⟩ := dp_trip ha
  cases hx
  cases hy
  have eC : cval s3.a s3.b (.tuple [.str v0, .str g, t0]) = (if g = "==" then decide (vget s3.a s3.b v0 = tval s3.a s3.b t0) else if g = "!=" then !decide (vget s3.a s3.b v0 = tval s3.a s3.b t0) else decide (vget s3.a s3.b v0 < tval s3.a s3.b t0)) := rfl
  rw [eC] at q
  have hv1 : isTerm (.str v0) = true := by rcases hv0 with rfl | rfl <;> decide +kernel
  refine ⟨_, rfl, p, _, _, _, rfl, rfl, hp, atI_nat (j := 0) rfl, _, rfl, _, st, .str v0, s3, rfl, .str _, hv1, hs, ?_⟩
  refine ⟨_, rfl, p, _, _, _, rfl, rfl, hp, atI_nat (j := 2) rfl, _, rfl, _, st, t0, s3, rfl, hz, ht, hs, ?_⟩
  show (tSeq _ _) _ [_, _, some (.int (vget s3.a s3.b v0)), some (.int (tval s3.a s3.b t0))] _
  generalize vget s3.a s3.b v0 = X at q ⊢
  generalize tval s3.a s3.b t0 = Y at q ⊢
  refine ⟨_, rfl, p, _, _, _, rfl, rfl, hp, atI_nat (j := 1) rfl, rfl, _, rfl, ?_⟩
  have eqq : decide (V.int X = V.int Y) = decide (X = Y) := by
    by_cases c : X = Y
    · rw [decide_eq_true c]; exact decide_eq_true (by rw [c])
    · rw [decide_eq_false c]; exact decide_eq_false (fun z => c (by injection z))
  rcases hg with rfl | rfl | rfl
  · rw [if_pos rfl] at q
    refine strT ⟨_, rfl, _, rfl, rfl, ?_⟩
    rw [eqq]; exact q
  · rw [if_neg (by decide +kernel), if_pos rfl] at q
    refine strF (by decide +kernel) ⟨_, rfl, p, _, _, _, rfl, rfl, hp, atI_nat (j := 1) rfl, rfl, _, rfl, strT ⟨_, rfl, _, rfl, rfl, ?_⟩⟩
    rw [eqq]; exact q
  · rw [if_neg (by decide +kernel), if_neg (by decide +kernel)] at q
    exact strF (by decide +kernel) ⟨_, rfl, p, _, _, _, rfl, rfl, hp, atI_nat (j := 1) rfl, rfl, _, rfl, strF (by decide +kernel) ⟨_, rfl, _, rfl, _, _, rfl, rfl, q⟩⟩
theorem find_ab {z : Str} (h : okV z) : Txt.find ("ab" : Str) z = (if z = "a" then 0 else 1) := by
  rcases h with rfl | rfl <;> decide +kernel
theorem scNx : FnScope ["_law_step", "_law_state", "_law_answer", "_law_found", "_law_at"] ["_law_step", "_law_state", "_law_answer"] (defScope sNx) := ⟨rfl, rfl, rfl, by decide +kernel, rfl, by decide +kernel, by decide +kernel⟩
theorem ok_Nx {f : Addr} {fd : FuncData} (F : Fun K "_law_next" "_law_next" sNx f fd) (T : Gs K mg) (ml : mg "list" = none) (CT : Cal P w K mg base 1 "_law_term_of" ["_law_term_here", "_law_state"] (spTO K)) : FnOk P w K mg base CX0 2 f fd ["_law_step", "_law_state", "_law_answer"] (spNx K) := by
  refine F.ok scNx (fun vs H Q E h => ?_) (fun cdv A outer s H vs Q E hr h => ?_)
  · obtain ⟨v, st, an, i, s, k, rfl, _⟩ := h
    rfl
  obtain ⟨v, st, an, i, s3, k, rfl, hd, hi, hs, q⟩ := h
  refine ⟨_, pss_cons (ps_set (i := 3) scNx.nd rfl (.inl rfl) (pe_callTy call_list_of (by rfl) ml (by decide +kernel) (pa_cons (pv 1) pa_nil)))
    (pss_cons (ps_asg (pe_op op_add (pe_ix ix_list (pv 3) pe_int (fun _ _ => rfl)) pe_int) (pg_sub (pv 3) pe_int set_list))
    (pss_cons (ps_if (pt_cmpR op_eq (pe_ix ix_tup (pv 0) pe_int (fun _ _ => rfl)) pe_str (nomark _))
        (pss_one (ps_asg (pe_ix ix_tup (pv 0) pe_int (fun _ _ => rfl)) (pg_sub (pv 3) (pe_op op_add pe_int (pe_m1 PySem.F.slot_str_find PySem.F.type_str_find mt_find pe_str (pe_ix ix_tup (pv 0) pe_int (fun _ _ => rfl)))) set_list)))
        (pss_one (ps_if (pt_cmpR op_eq (pe_ix ix_tup (pv 0) pe_int (fun _ _ => rfl)) pe_str (nomark _))
          (pss_cons (ps_set (i := 4) scNx.nd rfl (.inl rfl) (pe_op op_add pe_int (pe_m1 PySem.F.slot_str_find PySem.F.type_str_find mt_find pe_str (pe_ix ix_tup (pv 0) pe_int (fun _ _ => rfl)))))
          (pss_one (ps_asg (pe_op op_mod (pe_op op_add (pe_ix ix_list (pv 3) (pv 4) (fun _ _ => rfl)) (pe_call CT.G hr rfl CT.m CT.kp CT.b .nil pass0 (pa_cons (pe_ix ix_tup (pv 0) pe_int (fun _ _ => rfl)) (pa_cons (pv 1) pa_nil)))) pe_int) (pg_sub (pv 3) (pv 4) set_list))))
          (pss_one (ps_if (pt_cmpR op_eq (pe_ix ix_tup (pv 0) pe_int (fun _ _ => rfl)) pe_str (nomark _))
            (pss_one (ps_asg (pv 2) (pg_sub (pv 3) (pe_op op_add pe_int (pe_m1 PySem.F.slot_str_find PySem.F.type_str_find mt_find pe_str (pe_ix ix_tup (pv 0) pe_int (fun _ _ => rfl)))) set_list))) pss_nil)))))
    (pss_one (ps_ret (pe_callTy call_tuple_of (by rfl) T.tup (by decide +kernel) (pa_cons (pv 3) pa_nil)))))), ?_⟩
  obtain ⟨p, xr, rfl, hp, ha⟩ := ins_inv hd
  refine ⟨_, rfl, st, _, rfl, .inr hs, fun l nl => ?_⟩
  have s1 := same_new nl (.lst (stV s3))
  have e1 : (upd H l (.lst (stV s3))) l = some (.lst (stV s3)) := upd_same
  generalize upd H l (.lst (stV s3)) = H1 at s1 e1 ⊢
  refine ⟨_, rfl, l, _, _, _, rfl, rfl, SqL.of e1, atI_nat (j := 0) rfl, _, _, rfl, rfl, _, rfl, l, _, _, 0, rfl, rfl, e1, ixN_at (by decide : 0 < 3), ?_⟩
  have s2 : Same H (upd H1 l (.lst ((stV s3).set 0 (.int ((s3.pc : Nat) + 1))))) := same_upd s1 nl _
  have e2 : (upd H1 l (.lst ((stV s3).set 0 (.int ((s3.pc : Nat) + 1))))) l = some (.lst [.int ((s3.pc + 1 : Nat) : Int), .int s3.a, .int s3.b]) := upd_same
  generalize upd H1 l (.lst ((stV s3).set 0 (.int ((s3.pc : Nat) + 1)))) = H2 at s2 e2 ⊢
  have fin : ∀ (J : Hp) (a' b' : Int), Same H J → (a', b') = heldN an s3 i → ∀ t, J t = none → Q (.ref t) (upd J t (.tup [.int ((s3.pc + 1 : Nat) : Int), .int a', .int b'])) := by
    intro J a' b' sJ eh t nt
    refine q _ t (sJ.trans (same_new nt _)) (sJ.free nt) ?_
    rw [← eh]
    exact upd_same
  have hp2 := Same.tup s2 hp
  have put : ∀ (J : Hp) (z : Str) (n : Int), okV z → Same H J → J l = some (.lst [.int ((s3.pc + 1 : Nat) : Int), .int s3.a, .int s3.b]) → vput z n (s3.a, s3.b) = heldN an s3 i →
      ∃ m : Nat, ixN 3 (1 + Txt.find ("ab" : Str) z) = some m ∧ ∃ a' b', Same H (upd J l (.lst (([.int ((s3.pc + 1 : Nat) : Int), .int s3.a, .int s3.b] : List V).set m (.int n)))) ∧ (upd J l (.lst (([.int ((s3.pc + 1 : Nat) : Int), .int s3.a, .int s3.b] : List V).set m (.int n)))) l = some (.lst [.int ((s3.pc + 1 : Nat) : Int), .int a', .int b']) ∧ (a', b') = heldN an s3 i := by
    intro J z n hz sJ eJ eh
    rw [find_ab hz]
    rcases hz with rfl | rfl
    · exact ⟨1, by rw [if_pos rfl]; rfl, n, s3.b, same_upd sJ nl _, upd_same, eh⟩
    · exact ⟨2, by rw [if_neg (by decide +kernel)]; rfl, s3.a, n, same_upd sJ nl _, upd_same, eh⟩
  refine ⟨_, rfl, p, _, _, _, rfl, rfl, hp2, atI_nat (j := 0) rfl, rfl, _, rfl, ?_⟩
  have no3 : ∀ h : heldN an s3 i = (s3.a, s3.b), ∀ t, H2 t = none → Q (.ref t) (upd H2 t (.tup [.int ((s3.pc + 1 : Nat) : Int), .int s3.a, .int s3.b])) := fun h => fin H2 _ _ s2 h.symm
  cases i with
  | set z n =>
    obtain ⟨x, y, rfl, hx, hy⟩ := dp_pair ha
    cases hx
    cases hy
    obtain ⟨m, em, a', b', sJ, eJ, eh⟩ := put H2 z n hi.1 s2 e2 rfl
    refine strT ⟨_, rfl, p, _, _, _, rfl, rfl, hp2, atI_nat (j := 2) rfl, _, rfl, ⟨_, rfl⟩, _, rfl, p, _, _, _, rfl, rfl, hp2, atI_nat (j := 1) rfl, _, _, rfl, rfl, _, _, rfl, rfl, l, _, _, m, rfl, rfl, e2, em, ?_⟩
    exact ⟨_, rfl, l, _, rfl, .inl ⟨SqL.of eJ, fin _ a' b' sJ eh⟩⟩
  | add z d =>
    obtain ⟨x, y, rfl, hx, hy⟩ := dp_pair ha
    cases hx
    obtain ⟨m, em, a', b', sJ, eJ, eh⟩ := put H2 z ((vget s3.a s3.b z + tval s3.a s3.b d) % 16) hi.1 s2 e2 rfl
    refine strF (by simp only [Ins.word]; decide +kernel) ⟨_, rfl, p, _, _, _, rfl, rfl, hp2, atI_nat (j := 0) rfl, rfl, _, rfl, strT ?_⟩
    refine ⟨⟨_, rfl⟩, _, rfl, p, _, _, _, rfl, rfl, hp2, atI_nat (j := 1) rfl, _, _, rfl, rfl, _, _, rfl, rfl, ?_⟩
    have hat : ∃ j : Nat, (1 + Txt.find ("ab" : Str) z) = (j : Int) ∧ ([.int ((s3.pc + 1 : Nat) : Int), .int s3.a, .int s3.b] : List V)[j]? = some (.int (vget s3.a s3.b z)) := by
      rw [find_ab hi.1]
      rcases hi.1 with rfl | rfl
      · exact ⟨1, by rw [if_pos rfl]; rfl, rfl⟩
      · exact ⟨2, by rw [if_neg (by decide +kernel)]; rfl, rfl⟩
    obtain ⟨j, ej, hj⟩ := hat
    rw [ej] at em
    dsimp only
    rw [ej]
    refine ⟨_, rfl, _, rfl, l, _, _, _, rfl, rfl, SqL.of e2, atI_nat (j := j) hj, ?_⟩
    refine ⟨_, rfl, p, _, _, _, rfl, rfl, hp2, atI_nat (j := 2) rfl, _, rfl, _, st, d, s3, rfl, dp_mono s2 _ _ hy, hi.2, Same.tup s2 hs, ?_⟩
    refine ⟨_, _, rfl, rfl, _, _, rfl, rfl, (by show (0 : Int) < 16; decide), _, rfl, _, rfl, l, _, _, m, rfl, rfl, e2, em, ?_⟩
    exact ⟨_, rfl, l, _, rfl, .inl ⟨SqL.of eJ, fin _ a' b' sJ eh⟩⟩
  | ask g d z =>
    obtain ⟨x, y, x2, rfl, hx, hy, hz⟩ := dp_trip ha
    cases hz
    obtain ⟨m, em, a', b', sJ, eJ, eh⟩ := put H2 z an hi.2.2.2 s2 e2 rfl
    refine strF (by simp only [Ins.word]; decide +kernel) ⟨_, rfl, p, _, _, _, rfl, rfl, hp2, atI_nat (j := 0) rfl, rfl, _, rfl, strF (by simp only [Ins.word]; decide +kernel) ⟨_, rfl, p, _, _, _, rfl, rfl, hp2, atI_nat (j := 0) rfl, rfl, _, rfl, strT ?_⟩⟩
    refine ⟨_, rfl, _, rfl, ⟨_, rfl⟩, _, rfl, p, _, _, _, rfl, rfl, hp2, atI_nat (j := 3) rfl, _, _, rfl, rfl, _, _, rfl, rfl, l, _, _, m, rfl, rfl, e2, em, ?_⟩
    exact ⟨_, rfl, l, _, rfl, .inl ⟨SqL.of eJ, fin _ a' b' sJ eh⟩⟩
  | wait n => exact strF (by simp only [Ins.word]; decide +kernel) ⟨_, rfl, p, _, _, _, rfl, rfl, hp2, atI_nat (j := 0) rfl, rfl, _, rfl, strF (by simp only [Ins.word]; decide +kernel) ⟨_, rfl, p, _, _, _, rfl, rfl, hp2, atI_nat (j := 0) rfl, rfl, _, rfl, strF (by simp only [Ins.word]; decide +kernel) ⟨_, rfl, l, _, rfl, .inl ⟨SqL.of e2, no3 rfl⟩⟩⟩⟩
  | ans n => exact strF (by simp only [Ins.word]; decide +kernel) ⟨_, rfl, p, _, _, _, rfl, rfl, hp2, atI_nat (j := 0) rfl, rfl, _, rfl, strF (by simp only [Ins.word]; decide +kernel) ⟨_, rfl, p, _, _, _, rfl, rfl, hp2, atI_nat (j := 0) rfl, rfl, _, rfl, strF (by simp only [Ins.word]; decide +kernel) ⟨_, rfl, l, _, rfl, .inl ⟨SqL.of e2, no3 rfl⟩⟩⟩⟩
  | grow n => exact strF (by simp only [Ins.word]; decide +kernel) ⟨_, rfl, p, _, _, _, rfl, rfl, hp2, atI_nat (j := 0) rfl, rfl, _, rfl, strF (by simp only [Ins.word]; decide +kernel) ⟨_, rfl, p, _, _, _, rfl, rfl, hp2, atI_nat (j := 0) rfl, rfl, _, rfl, strF (by simp only [Ins.word]; decide +kernel) ⟨_, rfl, l, _, rfl, .inl ⟨SqL.of e2, no3 rfl⟩⟩⟩⟩
  | lst n => exact strF (by simp only [Ins.word]; decide +kernel) ⟨_, rfl, p, _, _, _, rfl, rfl, hp2, atI_nat (j := 0) rfl, rfl, _, rfl, strF (by simp only [Ins.word]; decide +kernel) ⟨_, rfl, p, _, _, _, rfl, rfl, hp2, atI_nat (j := 0) rfl, rfl, _, rfl, strF (by simp only [Ins.word]; decide +kernel) ⟨_, rfl, l, _, rfl, .inl ⟨SqL.of e2, no3 rfl⟩⟩⟩⟩
  | test n u => exact strF (by simp only [Ins.word]; decide +kernel) ⟨_, rfl, p, _, _, _, rfl, rfl, hp2, atI_nat (j := 0) rfl, rfl, _, rfl, strF (by simp only [Ins.word]; decide +kernel) ⟨_, rfl, p, _, _, _, rfl, rfl, hp2, atI_nat (j := 0) rfl, rfl, _, rfl, strF (by simp only [Ins.word]; decide +kernel) ⟨_, rfl, l, _, rfl, .inl ⟨SqL.of e2, no3 rfl⟩⟩⟩⟩
  | jump n => exact strF (by simp only [Ins.word]; decide +kernel) ⟨_, rfl, p, _, _, _, rfl, rfl, hp2, atI_nat (j := 0) rfl, rfl, _, rfl, strF (by simp only [Ins.word]; decide +kernel) ⟨_, rfl, p, _, _, _, rfl, rfl, hp2, atI_nat (j := 0) rfl, rfl, _, rfl, strF (by simp only [Ins.word]; decide +kernel) ⟨_, rfl, l, _, rfl, .inl ⟨SqL.of e2, no3 rfl⟩⟩⟩⟩
end
/-! ### where instructions lead -/
def Ins.tgt : Ins → Nat
  | .test _ t => t
  | .jump t => t
  | _ => 0
theorem plain_tgt {k : Str} {s : PyData} {i : Ins} (h : isPlain s k = true) (e : s = i.toD) : i.tgt = 0 := by
  obtain ⟨j, ej, hj⟩ := plain_ins h
  cases i with
  | test c t =>
    exfalso
    obtain ⟨z, ps, rs, e2, hz, _, _⟩ := plain_inv h
    rw [e] at e2
    injection e2 with e2
    injection e2 with e2 _
    injection e2 with e2
    subst e2
    unfold rolesZ at hz
    revert hz
    simp (decide := true)
  | jump t =>
    exfalso
    obtain ⟨z, ps, rs, e2, hz, _, _⟩ := plain_inv h
    rw [e] at e2
    injection e2 with e2
    injection e2 with e2 _
    injection e2 with e2
    subst e2
    unfold rolesZ at hz
    revert hz
    simp (decide := true)
  | _ => rfl
/-- the instructions of a program, none of which leads past the end -/
theorem code_tgt {k : Str} : ∀ {n c : Nat} {d : PyData} (st0 : Nat), bodyN k n d = some c → ∃ is : List Ins, bodyC n st0 d = is.map Ins.toD ∧ (∀ i ∈ is, i.ok k) ∧ ∀ i ∈ is, i.tgt ≤ st0 + is.length
  | 0, c, d, st0, h => ⟨[], rfl, (fun i m => nomatch m), (fun i m => nomatch m)⟩
  | n + 1, c, d, st0, h => by
    obtain ⟨ss, rfl⟩ := body_tuple h
    rw [bodyN_tup] at h
    show ∃ is : List Ins, codeL (stC (bodyC n)) st0 ss = is.map Ins.toD ∧ (∀ i ∈ is, i.ok k) ∧ ∀ i ∈ is, i.tgt ≤ st0 + is.length
    induction ss generalizing st0 c with
    | nil => exact ⟨[], rfl, (fun i m => nomatch m), (fun i m => nomatch m)⟩
    | cons s r ih =>
      obtain ⟨a, b, e1, e2, _, _⟩ := addO_le (show addO (stN k n s) (sumO (r.map (stN k n))) = some c from h)
      have one : ∃ is : List Ins, stC (bodyC n) st0 s = is.map Ins.toD ∧ (∀ i ∈ is, i.ok k) ∧ ∀ i ∈ is, i.tgt ≤ st0 + is.length := by
        rcases st_shape e1 with ⟨z, ps, rfl, h1, h2, hp, rfl⟩ | ⟨co, bb, c', rfl, hco, hb, rfl⟩ | ⟨co, b1, b2, c1, c2, rfl, hco, hb1, hb2, rfl⟩
        · rw [stC_plain h1 h2]
          obtain ⟨i, e, hi⟩ := plain_ins hp
          refine ⟨[i], by rw [e]; rfl, fun j m => by rw [List.mem_singleton.mp m]; exact hi, fun j m => ?_⟩
          rw [List.mem_singleton.mp m, plain_tgt hp e]
          exact Nat.zero_le _
        · rw [stC_while]
          unfold whC
          obtain ⟨is, e, hi, ht⟩ := code_tgt (st0 + 1) hb
          have el : (bodyC n (st0 + 1) bb).length = is.length := by rw [e, List.length_map]
          refine ⟨.test co (st0 + 1 + (bodyC n (st0 + 1) bb).length + 1) :: (is ++ [.jump st0]), ?_, fun j m => ?_, fun j m => ?_⟩
          · rw [e]
            simp [Ins.toD]
          · simp only [List.mem_cons, List.mem_append, List.not_mem_nil, or_false] at m
            rcases m with rfl | m | rfl
            · exact hco
            · exact hi j m
            · trivial
          · simp only [List.length_cons, List.length_append, List.length_nil]
            simp only [List.mem_cons, List.mem_append, List.not_mem_nil, or_false] at m
            rcases m with rfl | m | rfl
            · show st0 + 1 + (bodyC n (st0 + 1) bb).length + 1 ≤ _
              omega
            · have := ht j m
              omega
            · show st0 ≤ _
              omega
        · rw [stC_if]
          unfold ifC
          obtain ⟨is, e, hi, ht⟩ := code_tgt (st0 + 1) hb1
          have el : (bodyC n (st0 + 1) b1).length = is.length := by rw [e, List.length_map]
          split
          · refine ⟨.test co (st0 + 1 + (bodyC n (st0 + 1) b1).length) :: is, ?_, fun j m => ?_, fun j m => ?_⟩
            · rw [e]
              simp [Ins.toD]
            · rcases List.mem_cons.mp m with rfl | m
              · exact hco
              · exact hi j m
            · simp only [List.length_cons]
              rcases List.mem_cons.mp m with rfl | m
              · show st0 + 1 + (bodyC n (st0 + 1) b1).length ≤ _
                omega
              · have := ht j m
                omega
          · obtain ⟨js, e', hj, ht'⟩ := code_tgt (st0 + 1 + (bodyC n (st0 + 1) b1).length + 1) hb2
            have el' : (bodyC n (st0 + 1 + (bodyC n (st0 + 1) b1).length + 1) b2).length = js.length := by rw [e', List.length_map]
            refine ⟨.test co (st0 + 1 + (bodyC n (st0 + 1) b1).length + 1) :: (is ++ .jump (st0 + 1 + (bodyC n (st0 + 1) b1).length + 1 + (bodyC n (st0 + 1 + (bodyC n (st0 + 1) b1).length + 1) b2).length) :: js), ?_, fun j m => ?_, fun j m => ?_⟩
            · rw [e', e]
              simp [Ins.toD]
            · simp only [List.mem_cons, List.mem_append] at m
              rcases m with rfl | m | rfl | m
              · exact hco
              · exact hi j m
              · trivial
              · exact hj j m
            · simp only [List.length_cons, List.length_append]
              simp only [List.mem_cons, List.mem_append] at m
              rcases m with rfl | m | rfl | m
              · show st0 + 1 + (bodyC n (st0 + 1) b1).length + 1 ≤ _
                omega
              · have := ht j m
                omega
              · show st0 + 1 + (bodyC n (st0 + 1) b1).length + 1 + (bodyC n (st0 + 1 + (bodyC n (st0 + 1) b1).length + 1) b2).length ≤ _
                omega
              · have := ht' j m
                omega
      obtain ⟨is, e, hi, ht⟩ := one
      obtain ⟨js, e', hj, ht'⟩ := ih (st0 := st0 + (stC (bodyC n) st0 s).length) (c := b) e2
      have el : (stC (bodyC n) st0 s).length = is.length := by rw [e, List.length_map]
      refine ⟨is ++ js, ?_, fun j m => ?_, fun j m => ?_⟩
      · simp only [codeL]
        rw [e', e, List.map_append]
      · rcases List.mem_append.mp m with m | m
        · exact hi j m
        · exact hj j m
      · rw [List.length_append]
        rcases List.mem_append.mp m with m | m
        · have := ht j m
          omega
        · have := ht' j m
          omega
theorem next_le {code : List Ins} {x : Int} {mem : Int → Bool} {s : S3} {i : Ins} (h : s.pc < code.length) (ht : i.tgt ≤ code.length) : (nextS x mem s i).pc ≤ code.length := by
  show i.next s.pc s.a s.b ≤ _
  cases i with
  | jump t => exact ht
  | test c t =>
    show (if cval s.a s.b c = true then s.pc + 1 else t) ≤ _
    split
    · omega
    · exact ht
  | _ => exact h
/-! ### the law's dict of states -/
def seenK (seen : List (S3 × Int)) : List (List Key × V) := seen.map fun e => (keyOf e.1, V.int e.2)
theorem seenK_look (s : S3) : ∀ seen : List (S3 × Int), valV (seenK seen) (keyOf s) = (lookS s seen).map V.int
  | [] => rfl
  | (s0, t0) :: r => by
    show valV ((keyOf s0, V.int t0) :: seenK r) (keyOf s) = _
    by_cases c : s0 = s
    · subst c
      rw [valV_pos rfl]
      simp [lookS]
    · rw [valV_neg (fun z => c (keyOf_inj z)), seenK_look s r]
      simp [lookS, List.find?_cons, c]
theorem seenK_put {s : S3} {t : Int} {seen : List (S3 × Int)} (h : lookS s seen = none) : putK (seenK seen) (keyOf s) (V.int t) = seenK (seen ++ [(s, t)]) := by
  rw [putK_new _ (by rw [seenK_look, h]; rfl)]
  simp [seenK]
theorem inV_dec {z : Int} {ns : List Int} : inV (.int z) (ns.map V.int) = decide (z ∈ ns) := by
  unfold inV
  induction ns with
  | nil => rfl
  | cons n r ih =>
    rw [List.map_cons, List.any_cons, ih]
    by_cases c : z = n
    · subst c
      simp [eqV]
    · have c' : ¬ n = z := fun e => c e.symm
      simp [eqV, c, c']
theorem held_eq (x : Int) (mem : Int → Bool) (s : S3) (i : Ins) (an : Int) (h : ∀ g d z, i = .ask g d z → an = (if 0 ≤ place x s.a s.b g d ∧ mem (place x s.a s.b g d) = true then 1 else 0)) : heldN an s i = heldS x mem s i := by
  cases i with
  | ask g d z =>
    show vput z an (s.a, s.b) = _
    rw [h g d z rfl]
    rfl
  | _ => rfl
/-! ### data without lists, over a heap whose lists change -/
def tupH (H : Hp) : Hp := fun a => match H a with
  | some (.tup xs) => some (.tup xs)
  | some (.frz o u) => some (.frz o u)
  | _ => none
theorem tupH_same (H : Hp) : Same (tupH H) H := fun a o h => by
  unfold tupH at h
  split at h
  · rename_i e; rw [e]; exact h
  · rename_i e; rw [e]; exact h
  · cases h
def KeepT (H H' : Hp) : Prop := (∀ a xs, H a = some (.tup xs) → H' a = some (.tup xs)) ∧ ∀ a o u, H a = some (.frz o u) → H' a = some (.frz o u)
theorem KeepT.same {H H' : Hp} (k : KeepT H H') : Same (tupH H) (tupH H') := fun a o h => by
  unfold tupH at h
  split at h
  · rename_i e
    unfold tupH
    rw [k.1 _ _ e]
    exact h
  · rename_i e
    unfold tupH
    rw [k.2 _ _ _ e]
    exact h
  · cases h
theorem KeepT.trans {H H' H'' : Hp} (a : KeepT H H') (b : KeepT H' H'') : KeepT H H'' := ⟨fun x xs e => b.1 _ _ (a.1 _ _ e), fun x o u e => b.2 _ _ _ (a.2 _ _ _ e)⟩
theorem KeepT.of {H H' : Hp} (s : Same H H') : KeepT H H' := ⟨fun x xs e => s _ _ e, fun x o u e => s _ _ e⟩
theorem KeepT.fr {b : Addr} {H H' : Hp} (hb : ∃ xs, H b = some (.lst xs)) (f : Fr b H H') : KeepT H H' := by
  obtain ⟨xs, hb⟩ := hb
  exact ⟨fun x ys e => f _ _ (fun z => by rw [z, hb] at e; cases e) e, fun x o u e => f _ _ (fun z => by rw [z, hb] at e; cases e) e⟩
theorem KeepT.upd {b : Addr} {H : Hp} {o : HO} (hb : ∃ xs, H b = some (.lst xs)) : KeepT H (upd H b o) := KeepT.fr hb (Fr.upd o)
abbrev Dt (K : PySem.W.Frag) (H : Hp) (v : V) (d : PyData) : Prop := Dp K (tupH H) v d
theorem new_tup {K : PySem.W.Frag} {H : Hp} {p : Addr} {xs : List V} {ds : List PyData} (np : H p = none) (h : DpAll K (tupH H) xs ds) : Dt K (upd H p (.tup xs)) (.ref p) (.tuple ds) := by
  have e : tupH (upd H p (.tup xs)) p = some (.tup xs) := by unfold tupH; rw [upd_same]
  exact .tup (SqT.of e) (dpAll_mono (KeepT.of (same_new np _)).same _ _ h)
theorem Bag.lst {H : Hp} {b : Addr} (h : Bag H b) : ∃ xs, H b = some (.lst xs) := by
  obtain ⟨c, s, e, _⟩ := h
  exact ⟨_, e⟩
/-! ### the walk of a collector -/
inductive LP where
  | fin (rows : List (Int × Int))
  | cyc (f c t ct : Int) (rows : List (Int × Int))
def lookL (s : S3) (seen : List (S3 × (Int × Int))) : Option (Int × Int) := (seen.find? fun e => decide (e.1 = s)).map (·.2)
def rowsOf (t ct : Int) (s : S3) : Ins → List (Int × Int)
  | .lst d => [(t + 1, ct + tval s.a s.b d)]
  | _ => []
def nextL (s : S3) (i : Ins) : S3 := ⟨i.next s.pc s.a s.b, (i.held s.a s.b).1, (i.held s.a s.b).2⟩
def loopL (code : List Ins) : Nat → S3 → Int → Int → List (S3 × (Int × Int)) → List (Int × Int) → LP
  | 0, _, _, _, _, rows => .fin rows
  | n + 1, s, t, ct, seen, rows => match lookL s seen with
    | some fc => .cyc fc.1 fc.2 t ct rows
    | none => match code[s.pc]? with
      | none => .fin rows
      | some i => loopL code n (nextL s i) (t + i.cost) (ct + i.grown s.a s.b) (seen ++ [(s, (t, ct))]) (rows ++ rowsOf t ct s i)
def runL (code : List Ins) : LP := loopL code (fuel code) ⟨0, 0, 0⟩ 0 0 [] []
theorem loopL_eq (code : List Ins) (n : Nat) (s : S3) (t ct : Int) (seen : List (S3 × (Int × Int))) (rows : List (Int × Int)) : loopL code (n + 1) s t ct seen rows = (match lookL s seen with
    | some fc => .cyc fc.1 fc.2 t ct rows
    | none => match code[s.pc]? with
      | none => .fin rows
      | some i => loopL code n (nextL s i) (t + i.cost) (ct + i.grown s.a s.b) (seen ++ [(s, (t, ct))]) (rows ++ rowsOf t ct s i)) := rfl
/-- head, cycle, period, shift -/
def lpHead : LP → List (Int × Int)
  | .fin rows => rows
  | .cyc f _ _ _ rows => rows.filter fun r => decide (r.1 ≤ f)
def lpCycle : LP → List (Int × Int)
  | .fin _ => []
  | .cyc f _ _ _ rows => rows.filter fun r => decide (f < r.1)
def lpPer : LP → Int
  | .fin _ => 0
  | .cyc f _ t _ _ => t - f
def lpShift : LP → Int
  | .fin _ => 0
  | .cyc _ c _ ct _ => ct - c
theorem lookL_none {s : S3} {seen : List (S3 × (Int × Int))} (h : lookL s seen = none) : s ∉ seen.map (·.1) := by
  intro m
  obtain ⟨e, me, es⟩ := List.mem_map.mp m
  unfold lookL at h
  rw [Option.map_eq_none_iff, List.find?_eq_none] at h
  have := h e me
  simp [es] at this
/-- rows as data -/
def rowD (r : Int × Int) : PyData := .tuple [.int r.1, .int r.2]
theorem row_inv {K : PySem.W.Frag} {H : Hp} {v : V} {r : Int × Int} (h : Dp K H v (rowD r)) : ∃ p, v = .ref p ∧ SqT K H p [.int r.1, .int r.2] := by
  obtain ⟨p, xs, rfl, hs, ha⟩ := dp_tup_inv h
  obtain ⟨x, y, rfl, hx, hy⟩ := dp_pair ha
  cases hx
  cases hy
  exact ⟨p, rfl, hs⟩
/-! ### the dict of states -/
inductive SeenL (H : Hp) : List (List Key × V) → List (S3 × (Int × Int)) → Prop
  | nil : SeenL H [] []
  | cons {s : S3} {t ct : Int} {r : Addr} {kvs : List (List Key × V)} {seen : List (S3 × (Int × Int))} : H r = some (.tup [.int t, .int ct]) → SeenL H kvs seen → SeenL H ((keyOf s, .ref r) :: kvs) ((s, (t, ct)) :: seen)
theorem SeenL.len {H : Hp} : ∀ {kvs : List (List Key × V)} {seen : List (S3 × (Int × Int))}, SeenL H kvs seen → kvs.length = seen.length
  | _, _, .nil => rfl
  | _, _, .cons _ h => by rw [List.length_cons, List.length_cons, h.len]
theorem SeenL.refs {H : Hp} : ∀ {kvs : List (List Key × V)} {seen : List (S3 × (Int × Int))}, SeenL H kvs seen → ∀ p ∈ kvs, ∃ r, p.2 = .ref r
  | _, _, .nil => fun p m => nomatch m
  | _, _, .cons _ h => fun p m => by
    rcases List.mem_cons.mp m with rfl | m
    · exact ⟨_, rfl⟩
    · exact h.refs p m
theorem SeenL.keep {H H' : Hp} (k : KeepT H H') : ∀ {kvs : List (List Key × V)} {seen : List (S3 × (Int × Int))}, SeenL H kvs seen → SeenL H' kvs seen
  | _, _, .nil => .nil
  | _, _, .cons e h => .cons (k.1 _ _ e) (h.keep k)
theorem SeenL.snoc {H : Hp} {s : S3} {t ct : Int} {r : Addr} (e : H r = some (.tup [.int t, .int ct])) : ∀ {kvs : List (List Key × V)} {seen : List (S3 × (Int × Int))}, SeenL H kvs seen → SeenL H (kvs ++ [(keyOf s, .ref r)]) (seen ++ [(s, (t, ct))])
  | _, _, .nil => .cons e .nil
  | _, _, .cons e' h => .cons e' (h.snoc e)
theorem SeenL.look {H : Hp} (s : S3) : ∀ {kvs : List (List Key × V)} {seen : List (S3 × (Int × Int))}, SeenL H kvs seen →
    (valV kvs (keyOf s) = none ∧ lookL s seen = none) ∨ ∃ r t ct, valV kvs (keyOf s) = some (.ref r) ∧ lookL s seen = some (t, ct) ∧ H r = some (.tup [.int t, .int ct])
  | _, _, .nil => .inl ⟨rfl, rfl⟩
  | _, _, .cons (s := s0) (t := t0) (ct := c0) (r := r0) (kvs := kvs) (seen := seen) e h => by
    by_cases c : s0 = s
    · subst c
      refine .inr ⟨r0, t0, c0, valV_pos rfl, ?_, e⟩
      simp [lookL]
    · have e1 : lookL s ((s0, (t0, c0)) :: seen) = lookL s seen := by simp [lookL, List.find?_cons, c]
      have e2 : valV ((keyOf s0, V.ref r0) :: kvs) (keyOf s) = valV kvs (keyOf s) := valV_neg (fun z => c (keyOf_inj z))
      rw [e1, e2]
      exact h.look s
theorem filt_snocR {φ : Int × Int → Bool} {xs : List (Int × Int)} {i : Nat} {n : Int × Int} (h : xs[i]? = some n) : (xs.take (i + 1)).filter φ = (xs.take i).filter φ ++ (if φ n = true then [n] else []) := by
  rw [take_snoc h, List.filter_append]
  congr 1
  cases e : φ n <;> simp [e]
/-- [row for row in A if ..], A a list of rows, the test one that makes nothing -/
theorem lc_rows {K : PySem.W.Frag} {a : Addr} {xs : List V} {rows : List (Int × Int)} {j : Nat} {σ : L2.St} {H : Hp} {D : Addr} {tt : TT} {φ : Int × Int → Bool} {Qd : Hp → Prop} (hw : ∀ x : V, wipe ((wipe σ [j]).set j (some x)) [j] = wipe σ [j] ∧ ((wipe σ [j]).set j (some x))[j]? = some (some x))
    (htt : ∀ (p : Addr) (r : Int × Int) (H' : Hp) (Q : Bool → Hp → Prop), Same H H' → SqT K H' p [.int r.1, .int r.2] → Q (φ r) H' → tt ((wipe σ [j]).set j (some (.ref p))) H' Q) (ha : H a = some (.lst xs)) (hr : DpAll K (tupH H) xs (rows.map rowD)) (hl : rows.length ≤ 100000) (nD : H D = none)
    (hd : ∀ H' ys, Same H H' → H' D = some (.lst ys) → DpAll K (tupH H') ys ((rows.filter φ).map rowD) → Qd H') :
    ∃ W : Nat → Nat → Hp → Prop, (∃ m, W 0 m (upd H D (.lst []))) ∧ ∀ i m H, W i m H →
      ((Itl K a).stop i H ∧ Qd H) ∨ ((Itl K a).go i H ∧ ∃ Nx : Hp → Prop, (∀ H', Nx H' → ∃ m', m' < m ∧ W (i + 1) m' H') ∧ ∀ x H', (Itl K a).yld i H x H' → (gName j) x (wipe σ [j]) H' fun σ2 H2 => wipe σ2 [j] = wipe σ [j] ∧ tt σ2 H2 fun b H3 =>
        if b = true then (tVar j) σ2 H3 fun y H4 => ∃ acc, H4 D = some (.lst acc) ∧ acc.length < sizeLine ∧ Nx (upd H4 D (.lst (acc ++ [y]))) else Nx H3) := by
  have hxl : xs.length = rows.length := by have := dpAll_len hr; rwa [List.length_map] at this
  refine lc_list (K := K) (a := a) (xs := xs) (fun i H' => Same H H' ∧ ∃ ys, H' D = some (.lst ys) ∧ DpAll K (tupH H') ys (((rows.take i).filter φ).map rowD)) ⟨same_new nD _, [], upd_same, .nil⟩ (fun i H' _ ⟨s1, _⟩ => SqL.of (s1 _ _ ha)) ?_ ?_
  · rintro i v H1 hv ⟨s1, ys, e1, hys⟩
    obtain ⟨d, hdn, hdp⟩ := dpAll_get hr hv
    rw [List.getElem?_map] at hdn
    cases er : rows[i]? with
    | none => rw [er] at hdn; cases hdn
    | some r =>
      rw [er] at hdn
      have ed : rowD r = d := by injection hdn
      subst ed
      have hdp1 := dp_mono (KeepT.of s1).same _ _ hdp
      obtain ⟨p, rfl, hp⟩ := row_inv (dp_mono (tupH_same H1) _ _ hdp1)
      have hi : i < rows.length := (List.getElem?_eq_some_iff.mp er).1
      refine ⟨(hw _).1, htt p r H1 _ s1 hp ?_⟩
      cases e : φ r with
      | true =>
        rw [if_pos rfl]
        have k1 : KeepT H1 (upd H1 D (.lst (ys ++ [.ref p]))) := KeepT.upd ⟨_, e1⟩
        refine ⟨_, (hw _).2, _, e1, ?_, same_upd s1 nD _, ys ++ [.ref p], upd_same, ?_⟩
        · have h1 := dpAll_len hys
          have h2 := List.length_filter_le φ (rows.take i)
          rw [List.length_take] at h2
          rw [h1, List.length_map]
          exact Nat.lt_of_le_of_lt (by omega : _ ≤ 100000) (by decide)
        · rw [filt_snocR er, e, if_pos rfl, List.map_append]
          exact dpAll_append (dpAll_mono k1.same _ _ hys) (.cons (dp_mono k1.same _ _ hdp1) .nil)
      | false =>
        rw [if_neg (by decide)]
        refine ⟨s1, ys, e1, ?_⟩
        rw [filt_snocR er, e, if_neg (by decide), List.append_nil]
        exact hys
  · rintro H1 ⟨s1, ys, e1, hys⟩
    rw [hxl, List.take_length] at hys
    exact hd _ ys s1 e1 hys
/-! ### rows, each a tuple of its own -/
inductive RowsAt (H : Hp) : List V → List (Int × Int) → Prop
  | nil : RowsAt H [] []
  | cons {p : Addr} {r : Int × Int} {xs : List V} {rows : List (Int × Int)} : H p = some (.tup [.int r.1, .int r.2]) → RowsAt H xs rows → RowsAt H (.ref p :: xs) (r :: rows)
theorem RowsAt.len {H : Hp} : ∀ {xs : List V} {rows : List (Int × Int)}, RowsAt H xs rows → xs.length = rows.length
  | _, _, .nil => rfl
  | _, _, .cons _ h => by rw [List.length_cons, List.length_cons, h.len]
theorem RowsAt.keepA {H H' : Hp} (k : ∀ a ys, H a = some (.tup ys) → H' a = some (.tup ys)) : ∀ {xs : List V} {rows : List (Int × Int)}, RowsAt H xs rows → RowsAt H' xs rows
  | _, _, .nil => .nil
  | _, _, .cons e h => .cons (k _ _ e) (h.keepA k)
theorem RowsAt.keep {H H' : Hp} (k : KeepT H H') {xs : List V} {rows : List (Int × Int)} (h : RowsAt H xs rows) : RowsAt H' xs rows := h.keepA k.1
theorem RowsAt.app {H : Hp} : ∀ {xs ys : List V} {rows ros : List (Int × Int)}, RowsAt H xs rows → RowsAt H ys ros → RowsAt H (xs ++ ys) (rows ++ ros)
  | _, _, _, _, .nil, h => h
  | _, _, _, _, .cons e h, g => .cons e (h.app g)
theorem RowsAt.one {H : Hp} {p : Addr} {r : Int × Int} (e : H p = some (.tup [.int r.1, .int r.2])) : RowsAt H [.ref p] [r] := .cons e .nil
theorem RowsAt.get {H : Hp} : ∀ {xs : List V} {rows : List (Int × Int)} {i : Nat} {v : V}, RowsAt H xs rows → xs[i]? = some v → ∃ p r, v = .ref p ∧ rows[i]? = some r ∧ H p = some (.tup [.int r.1, .int r.2])
  | _, _, _, _, .nil, h => nomatch h
  | _, _, 0, _, .cons e _, h => by
    have ev := Option.some.inj h
    subst ev
    exact ⟨_, _, rfl, rfl, e⟩
  | _, _, i + 1, _, .cons _ g, h => g.get (i := i) h
theorem RowsAt.mem {H : Hp} {xs : List V} {rows : List (Int × Int)} (h : RowsAt H xs rows) {v : V} (m : v ∈ xs) : ∃ p r, v = .ref p ∧ r ∈ rows ∧ H p = some (.tup [.int r.1, .int r.2]) := by
  obtain ⟨i, hi⟩ := List.getElem?_of_mem m
  obtain ⟨p, r, rfl, hr, e⟩ := h.get hi
  exact ⟨p, r, rfl, List.mem_of_getElem? hr, e⟩
theorem RowsAt.dp {K : PySem.W.Frag} {H : Hp} : ∀ {xs : List V} {rows : List (Int × Int)}, RowsAt H xs rows → DpAll K (tupH H) xs (rows.map rowD)
  | _, _, .nil => .nil
  | _, _, .cons (p := p) (r := r) e h => .cons (.tup (SqT.of (show tupH H p = some (.tup [.int r.1, .int r.2]) by unfold tupH; rw [e])) (.cons (.int r.1) (.cons (.int r.2) .nil))) h.dp
/-- [row for row in A if ..], A a list or a tuple of rows, the test one that makes nothing -/
theorem lc_rowsW {J : It} {G : Hp → Prop} {xs : List V} {rows : List (Int × Int)} {j : Nat} {σ : L2.St} {H : Hp} {D : Addr} {tt : TT} {φ : Int × Int → Bool} {Qd : Hp → Prop} (wk : L2.Walk J xs.length G (YAt xs)) (hG : ∀ H', Same H H' → G H') (hw : ∀ x : V, wipe ((wipe σ [j]).set j (some x)) [j] = wipe σ [j] ∧ ((wipe σ [j]).set j (some x))[j]? = some (some x))
    (htt : ∀ (p : Addr) (r : Int × Int) (H' : Hp) (Q : Bool → Hp → Prop), Same H H' → H' p = some (.tup [.int r.1, .int r.2]) → Q (φ r) H' → tt ((wipe σ [j]).set j (some (.ref p))) H' Q) (hr : RowsAt H xs rows) (hl : rows.length ≤ 100000) (nD : H D = none)
    (hd : ∀ H' ys, Same H H' → H' D = some (.lst ys) → RowsAt H' ys (rows.filter φ) → Qd H') :
    ∃ W : Nat → Nat → Hp → Prop, (∃ m, W 0 m (upd H D (.lst []))) ∧ ∀ i m H, W i m H →
      (J.stop i H ∧ Qd H) ∨ (J.go i H ∧ ∃ Nx : Hp → Prop, (∀ H', Nx H' → ∃ m', m' < m ∧ W (i + 1) m' H') ∧ ∀ x H', J.yld i H x H' → (gName j) x (wipe σ [j]) H' fun σ2 H2 => wipe σ2 [j] = wipe σ [j] ∧ tt σ2 H2 fun b H3 =>
        if b = true then (tVar j) σ2 H3 fun y H4 => ∃ acc, H4 D = some (.lst acc) ∧ acc.length < sizeLine ∧ Nx (upd H4 D (.lst (acc ++ [y]))) else Nx H3) := by
  have hxl := hr.len
  refine lc_it wk (fun i H' => Same H H' ∧ ∃ ys, H' D = some (.lst ys) ∧ RowsAt H' ys ((rows.take i).filter φ)) ⟨same_new nD _, [], upd_same, .nil⟩ (fun i H' _ ⟨s1, _⟩ => hG _ s1) ?_ ?_
  · rintro i v H1 H1' hi ⟨s1, ys, e1, hys⟩ ⟨rfl, hv⟩
    obtain ⟨p, r, rfl, er, ep⟩ := hr.get hv
    have hi : i < rows.length := (List.getElem?_eq_some_iff.mp er).1
    refine ⟨(hw _).1, htt p r H1' _ s1 (s1 _ _ ep) ?_⟩
    cases e : φ r with
    | true =>
      rw [if_pos rfl]
      have k1 : KeepT H1' (upd H1' D (.lst (ys ++ [.ref p]))) := KeepT.upd ⟨_, e1⟩
      refine ⟨_, (hw _).2, _, e1, ?_, same_upd s1 nD _, ys ++ [.ref p], upd_same, ?_⟩
      · have h1 := hys.len
        have h2 := List.length_filter_le φ (rows.take i)
        rw [List.length_take] at h2
        rw [h1]
        exact Nat.lt_of_le_of_lt (by omega : _ ≤ 100000) (by decide)
      · rw [filt_snocR er, e, if_pos rfl]
        exact (hys.keep k1).app (.one (k1.1 _ _ (s1 _ _ ep)))
    | false =>
      rw [if_neg (by decide)]
      refine ⟨s1, ys, e1, ?_⟩
      rw [filt_snocR er, e, if_neg (by decide), List.append_nil]
      exact hys
  · rintro H1 ⟨s1, ys, e1, hys⟩
    rw [hxl, List.take_length] at hys
    exact hd _ ys s1 e1 hys
theorem prog_bodyC {k : Str} {d : PyData} (h : isProg (.tuple [.str k, d]) = true) : ∃ c, bodyN k 4 d = some c ∧ c ≤ 24 := by
  have h' : (inS (.str k) kinds && okN 0 (bodyN k 4 d)) = true := h
  rw [Bool.and_eq_true] at h'
  cases e : bodyN k 4 d with
  | none => rw [e] at h'; cases h'.2
  | some c =>
    rw [e] at h'
    have hc : 0 + c ≤ 24 := of_decide_eq_true h'.2
    exact ⟨c, rfl, by omega⟩
theorem dpAll_atC {K : PySem.W.Frag} {H : Hp} {xs : List V} {code : List Ins} (h : DpAll K H xs (code.map Ins.toD)) (pc : Nat) : (code[pc]? = none ∧ xs[pc]? = none) ∨ ∃ i v, code[pc]? = some i ∧ xs[pc]? = some v ∧ Dp K H v i.toD := by
  have hl := dpAll_len h
  rw [List.length_map] at hl
  by_cases c : pc < code.length
  · have e : xs[pc]? = some xs[pc] := List.getElem?_eq_getElem (by omega)
    obtain ⟨d, hd, hx⟩ := dpAll_get h e
    rw [List.getElem?_map] at hd
    have e2 : code[pc]? = some code[pc] := List.getElem?_eq_getElem c
    rw [e2] at hd
    have ed : code[pc].toD = d := by injection hd
    subst ed
    exact .inr ⟨code[pc], _, e2, e, hx⟩
  · exact .inl ⟨List.getElem?_eq_none (by omega), List.getElem?_eq_none (by omega)⟩
theorem imp_of {P Q : Prop} (f : P → Q) (p : P) : Q := f p
/-! ### the law's own listing -/
abbrev nsLL : List Str := ["_law_program_here", "_law_code_here", "_law_state", "_law_steps_here", "_law_counter", "_law_seen", "_law_listed", "_law_step", "_law_old", "_law_head", "_law_pair"]
/-- the four parts of a list as a tuple -/
def TupL (K : PySem.W.Frag) (H : Hp) (t : Addr) (L : LP) : Prop := ∃ (h c : Addr) (xs ys : List V), H t = some (.tup [.ref h, .ref c, .int (lpPer L), .int (lpShift L)]) ∧ H h = some (.lst xs) ∧ H c = some (.lst ys) ∧ DpAll K (tupH H) xs ((lpHead L).map rowD) ∧ DpAll K (tupH H) ys ((lpCycle L).map rowD)
def TupLR (K : PySem.W.Frag) (H : Hp) (t : Addr) (L : LP) : Prop := ∃ (h c : Addr) (xs ys : List V), H t = some (.tup [.ref h, .ref c, .int (lpPer L), .int (lpShift L)]) ∧ H h = some (.lst xs) ∧ H c = some (.lst ys) ∧ RowsAt H xs (lpHead L) ∧ RowsAt H ys (lpCycle L)
theorem TupLR.a {K : PySem.W.Frag} {H : Hp} {t : Addr} {L : LP} (h : TupLR K H t L) : TupL K H t L := by
  obtain ⟨hd, cy, xs, ys, h1, h2, h3, h4, h5⟩ := h
  exact ⟨hd, cy, xs, ys, h1, h2, h3, h4.dp, h5.dp⟩
def spLL (K : PySem.W.Frag) : Sp := fun vs H Q _ => ∃ (v : V) (d : PyData) (code : List Ins), vs = [v] ∧ Dp K H v (.tuple [.str "collector", d]) ∧ Lay (.tuple [.str "collector", d]) ∧ noL d = true ∧ isProg (.tuple [.str "collector", d]) = true ∧ bodyC 4 0 d = code.map Ins.toD ∧ (∀ i ∈ code, i.ok "collector") ∧ (∀ i ∈ code, i.tgt ≤ code.length) ∧
  ∀ H' t, Same H H' → H t = none → TupLR K H' t (runL code) → Q (.ref t) H'
structure LawL (K : PySem.W.Frag) (H0 H : Hp) (st sn li : Addr) (code : List Ins) (R : LP) (m : Nat) (s : S3) (t ct : Int) (seen : List (S3 × (Int × Int))) (rows : List (Int × Int)) : Prop where
  sm : Same H0 H
  ns : H0 sn = none
  nl : H0 li = none
  st : H st = some (.tup ((keyOf s).map kV))
  se : ∃ kvs, H sn = some (.dT kvs) ∧ SeenL H kvs seen
  ro : ∃ xs, H li = some (.lst xs) ∧ RowsAt H xs rows
  nd : (seen.map (·.1)).Nodup
  ok : ∀ e ∈ seen, okS3 code e.1
  i16 : in16 s.a s.b
  rl : rows.length ≤ seen.length
  eq : loopL code m s t ct seen rows = R
  fu : m + seen.length = fuel code
  le : s.pc ≤ code.length
def tupLst : HO → Prop
  | .tup _ => True
  | .lst _ => True
  | .frz _ _ => True
  | _ => False
theorem imp_ofI {P G : Int → Prop} {Q : Prop} (f : (∀ z, G z → P z) → Q) (p : ∀ z, G z → P z) : Q := f p
theorem imp_ofH {P G : Hp → Prop} {Q : Prop} (f : (∀ H, G H → P H) → Q) (p : ∀ H, G H → P H) : Q := f p
section
variable {P : Program} {w : World} {K : PySem.W.Frag} {mg : Str → Option Value} {base : Heap}
end
/-! ### the program's list_parts -/
abbrev sLPt : Stmt := top 41
abbrev nsLPt : List Str := ["code", "walk", "rows", "before", "instruction", "first", "counter", "head", "cycle", "row"]
theorem madeC_same {H H' : Hp} {x dx C : Addr} (nx : H x = none) (ndx : H dx = none) (f : Fx [x] (upd (upd H dx (.own x)) x (.ins C dx [])) H') : Same H H' := fun p o e => by
  have h1 : p ≠ x := ne_of_none e nx
  refine f p o (by simp; exact h1) ?_
  rw [upd_ne h1, upd_ne (ne_of_none e ndx)]
  exact e
/-- .. whose lists are new, and two -/
def TupLN (K : PySem.W.Frag) (H0 H : Hp) (t : Addr) (L : LP) : Prop := ∃ (h c : Addr) (xs ys : List V), H t = some (.tup [.ref h, .ref c, .int (lpPer L), .int (lpShift L)]) ∧ H h = some (.lst xs) ∧ H c = some (.lst ys) ∧ RowsAt H xs (lpHead L) ∧ RowsAt H ys (lpCycle L) ∧ H0 h = none ∧ H0 c = none ∧ h ≠ c
def spLPt (K : PySem.W.Frag) : Sp := fun vs H Q _ => ∃ (cd : Addr) (xs : List V) (code : List Ins), vs = [.ref cd] ∧ SqL K H cd xs ∧ DpAll K H xs (code.map Ins.toD) ∧ (∀ i ∈ code, i.ok "collector") ∧ code.length ≤ 100 ∧
  ∀ H' t, Same H H' → H t = none → TupLN K H H' t (runL code) → Q (.ref t) H'
/-- the state of the loop: the state stands noted, or was met before -/
structure PrtI (K : PySem.W.Frag) (H0 H : Hp) (C wk dx cd hd sn li : Addr) (code : List Ins) (R : LP) (m : Nat) (s : S3) (t ct : Int) (seen : List (S3 × (Int × Int))) (rows : List (Int × Int)) (bf : V) : Prop where
  sm : Same H0 H
  nw : H0 wk = none
  nh : H0 hd = none
  ns : H0 sn = none
  nl : H0 li = none
  wa : WkA K H C wk dx cd hd sn s.pc s.a s.b ct t []
  ro : ∃ xs, H li = some (.lst xs) ∧ RowsAt H xs rows
  nd : (seen.map (·.1)).Nodup
  ok : ∀ e ∈ seen, okS3 code e.1
  i16 : in16 s.a s.b
  rl : rows.length ≤ seen.length
  eq : loopL code (m + 1) s t ct seen rows = R
  fu : m + 1 + seen.length = fuel code
  bf : (bf = .non ∧ lookL s seen = none ∧ ∃ kvs, H sn = some (.dT kvs) ∧ SeenL H kvs (seen ++ [(s, (t, ct))])) ∨ ∃ r f c, bf = .ref r ∧ lookL s seen = some (f, c) ∧ H r = some (.tup [.int f, .int c])
/-- ahead of a look at the state -/
structure PreI (K : PySem.W.Frag) (H0 H : Hp) (C wk dx cd hd sn li : Addr) (code : List Ins) (R : LP) (m : Nat) (s : S3) (t ct : Int) (seen : List (S3 × (Int × Int))) (rows : List (Int × Int)) (kvs : List (List Key × V)) : Prop where
  sm : Same H0 H
  nw : H0 wk = none
  nh : H0 hd = none
  ns : H0 sn = none
  nl : H0 li = none
  wa : WkA K H C wk dx cd hd sn s.pc s.a s.b ct t []
  ro : ∃ xs, H li = some (.lst xs) ∧ RowsAt H xs rows
  nd : (seen.map (·.1)).Nodup
  ok : ∀ e ∈ seen, okS3 code e.1
  i16 : in16 s.a s.b
  rl : rows.length ≤ seen.length
  eq : loopL code (m + 1) s t ct seen rows = R
  fu : m + 1 + seen.length = fuel code
  sn0 : H sn = some (.dT kvs)
  se : SeenL H kvs seen
section
variable {K : PySem.W.Frag} {H0 H H' : Hp} {C wk dx cd hd sn li : Addr} {code : List Ins} {R : LP} {m : Nat} {s : S3} {t ct : Int} {seen : List (S3 × (Int × Int))} {rows : List (Int × Int)} {kvs : List (List Key × V)} {r : Addr}
theorem PreI.met (L : PreI K H0 H C wk dx cd hd sn li code R m s t ct seen rows kvs) (hv : valV kvs (keyOf s) = some (.ref r)) (u : Same H H') : PrtI K H0 H' C wk dx cd hd sn li code R m s t ct seen rows (.ref r) := by
  obtain ⟨xs, e, d⟩ := L.ro
  refine ⟨L.sm.trans u, L.nw, L.nh, L.ns, L.nl, ⟨u _ _ L.wa.ob, u _ _ L.wa.hl⟩, ⟨xs, u _ _ e, d.keep (KeepT.of u)⟩, L.nd, L.ok, L.i16, L.rl, L.eq, L.fu, .inr ?_⟩
  rcases L.se.look s with ⟨h1, _⟩ | ⟨r', f, c, h1, h2, h3⟩
  · rw [h1] at hv; cases hv
  · rw [h1] at hv
    have e : r' = r := by injection hv with hv; injection hv
    subst e
    exact ⟨r', f, c, rfl, h2, u _ _ h3⟩
theorem PreI.new (L : PreI K H0 H C wk dx cd hd sn li code R m s t ct seen rows kvs) (hv : valV kvs (keyOf s) = none) (f : Fx [sn] H H') (e : H' sn = some (.dT (kvs ++ [(keyOf s, .ref r)]))) (er : H' r = some (.tup [.int t, .int ct])) : PrtI K H0 H' C wk dx cd hd sn li code R m s t ct seen rows .non := by
  obtain ⟨xs, el, d⟩ := L.ro
  have no : ∀ {q : Addr} {o : HO}, H q = some o → (∀ kv, o ≠ .dT kv) → H' q = some o := fun {q o} h n => f q o (fun mq => by
    rw [List.mem_singleton.mp mq, L.sn0] at h
    injection h with h
    exact n _ h.symm) h
  have k : KeepT H H' := ⟨fun x ys h => no h (fun _ z => nomatch z), fun x o u h => no h (fun _ z => nomatch z)⟩
  have hl0 : lookL s seen = none := by
    rcases L.se.look s with ⟨_, h2⟩ | ⟨r', f', c, h1, _, _⟩
    · exact h2
    · rw [h1] at hv; cases hv
  exact ⟨f.same L.sm (fun q mq => by rw [List.mem_singleton.mp mq]; exact L.ns), L.nw, L.nh, L.ns, L.nl, ⟨no L.wa.ob (fun _ z => nomatch z), no L.wa.hl (fun _ z => nomatch z)⟩, ⟨xs, no el (fun _ z => nomatch z), d.keep k⟩, L.nd, L.ok, L.i16, L.rl, L.eq, L.fu, .inl ⟨rfl, hl0, _, e, (L.se.keep k).snoc er⟩⟩
end
section
variable {P : Program} {w : World} {K : PySem.W.Frag} {mg : Str → Option Value} {base : Heap}
theorem scLPt : FnScope nsLPt ["code"] (defScope sLPt) := ⟨rfl, rfl, rfl, by decide +kernel, rfl, by decide +kernel, by decide +kernel⟩
theorem ok_LPt {f C fI : Addr} {fd dI : FuncData} (F : Fun K "list_parts" "list_parts" sLPt f fd) (T : WC K C) (gC : mg "Walk" = some (.ref C)) (M : Mk K C fI) (GI : FnOk P w K mg base CX0 1 fI dI ["self", "code"] (spWI K C)) (bI : Binds K dI ["self", "code"] [])
    (ME : MCal P w K mg base 1 C "earlier" ["self"] (spEar K C)) (MU : MCal P w K mg base 1 C "upcoming" ["self"] (spUp K C)) (MT : MCal P w K mg base 4 C "take" ["self", "instruction"] (spTake K C)) (MW : MCal P w K mg base 1 C "worth" ["self", "term"] (spWorth K C)) :
    FnOk P w K mg base CX0 5 f fd ["code"] (spLPt K) := by
  refine F.ok scLPt (fun vs H Q E h => ?_) (fun cdv A outer s H vs Q E hr h => ?_)
  · obtain ⟨cd, xs, code, rfl, _⟩ := h
    rfl
  obtain ⟨cd, xs, code, rfl, hcd, hxs, hok, hcl, q⟩ := h
  have hr1 : Room 1 _ := hr.mono (by decide)
  have hr2 : Room 2 _ := hr.mono (by decide)
  refine ⟨_, pss_cons (ps_set (i := 1) scLPt.nd rfl (.inl rfl) (pe_make M GI hr2 rfl gC bI .nil pass0 (pa_cons (pv 0) pa_nil)))
    (pss_cons (ps_set (i := 2) scLPt.nd rfl (.inl rfl) (pe_lst pa_nil))
    (pss_cons (ps_set (i := 3) scLPt.nd rfl (.inl rfl) (pe_meth0 (pv 1) T.cl ME.m ME.G hr1 ME.b .nil pass0))
    (pss_cons (ps_set (i := 4) scLPt.nd rfl (.inl rfl) (pe_meth0 (pv 1) T.cl MU.m MU.G hr1 MU.b .nil pass0))
    (pss_cons (ps_while PassesOwn.never (PW.pt (pw_and (pt_cmpR op_isN (pv 3) pe_non (nomark _)) (pw_and1 (pt_cmpR op_notN (pv 4) pe_non (nomark _)))))
      (pss_cons (ps_expr (pe_meth (pv 1) T.cl MT.m MT.G hr MT.b .nil pass0 (pa_cons (pv 4) pa_nil)))
      (pss_cons (ps_if (pt_cmpR op_eq (pe_ix ix_tup (pv 4) pe_int (fun _ _ => rfl)) pe_str (nomark _)) (pss_one (ps_expr (pe_bm PySem.F.plainAttrs_list PySem.F.slot_list_append PySem.F.type_list_append mt_append (pv 2) (pa_cons (pe_tup (pa_cons (pe_fld (pv 1) rfl) (pa_cons (pe_op op_add (pe_fld (pv 1) rfl) (pe_meth (pv 1) T.cl MW.m MW.G hr1 MW.b .nil pass0 (pa_cons (pe_ix ix_tup (pv 4) pe_int (fun _ _ => rfl)) pa_nil))) pa_nil))) pa_nil)))) pss_nil)
      (pss_cons (ps_set (i := 3) scLPt.nd rfl (.inl rfl) (pe_meth0 (pv 1) T.cl ME.m ME.G hr1 ME.b .nil pass0))
      (pss_one (ps_set (i := 4) scLPt.nd rfl (.inl rfl) (pe_meth0 (pv 1) T.cl MU.m MU.G hr1 MU.b .nil pass0)))))))
    (pss_cons (ps_if (pt_cmpR op_isN (pv 3) pe_non (nomark _)) (pss_one (ps_ret (pe_tup (pa_cons (pv 2) (pa_cons (pe_lst pa_nil) (pa_cons pe_int (pa_cons pe_int pa_nil))))))) pss_nil)
    (pss_cons (ps_asg (pv 3) (pg_tup (by rfl) (pgs_cons (pg_name (i := 5) scLPt.nd rfl (.inr rfl)) (pgs_cons (pg_name (i := 6) scLPt.nd rfl (.inl rfl)) pgs_nil))))
    (pss_cons (ps_setLc (i := 7) (own := [("row", 9)]) (g := gName 9) rfl scLPt.nd rfl rfl (sw_true rfl rfl rfl (by decide +kernel)) (pi_list (pv 2)) (blkOk_by (N := nsLPt) (sc := defScope sLPt) (by decide +kernel))
        (fun _ _ _ _ _ => pg_name (i := 9) scLPt.nd rfl (.inl rfl)) (fun _ _ _ _ _ => (pts_one (pt_cmpR op_le (pe_ix (r := rIxT K) ix_tup (pv 9) pe_int (fun _ _ => rfl)) (pv 5) (nomark _)))) (fun _ _ _ _ _ => pv 9))
    (pss_cons (ps_setLc (i := 8) (own := [("row", 9)]) (g := gName 9) rfl scLPt.nd rfl rfl (sw_true rfl rfl rfl (by decide +kernel)) (pi_list (pv 2)) (blkOk_by (N := nsLPt) (sc := defScope sLPt) (by decide +kernel))
        (fun _ _ _ _ _ => pg_name (i := 9) scLPt.nd rfl (.inl rfl)) (fun _ _ _ _ _ => (pts_one (pt_cmpR op_gt (pe_ix (r := rIxT K) ix_tup (pv 9) pe_int (fun _ _ => rfl)) (pv 5) (nomark _)))) (fun _ _ _ _ _ => pv 9))
    (pss_one (ps_ret (pe_tup (pa_cons (pv 7) (pa_cons (pv 8) (pa_cons (pe_op op_sub (pe_fld (pv 1) rfl) (pv 5)) (pa_cons (pe_op op_sub (pe_fld (pv 1) rfl) (pv 6)) pa_nil))))))))))))))), ?_⟩
  have noM0 : noM [] := ⟨rfl, rfl, rfl, rfl, rfl, rfl, by decide⟩
  refine ⟨_, rfl, fun wk dx nw ndx nxd => ?_⟩
  refine ⟨wk, dx, cd, rfl, upd_same, fun H1 hd sn f1 nhd nsn nhs wa1 e1 => ⟨rfl, ?_⟩⟩
  have s1 : Same H H1 := madeC_same nw ndx f1
  have fr : ∀ p, (upd (upd H dx (.own wk)) wk (.ins C dx [])) p = none → H p = none := fun p e => by
    cases z : H p with
    | none => rfl
    | some o =>
      have h1 : p ≠ wk := ne_of_none z nw
      rw [upd_ne h1, upd_ne (ne_of_none z ndx)] at e
      rw [z] at e
      cases e
  refine ⟨(by show 0 ≤ sizeLine; decide), fun li nli => ?_⟩
  have u2 := same_new nli (.lst [])
  have eli2 : (upd H1 li (.lst [])) li = some (.lst []) := upd_same
  generalize upd H1 li (.lst []) = H2 at u2 eli2 ⊢
  have wa2 : WkA K H2 C wk dx cd hd sn 0 0 0 0 0 [] := ⟨u2 _ _ wa1.ob, u2 _ _ wa1.hl⟩
  have nHli : H li = none := s1.free nli
  have xl : xs.length = code.length := by
    have := dpAll_len hxs
    rwa [List.length_map] at this
  have P0 : PreI K H H2 C wk dx cd hd sn li code (runL code) (code.length * 256) ⟨0, 0, 0⟩ 0 0 [] [] [] := ⟨s1.trans u2, nw, fr hd nhd, fr sn nsn, nHli, wa2, ⟨[], eli2, .nil⟩, List.nodup_nil, (fun e m => nomatch m), ⟨⟨by decide, by decide⟩, by decide, by decide⟩, Nat.le_refl _, rfl, rfl, u2 _ _ e1, .nil⟩
  -- what follows a look at the state
  have Inv0 : ∀ (H3 : Hp) (bf : V) (s' : S3) (m : Nat) (t ct : Int) (seen : List (S3 × (Int × Int))) (rows : List (Int × Int)), PrtI K H H3 C wk dx cd hd sn li code (runL code) m s' t ct seen rows bf → SqL K H3 cd xs := fun H3 bf s' m t ct seen rows L => L.sm.seq hcd
  refine ⟨_, rfl, wk, dx, _, rfl, wa2.ob, rfl, wk, dx, cd, hd, sn, 0, 0, 0, 0, 0, [], [], rfl, wa2, u2 _ _ e1, by decide, (fun p m => nomatch m), fun r hv H3 s3 => ?_, fun hv H3 r f3 e3 nr er => ?_⟩
  · cases hv
  have L3 := P0.new hv f3 e3 er
  refine ⟨_, rfl, wk, dx, _, rfl, L3.wa.ob, rfl, wk, dx, cd, hd, sn, 0, 0, 0, 0, 0, [], xs, rfl, L3.wa, Inv0 _ _ _ _ _ _ _ _ L3, ?_⟩
  refine seq_while ?_
  refine while_m (fun k σ H' => ∃ (s' : S3) (t ct : Int) (seen : List (S3 × (Int × Int))) (rows : List (Int × Int)) (bf : V), σ = [some (.ref cd), some (.ref wk), some (.ref li), some bf, some (itemV xs[s'.pc]?), none, none, none, none, none] ∧ PrtI K H H' C wk dx cd hd sn li code (runL code) k s' t ct seen rows bf) (m0 := code.length * 256)
    ⟨⟨0, 0, 0⟩, 0, 0, [], [], .non, rfl, L3⟩ ?step ?mono
  case mono =>
    rintro σ H' Q1 Q2 h ⟨v1, e1, e2, b1, e3, r⟩
    refine ⟨v1, e1, e2, b1, e3, ?_⟩
    by_cases c : b1 = true
    · dsimp only at r ⊢
      rw [if_pos c] at r ⊢
      obtain ⟨v2, e4, e5, b2, e6, r⟩ := r
      exact ⟨v2, e4, e5, b2, e6, h _ _ r⟩
    · dsimp only at r ⊢
      rw [if_neg c] at r ⊢
      exact h _ _ r
  case step =>
    rintro k σ H' ⟨s', t, ct, seen, rows, bf, rfl, L⟩
    have hEq := L.eq
    rw [loopL_eq] at hEq
    have few := few_states L.nd (fun s0 m0 => by obtain ⟨e, me, rfl⟩ := List.mem_map.mp m0; exact L.ok e me)
    rw [List.length_map] at few
    obtain ⟨rs, eli, hrs⟩ := L.ro
    have hrl : rows.length ≤ 100000 := by have := L.rl; omega
    refine ⟨_, rfl, rfl, _, rfl, ?_⟩
    rcases L.bf with ⟨rfl, hl0, kvs, hsn, hse⟩ | ⟨r0, f0, c0, rfl, hl0, er0⟩
    · rw [hl0] at hEq
      refine ite2 (fun _ => ?_) (fun c => absurd (decide_eq_true rfl) c)
      refine ⟨_, rfl, rfl, _, rfl, ?_⟩
      rcases dpAll_atC hxs s'.pc with ⟨ec, ex⟩ | ⟨i, v, ec, ex, hdv⟩
      · rw [ec] at hEq
        rw [ex]
        refine ite2 (fun c => absurd c (by rw [show itemV none = V.non from rfl, decide_eq_true rfl]; decide)) (fun _ => ?_)
        refine ⟨_, rfl, rfl, _, rfl, ite2 (fun _ => ?_) (fun c => absurd (decide_eq_true rfl) c)⟩
        refine ⟨_, rfl, (by show 0 ≤ sizeLine; decide), fun lc nlc => ⟨(by show 4 ≤ sizeLine; decide), fun tt ntt => ?_⟩⟩
        have u5 := same_new nlc (.lst [])
        have e5 : (upd H' lc (.lst [])) lc = some (.lst []) := upd_same
        generalize upd H' lc (.lst []) = H5 at u5 e5 ntt ⊢
        have u6 := same_new ntt (.tup [.ref li, .ref lc, .int 0, .int 0])
        refine q _ tt (L.sm.trans (u5.trans u6)) ((L.sm.trans u5).free ntt) ?_
        rw [← hEq]
        exact ⟨li, lc, rs, [], upd_same, u6 _ _ (u5 _ _ eli), u6 _ _ e5, hrs.keep (KeepT.of (u5.trans u6)), .nil, L.nl, L.sm.free nlc, ne_of_none eli nlc⟩
      · rw [ec] at hEq
        dsimp only at hEq
        rw [ex]
        have hi := hok i (List.mem_of_getElem? ec)
        have hlt : s'.pc < code.length := (List.getElem?_eq_some_iff.mp ec).1
        obtain ⟨p, xr, rfl, hsp, hap⟩ := ins_inv hdv
        refine ite2 (fun _ => ?_) (fun c => absurd (by rw [show itemV (some (V.ref p)) = V.ref p from rfl, decide_eq_false (fun z => nomatch z)]; rfl) c)
        -- the step is taken
        refine ⟨_, rfl, wk, dx, _, rfl, L.wa.ob, rfl, _, rfl, wk, dx, cd, hd, sn, s'.pc, s'.a, s'.b, ct, t, [], .ref p, i, "collector", rfl, L.wa, noM0, dp_mono L.sm _ _ hdv, hi, fun H4 f4 w4 => ?_⟩
        have no4 : ∀ {q : Addr} {o : HO}, H' q = some o → (∀ c d f, o ≠ .ins c d f) → (∀ kv, o ≠ .dK kv) → H4 q = some o := fun {q o} h n1 n2 => f4 q o (fun mq => by
          simp only [List.mem_cons, List.not_mem_nil, or_false] at mq
          rcases mq with e | e
          · rw [e, L.wa.ob] at h
            injection h with h
            exact n1 _ _ _ h.symm
          · rw [e, L.wa.hl] at h
            injection h with h
            exact n2 _ h.symm) h
        have sm4 : Same H H4 := f4.same L.sm (fun q mq => by
          simp only [List.mem_cons, List.not_mem_nil, or_false] at mq
          rcases mq with rfl | rfl
          · exact L.nw
          · exact L.nh)
        have k4 : KeepT H' H4 := ⟨fun x ys h => no4 h (fun _ _ _ z => nomatch z) (fun _ z => nomatch z), fun x o u h => no4 h (fun _ _ _ z => nomatch z) (fun _ z => nomatch z)⟩
        have eli4 := no4 eli (fun _ _ _ z => nomatch z) (fun _ z => nomatch z)
        have esn4 := no4 hsn (fun _ _ _ z => nomatch z) (fun _ z => nomatch z)
        have hrs4 := hrs.keep k4
        have hse4 := hse.keep k4
        have hsp4 := Same.tup sm4 hsp
        refine ⟨_, rfl, p, _, _, _, rfl, rfl, hsp4, atI_nat (j := 0) rfl, rfl, _, rfl, ?_⟩
        have hcase3 : (i.word = "list" ∧ ∃ x d, xr = [x] ∧ Dp K H x d ∧ isTerm d = true ∧ rowsOf t ct s' i = [(t + i.cost, ct + i.grown s'.a s'.b + tval (i.held s'.a s'.b).1 (i.held s'.a s'.b).2 d)]) ∨ (¬ i.word = "list" ∧ rowsOf t ct s' i = []) := by
          cases i with
          | lst d =>
            obtain ⟨y, rfl, hy⟩ := dp_solo hap
            refine .inl ⟨rfl, y, d, rfl, hy, hi.2, ?_⟩
            show [(t + 1, ct + tval s'.a s'.b d)] = [(t + 1, ct + 0 + tval s'.a s'.b d)]
            rw [Int.add_zero]
          | _ => exact .inr ⟨by simp only [Ins.word]; decide +kernel, rfl⟩
        refine imp_ofH (P := ?P3) (G := fun Hx => Fx [li] H4 Hx ∧ ∃ rs', Hx li = some (.lst rs') ∧ RowsAt Hx rs' (rows ++ rowsOf t ct s' i)) ?f3 ?r3
        case f3 =>
          intro rr
          rcases hcase3 with ⟨hw, x, dd, hx, hdx, htx, hn⟩ | ⟨hw, hn⟩
          · refine ite2 (fun _ => ?_) (fun c => absurd (decide_eq_true (by rw [hw])) c)
            refine ⟨_, rfl, .inl ⟨rfl, _, SqL.of eli4⟩, _, rfl, wk, C, dx, _, _, rfl, w4.ob, T.cl, T.nTak, rfl, _, rfl, wk, C, dx, _, _, rfl, w4.ob, T.cl, T.nCnt, rfl, _, rfl, wk, dx, _, rfl, w4.ob, rfl, _, rfl, p, _, _, x, rfl, rfl, hsp4, atI_nat (j := 1) (by rw [hx]; rfl), wk, dx, cd, hd, sn, _, _, _, _, _, [], x, dd, rfl, w4, dp_mono sm4 _ _ hdx, htx, _, _, rfl, rfl, (by show 2 ≤ sizeLine; decide), fun rp nrp => ?_⟩
            have er7 : (upd H4 rp (.tup [.int (t + i.cost), .int (ct + i.grown s'.a s'.b + tval (i.held s'.a s'.b).1 (i.held s'.a s'.b).2 dd)])) rp = some (.tup [.int (t + i.cost), .int (ct + i.grown s'.a s'.b + tval (i.held s'.a s'.b).1 (i.held s'.a s'.b).2 dd)]) := upd_same
            have u7 := same_new nrp (.tup [.int (t + i.cost), .int (ct + i.grown s'.a s'.b + tval (i.held s'.a s'.b).1 (i.held s'.a s'.b).2 dd)])
            generalize upd H4 rp (.tup [.int (t + i.cost), .int (ct + i.grown s'.a s'.b + tval (i.held s'.a s'.b).1 (i.held s'.a s'.b).2 dd)]) = H7 at er7 u7 ⊢
            have eli7 := u7 _ _ eli4
            have hrl' := hrs.len
            refine ⟨li, _, _, rfl, rfl, eli7, ?_, ?_⟩
            · rw [hrl']; exact Nat.lt_of_le_of_lt hrl (by decide)
            have k8 : KeepT H7 (upd H7 li (.lst (rs ++ [.ref rp]))) := KeepT.upd ⟨_, eli7⟩
            have hG : Fx [li] H4 (upd H7 li (.lst (rs ++ [.ref rp]))) ∧ ∃ rs', (upd H7 li (.lst (rs ++ [.ref rp]))) li = some (.lst rs') ∧ RowsAt (upd H7 li (.lst (rs ++ [.ref rp]))) rs' (rows ++ rowsOf t ct s' i) := by
              refine ⟨(Fx.of u7).trans (Fx.upd (by simp)), rs ++ [.ref rp], upd_same, ?_⟩
              rw [hn]
              exact (hrs4.keep ((KeepT.of u7).trans k8)).app (.one (k8.1 _ _ er7))
            generalize upd H7 li (.lst (rs ++ [.ref rp])) = H8 at hG ⊢
            exact rr H8 hG
          · refine strF hw ?_
            exact rr H4 ⟨fun q o _ e => e, rs, eli4, by rw [hn, List.append_nil]; exact hrs4⟩
        case r3 =>
        rintro H8 ⟨fx8, rs8, eli8, dp8⟩
        have no8 : ∀ {q : Addr} {o : HO}, H4 q = some o → (∀ l, o ≠ .lst l) → H8 q = some o := fun {q o} h n => fx8 q o (fun mq => by
          rw [List.mem_singleton.mp mq, eli4] at h
          injection h with h
          exact n _ h.symm) h
        have k8 : KeepT H4 H8 := ⟨fun x ys h => no8 h (fun _ z => nomatch z), fun x o u h => no8 h (fun _ z => nomatch z)⟩
        have nd2 : ((seen ++ [(s', (t, ct))]).map (·.1)).Nodup := by
          rw [List.map_append, List.nodup_append]
          refine ⟨L.nd, List.nodup_cons.mpr ⟨(fun z => nomatch z), List.nodup_nil⟩, fun a1 h1 b1 h2 e => ?_⟩
          have e2 : b1 = s' := by simpa using h2
          rw [e, e2] at h1
          exact lookL_none hl0 h1
        have ok2' : ∀ e ∈ seen ++ [(s', (t, ct))], okS3 code e.1 := by
          intro e me
          rcases List.mem_append.mp me with me | me
          · exact L.ok e me
          · rw [List.mem_singleton.mp me]
            exact ⟨hlt, L.i16⟩
        have few2 := few_states nd2 (fun s0 m0 => by obtain ⟨e, me, rfl⟩ := List.mem_map.mp m0; exact ok2' e me)
        rw [List.length_map, List.length_append, List.length_singleton] at few2
        obtain ⟨k', rfl⟩ : ∃ k', k = k' + 1 := ⟨k - 1, by have := L.fu; unfold fuel at this; omega⟩
        have L8 : PreI K H H8 C wk dx cd hd sn li code (runL code) k' (nextL s' i) (t + i.cost) (ct + i.grown s'.a s'.b) (seen ++ [(s', (t, ct))]) (rows ++ rowsOf t ct s' i) kvs := by
          refine ⟨fx8.same sm4 (fun q m => by rw [List.mem_singleton.mp m]; exact L.nl), L.nw, L.nh, L.ns, L.nl, ⟨no8 w4.ob (fun _ z => nomatch z), no8 w4.hl (fun _ z => nomatch z)⟩, ⟨rs8, eli8, dp8⟩, nd2, ok2', held16 hi L.i16, ?_, hEq, ?_, no8 esn4 (fun _ z => nomatch z), hse4.keep k8⟩
          · have h1 : (rowsOf t ct s' i).length ≤ 1 := by cases i <;> first | exact Nat.le_refl 1 | exact Nat.zero_le 1
            have := L.rl
            rw [List.length_append, List.length_append]
            show _ ≤ seen.length + 1
            omega
          · have := L.fu
            rw [List.length_append]
            show k' + 1 + (seen.length + 1) = _
            omega
        have hlen8 := L8.se.len
        rw [List.length_append, List.length_singleton] at hlen8
        refine ⟨_, rfl, wk, dx, _, rfl, L8.wa.ob, rfl, wk, dx, cd, hd, sn, _, _, _, _, _, [], kvs, rfl, L8.wa, L8.sn0, by omega, L8.se.refs, fun r hv H9 u9 => ?_, fun hv H9 r f9 e9 nr er => ?_⟩
        · have L9 := L8.met hv u9
          exact ⟨_, rfl, wk, dx, _, rfl, L9.wa.ob, rfl, wk, dx, cd, hd, sn, _, _, _, _, _, [], xs, rfl, L9.wa, Inv0 _ _ _ _ _ _ _ _ L9, k', Nat.lt_succ_self _, nextL s' i, _, _, _, _, _, rfl, L9⟩
        · have L9 := L8.new hv f9 e9 er
          exact ⟨_, rfl, wk, dx, _, rfl, L9.wa.ob, rfl, wk, dx, cd, hd, sn, _, _, _, _, _, [], xs, rfl, L9.wa, Inv0 _ _ _ _ _ _ _ _ L9, k', Nat.lt_succ_self _, nextL s' i, _, _, _, _, _, rfl, L9⟩
    · rw [hl0] at hEq
      refine ite2 (fun c => absurd (of_decide_eq_true c) (fun z => nomatch z)) (fun _ => ?_)
      refine ⟨_, rfl, rfl, _, rfl, ite2 (fun c => absurd (of_decide_eq_true c) (fun z => nomatch z)) (fun _ => ?_)⟩
      refine ⟨_, rfl, r0, _, rfl, SqT.of er0, rfl, _, _, rfl, _, _, rfl, rfl, ?_⟩
      refine ⟨_, rfl, li, rfl, ⟨_, SqL.of eli⟩, fun D1 nD1 => lc_rowsW (walk_list (K := K) (a := li) (xs := rs)) (rows := rows) (φ := fun r => decide (r.1 ≤ f0)) (fun Hx sx => SqL.of (sx _ _ eli)) (fun _ => ⟨rfl, rfl⟩) (fun p r Hx Qx sx hp qx => ⟨_, rfl, p, _, _, _, rfl, rfl, SqT.of hp, atI_nat (j := 0) rfl, _, rfl, _, _, rfl, rfl, _, rfl, qx⟩) hrs hrl nD1 (fun H5 hs5 u5 e5 dp5 => ?_)⟩
      refine ⟨_, rfl, li, rfl, ⟨_, SqL.of (u5 _ _ eli)⟩, fun D2 nD2 => lc_rowsW (walk_list (K := K) (a := li) (xs := rs)) (rows := rows) (φ := fun r => decide (f0 < r.1)) (fun Hx sx => SqL.of (sx _ _ (u5 _ _ eli))) (fun _ => ⟨rfl, rfl⟩) (fun p r Hx Qx sx hp qx => ⟨_, rfl, p, _, _, _, rfl, rfl, SqT.of hp, atI_nat (j := 0) rfl, _, rfl, _, _, rfl, rfl, _, rfl, qx⟩) (hrs.keep (KeepT.of u5)) hrl nD2 (fun H6 ys6 u6 e6 dp6 => ?_)⟩
      have ob6 := u6 _ _ (u5 _ _ L.wa.ob)
      refine ⟨_, rfl, _, rfl, _, rfl, wk, C, dx, _, _, rfl, ob6, T.cl, T.nTak, rfl, _, rfl, _, _, rfl, rfl, _, rfl, wk, C, dx, _, _, rfl, ob6, T.cl, T.nCnt, rfl, _, rfl, _, _, rfl, rfl, (by show 4 ≤ sizeLine; decide), fun tt ntt => ?_⟩
      have u7 := same_new ntt (.tup [.ref D1, .ref D2, .int (t - f0), .int (ct - c0)])
      have u67 := u6.trans u7
      refine q _ tt (L.sm.trans (u5.trans u67)) ((L.sm.trans (u5.trans u6)).free ntt) ?_
      rw [← hEq]
      exact ⟨D1, D2, hs5, ys6, upd_same, u67 _ _ e5, u7 _ _ e6, dp5.keep (KeepT.of u67), dp6.keep (KeepT.of u7), L.sm.free nD1, (L.sm.trans u5).free nD2, ne_of_none e5 nD2⟩
end
/-! ### the first step of each integer -/
abbrev sFS : Stmt := top 42
def putF1 (acc : List (Int × Int)) (r : Int × Int) : List (Int × Int) := if acc.any (fun e => decide (e.1 = r.2)) = true then acc else acc ++ [(r.2, r.1)]
def firstS (rows : List (Int × Int)) : List (Int × Int) := rows.foldl putF1 []
theorem firstS_snoc (rows : List (Int × Int)) (r : Int × Int) : firstS (rows ++ [r]) = putF1 (firstS rows) r := by
  unfold firstS
  rw [List.foldl_append]
  rfl
def fsD (acc : List (Int × Int)) : List (Key × V) := acc.map fun e => (Sum.inl e.1, .int e.2)
theorem fsD_some (z : Int) : ∀ acc : List (Int × Int), (valV (fsD acc) (Sum.inl z : Key)).isSome = acc.any fun e => decide (e.1 = z)
  | [] => rfl
  | e :: r => by
    show (valV ((Sum.inl e.1, V.int e.2) :: fsD r) (Sum.inl z : Key)).isSome = _
    rw [List.any_cons]
    by_cases c : e.1 = z
    · rw [c, valV_pos rfl, decide_eq_true rfl]
      rfl
    · rw [valV_neg (fun h => c (by injection h)), fsD_some z r, decide_eq_false c, Bool.false_or]
theorem fsD_put {acc : List (Int × Int)} {z n : Int} (h : acc.any (fun e => decide (e.1 = z)) = false) : putK (fsD acc) (Sum.inl z : Key) (V.int n) = fsD (acc ++ [(z, n)]) := by
  have hn : valV (fsD acc) (Sum.inl z : Key) = none := by
    have := fsD_some z acc
    rw [h] at this
    cases e : valV (fsD acc) (Sum.inl z : Key) with
    | none => rfl
    | some v => rw [e] at this; cases this
  rw [putK_new _ hn]
  simp [fsD]
theorem firstS_len : ∀ rows : List (Int × Int), (firstS rows).length ≤ rows.length := by
  intro rows
  have h : ∀ (rs acc : List (Int × Int)), (rs.foldl putF1 acc).length ≤ acc.length + rs.length := by
    intro rs
    induction rs with
    | nil => intro acc; simp
    | cons r t ih =>
      intro acc
      have h1 := ih (putF1 acc r)
      have h2 : (putF1 acc r).length ≤ acc.length + 1 := by
        unfold putF1
        split
        · omega
        · rw [List.length_append]; exact Nat.le_refl _
      rw [List.foldl_cons, List.length_cons]
      omega
  have := h rows []
  simpa [firstS] using this
def spFS (K : PySem.W.Frag) : Sp := fun vs H Q _ => ∃ (l : Addr) (xs : List V) (rows : List (Int × Int)), vs = [.ref l] ∧ H l = some (.lst xs) ∧ DpAll K (tupH H) xs (rows.map rowD) ∧ rows.length ≤ 100000 ∧
  ∀ H' D, Same H H' → H D = none → H' D = some (.dK (fsD (firstS rows))) → Q (.ref D) H'
section
variable {P : Program} {w : World} {K : PySem.W.Frag} {mg : Str → Option Value} {base : Heap}
theorem scFS : FnScope ["rows", "steps", "step", "integer"] ["rows"] (defScope sFS) := ⟨rfl, rfl, rfl, by decide +kernel, rfl, by decide +kernel, by decide +kernel⟩
theorem ok_FS {f : Addr} {fd : FuncData} (F : Fun K "first_steps" "first_steps" sFS f fd) : FnOk P w K mg base CX0 1 f fd ["rows"] (spFS K) := by
  refine F.ok scFS (fun vs H Q E h => ?_) (fun cdv A outer s H vs Q E hr h => ?_)
  · obtain ⟨l, xs, rows, rfl, _⟩ := h
    rfl
  obtain ⟨l, xs, rows, rfl, hl, hxs, hlen, q⟩ := h
  have hu := hu_of hr
  refine ⟨_, pss_cons (ps_set (i := 1) scFS.nd rfl (.inl rfl) pe_dnewK)
    (pss_cons (ps_for PassesOwn.never rfl (pi_list (pv 0)) (pg_tup (by rfl) (pgs_cons (pg_name (i := 2) scFS.nd rfl (.inl rfl)) (pgs_cons (pg_name (i := 3) scFS.nd rfl (.inl rfl)) pgs_nil)))
      (pss_one (ps_if (pt_cmp (pc_dnotin hu (pv 3) (pv 1))) (pss_one (ps_dput hu (pv 1) (pv 3) (pv 2) rfl)) pss_nil)))
    (pss_one (ps_ret (pv 1)))), ?_⟩
  refine fun D nD => ?_
  have u1 := same_new nD (.dK [])
  have e1 : (upd H D (.dK [])) D = some (.dK (fsD (firstS (rows.take 0)))) := upd_same
  generalize upd H D (.dK []) = H1 at u1 e1 ⊢
  have hxl : xs.length = rows.length := by have := dpAll_len hxs; rwa [List.length_map] at this
  refine ⟨_, rfl, l, rfl, ⟨_, SqL.of (u1 _ _ hl)⟩, for_list (K := K) (a := l) (xs := xs) (fun i σ H' => ∃ (s2 s3 : Option V), σ = [some (.ref l), some (.ref D), s2, s3] ∧ Same H H' ∧ H' D = some (.dK (fsD (firstS (rows.take i))))) ⟨none, none, rfl, u1, e1⟩ (fun i σ H' _ ⟨_, _, _, sx, _⟩ => SqL.of (sx _ _ hl)) ?_ ?_⟩
  · rintro i v σ H2 hv ⟨s2, s3, rfl, u2, e2⟩
    obtain ⟨d, hdn, hdp⟩ := dpAll_get hxs hv
    rw [List.getElem?_map] at hdn
    cases er : rows[i]? with
    | none => rw [er] at hdn; cases hdn
    | some r =>
      rw [er] at hdn
      have ed : rowD r = d := by injection hdn
      subst ed
      obtain ⟨p, rfl, hp⟩ := row_inv (dp_mono (tupH_same H) _ _ hdp)
      have hi : i < rows.length := (List.getElem?_eq_some_iff.mp er).1
      refine ⟨p, _, rfl, Same.tup u2 hp, rfl, _, _, rfl, _, _, rfl, rfl, ?_⟩
      refine ⟨_, rfl, _, rfl, D, _, rfl, DGet.k (k := Sum.inl r.2) e2, _, rfl, ?_⟩
      rw [fsD_some]
      cases c : (firstS (rows.take i)).any (fun e => decide (e.1 = r.2)) with
      | true =>
        refine ite2 (fun c' => absurd c' (by decide)) (fun _ => ⟨_, _, rfl, u2, ?_⟩)
        rw [take_snoc er, firstS_snoc]
        unfold putF1
        rw [c, if_pos rfl]
        exact e2
      | false =>
        refine ite2 (fun _ => ?_) (fun c' => absurd rfl c')
        refine ⟨_, rfl, _, rfl, _, rfl, D, _, rfl, DPut.k (k := Sum.inl r.2) e2 ?_, _, _, rfl, same_upd u2 nD _, ?_⟩
        · have h1 := firstS_len (rows.take i)
          rw [List.length_take] at h1
          unfold fsD
          rw [List.length_map]
          exact Nat.lt_of_le_of_lt (by omega : _ ≤ 100000) (by decide)
        · rw [upd_same, take_snoc er, firstS_snoc, fsD_put c]
          unfold putF1
          rw [c, if_neg (by decide)]
  · rintro σ H2 ⟨s2, s3, rfl, u2, e2⟩
    rw [hxl, List.take_length] at e2
    exact ⟨_, rfl, q _ D u2 nD e2⟩
end
def spProgC2 (K : PySem.W.Frag) : Sp := fun vs H Q _ => ∃ (b : Addr) (k : Str) (mx : Int), vs = [.ref b, .str k, .int mx] ∧ 0 ≤ mx ∧ mx ≤ 24 ∧ Bag H b ∧ (k = "teller" ∨ k = "collector") ∧
  ∀ H' t v d (c : Nat), Fr b H H' → Bag H' b → H' t = some (.tup [.str k, v]) → t ≠ b → Da K b H' v d → bodyN k 4 d = some c → (c : Int) ≤ mx → Lay d → noL d = true → Q (.ref t) H'
section
variable {P : Program} {w : World} {K : PySem.W.Frag} {mg : Str → Option Value} {base : Heap}
theorem ok_progC2 {f : Addr} {fd : FuncData} (F : Fun K "_law_program" "_law_program" sProgL f fd) (CD : Cal P w K mg base 1 "_law_draw" ["_law_bag_here", "_law_many"] spDraw) (CB : Cal P w K mg base 13 "_law_body" ["_law_bag_here", "_law_kind", "_law_room", "_law_depth", "_law_most"] (spBody K 4)) :
    FnOk P w K mg base CX0 14 f fd ["_law_bag_here", "_law_kind", "_law_most"] (spProgC2 K) := by
  refine F.ok scProgL (fun vs H Q E h => ?_) (fun cdv A outer s H vs Q E hr h => ?_)
  · obtain ⟨b, k, mx, rfl, _⟩ := h
    rfl
  obtain ⟨b, k, mx, rfl, hmx0, hmx1, hb, hk, q⟩ := h
  have hr1 : Room 1 _ := hr.mono (by decide)
  refine ⟨_, pss_cons (ps_set (i := 3) scProgL.nd rfl (.inl rfl) (pe_lst (pa_cons (pe_call CD.G hr1 rfl CD.m CD.kp CD.b .nil pass0 (pa_cons (pv 0) (pa_cons (pe_op op_add (pv 2) pe_int) pa_nil))) pa_nil)))
    (pss_one (ps_ret (pe_tup (pa_cons (pv 1) (pa_cons (pe_call CB.G hr rfl CB.m CB.kp CB.b .nil pass0 (pa_cons (pv 0) (pa_cons (pv 1) (pa_cons (pv 3) (pa_cons pe_int (pa_cons (pe_ix ix_list (pe_lst (pa_cons pe_int (pa_cons (pe_op op_add (pv 2) pe_int) pa_nil))) (pe_call CD.G hr1 rfl CD.m CD.kp CD.b .nil pass0 (pa_cons (pv 0) (pa_cons pe_int pa_nil))) (fun _ _ => rfl)) pa_nil)))))) pa_nil))))), ?_⟩
  refine ⟨_, rfl, _, rfl, _, _, rfl, rfl, b, _, rfl, hb, by omega, by omega, fun H1 r f1 b1 r0 r1 => ⟨(by show 1 ≤ sizeLine; decide), fun m nm => ?_⟩⟩
  obtain ⟨rn, rfl⟩ : ∃ rn : Nat, r = rn := ⟨r.toNat, by omega⟩
  have nmb : m ≠ b := (b1.ne nm).symm
  have b2 := b1.keep (same_new nm (.lst [.int (rn : Nat)]))
  have g2 : Fr b H1 (upd H1 m (.lst [.int (rn : Nat)])) := Fr.of (same_new nm _)
  have hm2 : Rm (upd H1 m (.lst [.int (rn : Nat)])) m rn := upd_same
  generalize upd H1 m (.lst [.int (rn : Nat)]) = H2 at b2 g2 hm2 ⊢
  refine ⟨_, rfl, _, rfl, _, rfl, _, rfl, _, rfl, _, _, rfl, rfl, (by show 2 ≤ sizeLine; decide), fun l nl => ?_⟩
  have nlb : l ≠ b := (b2.ne nl).symm
  have b3 := b2.keep (same_new nl (.lst [.int 7, .int (mx + 1)]))
  refine ⟨_, rfl, b, 2, rfl, b3, by decide, by decide, fun H4 r4 f4 b4 r40 r41 => ?_⟩
  have hm4 : Rm H4 m rn := f4 m _ nmb (same_new nl _ _ _ hm2)
  obtain ⟨x, hx, hc⟩ := at2 (x := V.int 7) (y := V.int (mx + 1)) r40 r41
  refine ⟨l, _, _, _, rfl, rfl, SqL.of (f4 l _ nlb upd_same), hx, ?_⟩
  obtain ⟨mo, rfl, hmo⟩ : ∃ mo : Int, x = .int mo ∧ mo < 1000 := by
    rcases hc with rfl | rfl
    · exact ⟨_, rfl, by decide⟩
    · exact ⟨_, rfl, by omega⟩
  refine ⟨b, m, k, rn, 1, mo, rfl, by decide, by decide, b4, hm4, nmb, hk, hmo, fun H5 v d r5 c5 f5 b5 hm5 hd5 no5 ly5 hc5 hr5 => ⟨(by show 2 ≤ sizeLine; decide), fun t nt => ?_⟩⟩
  have g6 : Fr b H5 (upd H5 t (.tup [.str k, v])) := Fr.of (same_new nt _)
  have fr : Fr b H (upd H5 t (.tup [.str k, v])) := by
    intro a o n1 ha
    have ha1 := f1 a o n1 ha
    have nam : a ≠ m := ne_of_none ha1 nm
    exact g6 a o n1 (f5 a o n1 nam (f4 a o n1 (same_new nl _ _ _ (g2 a o n1 ha1))))
  exact q _ _ _ d c5 fr (b5.keep (same_new nt _)) upd_same (b5.ne nt).symm (hd5.fr g6) hc5 (by omega) ly5 no5
end
/-! ### the object of a listing -/
abbrev sLEq : Stmt := inClass (top 43) 1
abbrev sFam : Stmt := inClass (top 43) 9
def lsF (hd cy : Addr) (per sh : Int) (kh kc hs cs fm : Addr) : List (Str × V) := [("head", .ref hd), ("cycle", .ref cy), ("period", .int per), ("shift", .int sh), ("kept_head", .ref kh), ("kept_cycle", .ref kc), ("head_steps", .ref hs), ("cycle_steps", .ref cs), ("families", .ref fm)]
/-- no attribute of the class hides a field -/
structure LNo (K : PySem.W.Frag) (C : Addr) : Prop where
  cl : Cls K C
  nHd : NoAttr K C "head"
  nCy : NoAttr K C "cycle"
  nPe : NoAttr K C "period"
  nSh : NoAttr K C "shift"
  nKh : NoAttr K C "kept_head"
  nKc : NoAttr K C "kept_cycle"
  nHs : NoAttr K C "head_steps"
  nCs : NoAttr K C "cycle_steps"
  nFm : NoAttr K C "families"
/-- what tells two listings apart, and what is_endless reads -/
structure LsA (K : PySem.W.Frag) (H : Hp) (C ls : Addr) (L : LP) : Prop where
  ex : ∃ (dx hd cy kh kc hs cs fm : Addr) (xs ys : List V), H ls = some (.ins C dx (lsF hd cy (lpPer L) (lpShift L) kh kc hs cs fm)) ∧ H hd = some (.lst xs) ∧ H cy = some (.lst ys) ∧ DpAll K (tupH H) xs ((lpHead L).map rowD) ∧ DpAll K (tupH H) ys ((lpCycle L).map rowD) ∧
    ∃ zs, SqT K H kc zs ∧ zs.length = (lpCycle L).length
def endL (L : LP) : Bool := decide (0 < (lpCycle L).length) && decide (0 < lpShift L)
def eqLP (L M : LP) : Bool := decide (lpHead L = lpHead M) && decide (lpCycle L = lpCycle M) && decide (lpPer L = lpPer M) && decide (lpShift L = lpShift M)
def famZ (sh n : Int) : Int := if 0 < sh then n % sh else n
def spFam (K : PySem.W.Frag) (C : Addr) : Sp := fun vs H Q _ => ∃ (ls dx : Addr) (fs : List (Str × V)) (sh n : Int), vs = [.ref ls, .int n] ∧ H ls = some (.ins C dx fs) ∧ fs.lookup ("shift" : Str) = some (.int sh) ∧ Q (.int (famZ sh n)) H
def spEnd (K : PySem.W.Frag) (C : Addr) : Sp := fun vs H Q _ => ∃ (ls : Addr) (L : LP), vs = [.ref ls] ∧ LsA K H C ls L ∧ Q (.bl (endL L)) H
def spLEq (K : PySem.W.Frag) (C : Addr) : Sp := fun vs H Q _ => ∃ (a b : Addr) (L M : LP), vs = [.ref a, .ref b] ∧ LsA K H C a L ∧ LsA K H C b M ∧ Q (.bl (eqLP L M)) H
theorem eqv_rows : ∀ ns ms : List (Int × Int), PyData.eqvAll (ns.map rowD) (ms.map rowD) = decide (ns = ms)
  | [], [] => rfl
  | [], _ :: _ => by simp [PyData.eqvAll]
  | _ :: _, [] => by simp [PyData.eqvAll]
  | n :: r, m :: u => by
    obtain ⟨n1, n2⟩ := n
    obtain ⟨m1, m2⟩ := m
    rw [List.map_cons, List.map_cons]
    simp only [PyData.eqvAll, eqv_rows r u, rowD, PyData.eqv, Bool.and_true]
    by_cases c1 : n1 = m1
    · by_cases c2 : n2 = m2
      · simp [c1, c2]
      · simp [c1, c2]
    · simp [c1]
theorem eqv_rlist (ns ms : List (Int × Int)) : PyData.eqv (.list (ns.map rowD)) (.list (ms.map rowD)) = decide (ns = ms) := by
  simp only [PyData.eqv]
  exact eqv_rows ns ms
theorem row_lay (r : Int × Int) : Lay (rowD r) := lay2 (lay_int _) (lay_int _)
theorem shaped_rows (ns : List (Int × Int)) : SeqAt.shaped (.list (ns.map rowD)) = true := by
  show ((PyData.list (ns.map rowD)).canLay0 && decide ((PyData.list (ns.map rowD)).depth ≤ 64)) = true
  rw [Bool.and_eq_true]
  constructor
  · simp only [PyData.canLay0]
    exact lay_all fun d m => by obtain ⟨n, _, rfl⟩ := List.mem_map.mp m; exact row_lay n
  · have hd : PyData.depthAll (ns.map rowD) ≤ 1 := depth_all fun d m => by obtain ⟨n, _, rfl⟩ := List.mem_map.mp m; simp only [rowD, PyData.depth, PyData.depthAll]; decide
    simp only [PyData.depth]
    exact decide_eq_true (by omega)
section
variable {P : Program} {w : World} {K : PySem.W.Frag} {mg : Str → Option Value} {base : Heap}
theorem scFam : FnScope ["self", "integer"] ["self", "integer"] (defScope sFam) := ⟨rfl, rfl, rfl, by decide +kernel, rfl, by decide +kernel, by decide +kernel⟩
theorem ok_Fam {f C : Addr} {fd : FuncData} (F : Fun K "family" "Listing.family" sFam f fd) (N : LNo K C) : FnOk P w K mg base CX0 1 f fd ["self", "integer"] (spFam K C) := by
  refine F.ok scFam (fun vs H Q E h => ?_) (fun cdv A outer s H vs Q E hr h => ?_)
  · obtain ⟨ls, dx, fs, sh, n, rfl, _⟩ := h
    rfl
  obtain ⟨ls, dx, fs, sh, n, rfl, ho, hl, q⟩ := h
  refine ⟨_, pss_one (ps_ret (pe_ifExp (pt_cmpR op_gt (pe_fld (pv 0) rfl) pe_int (nomark _)) (pe_op op_mod (pv 1) (pe_fld (pv 0) rfl)) (pv 1))), ?_⟩
  refine ⟨_, rfl, ls, C, dx, fs, _, rfl, ho, N.cl, N.nSh, hl, _, _, rfl, rfl, _, rfl, ?_⟩
  unfold famZ at q
  by_cases c : 0 < sh
  · rw [if_pos c] at q
    refine ite2 (fun _ => ?_) (fun c' => absurd (decide_eq_true (show (0 : Int) < sh from c)) c')
    exact ⟨_, rfl, _, rfl, ls, C, dx, fs, _, rfl, ho, N.cl, N.nSh, hl, _, _, rfl, rfl, c, q⟩
  · rw [if_neg c] at q
    refine ite2 (fun c' => absurd (of_decide_eq_true c') c) (fun _ => ?_)
    exact ⟨_, rfl, q⟩
theorem scLEq : FnScope ["self", "other"] ["self", "other"] (defScope sLEq) := ⟨rfl, rfl, rfl, by decide +kernel, rfl, by decide +kernel, by decide +kernel⟩
/-- what isinstance asks of the class -/
structure LIs (K : PySem.W.Frag) (C : Addr) : Prop where
  ha : PySem.W.findIn K (.ref C) "__class__" = some (some (.builtin "object.__class__"))
  hn : PySem.W.specialIn K (.builtin "object.__class__") "__get__" = some (some (.builtin "getset_descriptor.__get__"))
  ht : PySem.W.takesIn K (.builtin "object.__class__") = some true
  hm : PySem.W.mroIn K C (.type "object") = some true
theorem kit_own {K : PySem.W.Frag} {D : Addr} : PySem.W.kitOne K (.ref D) (.ref D) = some true := by
  unfold PySem.W.kitOne
  rw [if_pos (beq_self_eq_true _)]
theorem ok_LEq {f C : Addr} {fd : FuncData} (F : Fun K "__eq__" "Listing.__eq__" sLEq f fd) (T : Gs K mg) (N : LNo K C) (I : LIs K C) (gC : mg "Listing" = some (.ref C)) : FnOk P w K mg base CX0 1 f fd ["self", "other"] (spLEq K C) := by
  refine F.ok scLEq (fun vs H Q E h => ?_) (fun cdv A outer s H vs Q E hr h => ?_)
  · obtain ⟨a, b, L, M, rfl, _⟩ := h
    rfl
  obtain ⟨a, b, L, M, rfl, ⟨dx, hd, cy, kh, kc, hs, cs, fm, xs, ys, ho, h1, h2, h3, h4, _⟩, ⟨dy, hd', cy', kh', kc', hs', cs', fm', xs', ys', ho', g1, g2, g3, g4, _⟩, q⟩ := h
  refine ⟨_, pss_one (ps_ret (pe_and (pe_callB call_isi (by rfl) T.isi (by decide +kernel) (pa_cons (pv 1) (pa_cons (pe_gref rfl gC) pa_nil))) (pe_and (pe_cmpR (op_eqD hr.units) (pe_fld (pv 0) rfl) (pe_fld (pv 1) rfl) (nomark _)) (pe_and (pe_cmpR (op_eqD hr.units) (pe_fld (pv 0) rfl) (pe_fld (pv 1) rfl) (nomark _)) (pe_and (pe_cmpR op_eq (pe_fld (pv 0) rfl) (pe_fld (pv 1) rfl) (nomark _)) (pe_one (pe_cmpR op_eq (pe_fld (pv 0) rfl) (pe_fld (pv 1) rfl) (nomark _)))))))), ?_⟩
  have d3 := dpAll_mono (tupH_same H) _ _ h3
  have d4 := dpAll_mono (tupH_same H) _ _ h4
  have e3 := dpAll_mono (tupH_same H) _ _ g3
  have e4 := dpAll_mono (tupH_same H) _ _ g4
  have eqi : ∀ x y : Int, decide (V.int x = V.int y) = decide (x = y) := fun x y => by
    by_cases c : x = y
    · rw [c, decide_eq_true rfl, decide_eq_true rfl]
    · rw [decide_eq_false c, decide_eq_false (fun z => c (by injection z))]
  refine ⟨_, rfl, .ref b, .ref C, _, _, _, rfl, .own C, .base (.ins ho' N.cl I.ha I.hn I.ht I.hm), kit_own, _, rfl, iteT ?_⟩
  unfold eqLP at q
  refine ⟨_, rfl, a, C, dx, _, _, rfl, ho, N.cl, N.nHd, rfl, _, rfl, b, C, dy, _, _, rfl, ho', N.cl, N.nHd, rfl, .list ((lpHead L).map rowD), .list ((lpHead M).map rowD), .lst (SqL.of h1) d3, .lst (SqL.of g1) e3, shaped_rows _, shaped_rows _, _, rfl, ?_⟩
  rw [eqv_rlist]
  cases c1 : decide (lpHead L = lpHead M) with
  | false => rw [c1] at q; simp only [Bool.false_and] at q; exact iteF q
  | true =>
  rw [c1, Bool.true_and] at q
  refine iteT ⟨_, rfl, a, C, dx, _, _, rfl, ho, N.cl, N.nCy, rfl, _, rfl, b, C, dy, _, _, rfl, ho', N.cl, N.nCy, rfl, .list ((lpCycle L).map rowD), .list ((lpCycle M).map rowD), .lst (SqL.of h2) d4, .lst (SqL.of g2) e4, shaped_rows _, shaped_rows _, _, rfl, ?_⟩
  rw [eqv_rlist]
  cases c2 : decide (lpCycle L = lpCycle M) with
  | false => rw [c2] at q; simp only [Bool.false_and] at q; exact iteF q
  | true =>
  rw [c2, Bool.true_and] at q
  refine iteT ⟨_, rfl, a, C, dx, _, _, rfl, ho, N.cl, N.nPe, rfl, _, rfl, b, C, dy, _, _, rfl, ho', N.cl, N.nPe, rfl, rfl, _, rfl, ?_⟩
  rw [eqi]
  cases c3 : decide (lpPer L = lpPer M) with
  | false => rw [c3] at q; simp only [Bool.false_and] at q; exact iteF q
  | true =>
  rw [c3, Bool.true_and] at q
  refine iteT ⟨_, rfl, a, C, dx, _, _, rfl, ho, N.cl, N.nSh, rfl, _, rfl, b, C, dy, _, _, rfl, ho', N.cl, N.nSh, rfl, rfl, ?_⟩
  rw [eqi]
  exact q
end
/-! ### a listing made -/
abbrev sLI : Stmt := inClass (top 43) 0
abbrev nsLI : List Str := ["self", "program", "head", "cycle", "period", "shift", "integer", "step"]
def lpRows : LP → List (Int × Int)
  | .fin rows => rows
  | .cyc _ _ _ _ rows => rows
theorem lpHead_len (L : LP) : (lpHead L).length ≤ (lpRows L).length := by
  cases L with
  | fin r => exact Nat.le_refl _
  | cyc f c t ct r => exact List.length_filter_le _ _
theorem lpCycle_len (L : LP) : (lpCycle L).length ≤ (lpRows L).length := by
  cases L with
  | fin r => exact Nat.zero_le _
  | cyc f c t ct r => exact List.length_filter_le _ _
theorem rowsOf_len (t ct : Int) (s : S3) (i : Ins) : (rowsOf t ct s i).length ≤ 1 := by cases i <;> first | exact Nat.le_refl 1 | exact Nat.zero_le 1
theorem loopL_len (code : List Ins) : ∀ (n : Nat) (s : S3) (t ct : Int) (seen : List (S3 × (Int × Int))) (rows : List (Int × Int)), (lpRows (loopL code n s t ct seen rows)).length ≤ rows.length + n
  | 0, _, _, _, _, rows => Nat.le_refl _
  | n + 1, s, t, ct, seen, rows => by
    rw [loopL_eq]
    cases lookL s seen with
    | some fc => exact Nat.le_add_right _ _
    | none =>
      dsimp only
      cases code[s.pc]? with
      | none => exact Nat.le_add_right _ _
      | some i =>
        dsimp only
        have h := loopL_len code n (nextL s i) (t + i.cost) (ct + i.grown s.a s.b) (seen ++ [(s, (t, ct))]) (rows ++ rowsOf t ct s i)
        have h1 := rowsOf_len t ct s i
        rw [List.length_append] at h
        omega
theorem runL_len {code : List Ins} (h : code.length ≤ 100) : (lpRows (runL code)).length ≤ 100000 := by
  have h1 := loopL_len code (fuel code) ⟨0, 0, 0⟩ 0 0 [] []
  unfold runL
  unfold fuel at h1 ⊢
  rw [List.length_nil] at h1
  omega
/-! ### rows over a heap in which a dict is locked -/
def KeepR (H H' : Hp) : Prop := ∀ a ys, Rd H a (.tup ys) → Rd H' a (.tup ys)
theorem KeepR.of {H H' : Hp} (s : Same H H') : KeepR H H' := fun a ys h => by
  rcases h with h | ⟨o, h⟩
  · exact .inl (s _ _ h)
  · exact .inr ⟨o, s _ _ h⟩
theorem KeepR.t {H H' : Hp} (k : KeepT H H') : KeepR H H' := fun a ys h => by
  rcases h with h | ⟨o, h⟩
  · exact .inl (k.1 _ _ h)
  · exact .inr ⟨o, k.2 _ _ _ h⟩
theorem KeepR.trans {H H' H'' : Hp} (a : KeepR H H') (b : KeepR H' H'') : KeepR H H'' := fun x ys h => b _ _ (a _ _ h)
/-- a place that holds no tuple is written -/
theorem KeepR.upd {H : Hp} {d : Addr} {o u : HO} (h : H d = some u) (n1 : ∀ ys, u ≠ .tup ys) (n2 : ∀ q ys, u ≠ .frz q (.tup ys)) : KeepR H (L2.upd H d o) := fun a ys r => by
  have e : a ≠ d := fun z => by
    subst z
    rcases r with r | ⟨q, r⟩
    · rw [h] at r; injection r with r; exact n1 _ r
    · rw [h] at r; injection r with r; exact n2 _ _ r
  rcases r with r | ⟨q, r⟩
  · exact .inl (by rw [upd_ne e]; exact r)
  · exact .inr ⟨q, by rw [upd_ne e]; exact r⟩
theorem rd_tupH {H : Hp} {a : Addr} {ys : List V} (h : Rd H a (.tup ys)) : Rd (tupH H) a (.tup ys) := by
  rcases h with h | ⟨o, h⟩
  · exact .inl (by unfold tupH; rw [h])
  · exact .inr ⟨o, by unfold tupH; rw [h]⟩
theorem row_move {K : PySem.W.Frag} {H H' : Hp} (k : KeepR H H') {v : V} {r : Int × Int} (h : Dp K (tupH H) v (rowD r)) : Dp K (tupH H') v (rowD r) := by
  obtain ⟨p, rfl, hp⟩ := row_inv (dp_mono (tupH_same H) _ _ h)
  have hp' : SqT K (tupH H') p [.int r.1, .int r.2] := by
    rcases hp with hp | hp
    · exact .inl (rd_tupH (k _ _ hp))
    · exact .inr hp
  exact .tup hp' (.cons (.int _) (.cons (.int _) .nil))
theorem rows_move {K : PySem.W.Frag} {H H' : Hp} (k : KeepR H H') : ∀ {xs : List V} {rows : List (Int × Int)}, DpAll K (tupH H) xs (rows.map rowD) → DpAll K (tupH H') xs (rows.map rowD)
  | _, [], h => by cases h; exact .nil
  | _, r :: t, h => by
    rw [List.map_cons] at h
    cases h with
    | cons h1 h2 => exact .cons (row_move k h1) (rows_move k h2)
/-! ### the families -/
def addFam (z : Int) (r : Int × Int) : List (Int × List (Int × Int)) → List (Int × List (Int × Int))
  | [] => [(z, [r])]
  | e :: t => if e.1 = z then (e.1, e.2 ++ [r]) :: t else e :: addFam z r t
def famS (sh : Int) (cs : List (Int × Int)) : List (Int × List (Int × Int)) := cs.foldl (fun f e => addFam (famZ sh e.1) (e.2, e.1) f) []
theorem famS_snoc (sh : Int) (cs : List (Int × Int)) (e : Int × Int) : famS sh (cs ++ [e]) = addFam (famZ sh e.1) (e.2, e.1) (famS sh cs) := by
  unfold famS
  rw [List.foldl_append]
  rfl
theorem addFam_len (z : Int) (r : Int × Int) : ∀ f : List (Int × List (Int × Int)), (addFam z r f).length ≤ f.length + 1
  | [] => Nat.le_refl _
  | e :: t => by
    unfold addFam
    split
    · exact Nat.le_succ _
    · rw [List.length_cons, List.length_cons]
      have := addFam_len z r t
      omega
theorem famS_len (sh : Int) (cs : List (Int × Int)) : (famS sh cs).length ≤ cs.length := by
  have h : ∀ (rs : List (Int × Int)) (acc : List (Int × List (Int × Int))), (rs.foldl (fun f e => addFam (famZ sh e.1) (e.2, e.1) f) acc).length ≤ acc.length + rs.length := by
    intro rs
    induction rs with
    | nil => intro acc; exact Nat.le_refl _
    | cons r t ih =>
      intro acc
      have h1 := ih (addFam (famZ sh r.1) (r.2, r.1) acc)
      have h2 := addFam_len (famZ sh r.1) (r.2, r.1) acc
      rw [List.foldl_cons, List.length_cons]
      omega
  have := h cs []
  rw [List.length_nil] at this
  unfold famS
  omega
/-- all rows of all families -/
def allFam (f : List (Int × List (Int × Int))) : Nat := (f.map fun e => e.2.length).sum
theorem addFam_all (z : Int) (r : Int × Int) : ∀ f : List (Int × List (Int × Int)), allFam (addFam z r f) = allFam f + 1
  | [] => rfl
  | e :: t => by
    unfold addFam
    split
    · simp only [allFam, List.map_cons, List.sum_cons, List.length_append, List.length_singleton]
      omega
    · have := addFam_all z r t
      simp only [allFam, List.map_cons, List.sum_cons] at this ⊢
      omega
theorem famS_all (sh : Int) (cs : List (Int × Int)) : allFam (famS sh cs) = cs.length := by
  have h : ∀ (rs : List (Int × Int)) (acc : List (Int × List (Int × Int))), allFam (rs.foldl (fun f e => addFam (famZ sh e.1) (e.2, e.1) f) acc) = allFam acc + rs.length := by
    intro rs
    induction rs with
    | nil => intro acc; rfl
    | cons r t ih =>
      intro acc
      rw [List.foldl_cons, List.length_cons, ih, addFam_all]
      omega
  have := h cs []
  unfold famS
  rw [this]
  exact Nat.zero_add _
inductive FamR (K : PySem.W.Frag) (H : Hp) : List (Key × V) → List (Int × List (Int × Int)) → List Addr → Prop
  | nil : FamR K H [] [] []
  | cons {k : Int} {l : Addr} {xs : List V} {rows : List (Int × Int)} {kvs : List (Key × V)} {fam : List (Int × List (Int × Int))} {la : List Addr} : H l = some (.lst xs) → DpAll K (tupH H) xs (rows.map rowD) → l ∉ la → FamR K H kvs fam la → FamR K H ((Sum.inl k, .ref l) :: kvs) ((k, rows) :: fam) (l :: la)
theorem FamR.len {K : PySem.W.Frag} {H : Hp} : ∀ {kvs : List (Key × V)} {fam : List (Int × List (Int × Int))} {la : List Addr}, FamR K H kvs fam la → kvs.length = fam.length
  | _, _, _, .nil => rfl
  | _, _, _, .cons _ _ _ h => by rw [List.length_cons, List.length_cons, h.len]
theorem FamR.keep {K : PySem.W.Frag} {H H' : Hp} (k : KeepR H H') : ∀ {kvs : List (Key × V)} {fam : List (Int × List (Int × Int))} {la : List Addr}, (∀ a ∈ la, ∀ o, H a = some o → H' a = some o) → FamR K H kvs fam la → FamR K H' kvs fam la
  | _, _, _, _, .nil => .nil
  | _, _, _, m, .cons e d n h => .cons (m _ (List.mem_cons_self ..) _ e) (rows_move k d) n (h.keep k fun a ha => m a (List.mem_cons_of_mem _ ha))
theorem FamR.there {K : PySem.W.Frag} {H : Hp} : ∀ {kvs : List (Key × V)} {fam : List (Int × List (Int × Int))} {la : List Addr}, FamR K H kvs fam la → ∀ a ∈ la, ∃ xs, H a = some (.lst xs)
  | _, _, _, .nil => fun a m => nomatch m
  | _, _, _, .cons e _ _ h => fun a m => by
    rcases List.mem_cons.mp m with rfl | m
    · exact ⟨_, e⟩
    · exact h.there a m
theorem FamR.look {K : PySem.W.Frag} {H : Hp} (z : Int) : ∀ {kvs : List (Key × V)} {fam : List (Int × List (Int × Int))} {la : List Addr}, FamR K H kvs fam la →
    (valV kvs (Sum.inl z : Key) = none ∧ fam.lookup z = none) ∨ ∃ l xs rows, valV kvs (Sum.inl z : Key) = some (.ref l) ∧ l ∈ la ∧ fam.lookup z = some rows ∧ H l = some (.lst xs) ∧ DpAll K (tupH H) xs (rows.map rowD) ∧ rows.length ≤ allFam fam
  | _, _, _, .nil => .inl ⟨rfl, rfl⟩
  | _, _, _, .cons (k := k0) (l := l0) (xs := xs0) (rows := rows0) (kvs := kvs) (fam := fam) (la := la) e d n h => by
    by_cases c : k0 = z
    · subst c
      refine .inr ⟨l0, xs0, rows0, valV_pos rfl, List.mem_cons_self .., ?_, e, d, ?_⟩
      · simp [List.lookup]
      · simp only [allFam, List.map_cons, List.sum_cons]; omega
    · have e1 : ((k0, rows0) :: fam).lookup z = fam.lookup z := by
        rw [List.lookup_cons]
        have : (z == k0) = false := by simp; exact fun q => c q.symm
        rw [this]
      have e2 : valV ((Sum.inl k0, V.ref l0) :: kvs) (Sum.inl z : Key) = valV kvs (Sum.inl z : Key) := valV_neg (fun q => c (by injection q))
      rw [e1, e2]
      rcases h.look z with h | ⟨l, xs, rows, h1, h2, h3, h4, h5, h6⟩
      · exact .inl h
      · refine .inr ⟨l, xs, rows, h1, List.mem_cons_of_mem _ h2, h3, h4, h5, ?_⟩
        simp only [allFam, List.map_cons, List.sum_cons] at h6 ⊢
        omega
theorem FamR.app {K : PySem.W.Frag} {H : Hp} {z : Int} {l : Addr} {v : V} {r : Int × Int} (hv : Dp K (tupH H) v (rowD r)) : ∀ {kvs : List (Key × V)} {fam : List (Int × List (Int × Int))} {la : List Addr}, FamR K H kvs fam la → valV kvs (Sum.inl z : Key) = some (.ref l) → ∀ xs, H l = some (.lst xs) → FamR K (upd H l (.lst (xs ++ [v]))) kvs (addFam z r fam) la
  | _, _, _, .nil => fun q => nomatch q
  | _, _, _, .cons (k := k0) (l := l0) (xs := xs0) (rows := rows0) (kvs := kvs) (fam := fam) (la := la) e d n h => fun q xs hl => by
    have kr : KeepR H (upd H l (.lst (xs ++ [v]))) := KeepR.t (KeepT.upd ⟨_, hl⟩)
    by_cases c : k0 = z
    · have q' : valV ((Sum.inl k0, V.ref l0) :: kvs) (Sum.inl z : Key) = some (.ref l0) := valV_pos (by rw [c])
      rw [q'] at q
      have el : l0 = l := by injection q with q; injection q
      subst el
      rw [e] at hl
      injection hl with hl
      injection hl with hl
      subst hl
      unfold addFam
      rw [if_pos c]
      refine .cons upd_same ?_ n (h.keep kr fun a ha o eo => by rw [upd_ne (fun w => n (by rw [← w]; exact ha))]; exact eo)
      show DpAll K _ _ ((rows0 ++ [r]).map rowD)
      rw [List.map_append]
      exact dpAll_append (rows_move kr d) (.cons (row_move kr hv) .nil)
    · have e2 : valV ((Sum.inl k0, V.ref l0) :: kvs) (Sum.inl z : Key) = valV kvs (Sum.inl z : Key) := valV_neg (fun w => c (by injection w))
      rw [e2] at q
      have ml : l ∈ la := by
        rcases h.look z with ⟨h1, _⟩ | ⟨l', xs', rows', h1, h2, _⟩
        · rw [h1] at q; cases q
        · rw [h1] at q; injection q with q; injection q with q; subst q; exact h2
      have nl : l0 ≠ l := fun w => n (by rw [w]; exact ml)
      unfold addFam
      rw [if_neg c]
      exact .cons (by rw [upd_ne nl]; exact e) (rows_move kr d) n (h.app hv q xs hl)
theorem FamR.new {K : PySem.W.Frag} {H : Hp} {z : Int} {l : Addr} {v : V} {r : Int × Int} (hv : Dp K (tupH H) v (rowD r)) (hl : H l = some (.lst [v])) : ∀ {kvs : List (Key × V)} {fam : List (Int × List (Int × Int))} {la : List Addr}, FamR K H kvs fam la → l ∉ la → valV kvs (Sum.inl z : Key) = none → FamR K H (kvs ++ [(Sum.inl z, .ref l)]) (addFam z r fam) (la ++ [l])
  | _, _, _, .nil => fun _ _ => .cons hl (.cons hv .nil) (fun m => nomatch m) .nil
  | _, _, _, .cons (k := k0) (l := l0) (xs := xs0) (rows := rows0) (kvs := kvs) (fam := fam) (la := la) e d n h => fun nl q => by
    have c : ¬ k0 = z := fun c => by
      rw [valV_pos (by rw [c])] at q
      cases q
    rw [valV_neg (fun w => c (by injection w))] at q
    unfold addFam
    rw [if_neg c]
    refine .cons e d (fun m => ?_) (h.new hv hl (fun m => nl (List.mem_cons_of_mem _ m)) q)
    rcases List.mem_append.mp m with m | m
    · exact n m
    · rw [List.mem_singleton.mp m] at nl
      exact nl (List.mem_cons_self ..)
/-- a listing, all of it -/
structure LsO (K : PySem.W.Frag) (H0 H : Hp) (C ls : Addr) (L : LP) : Prop where
  ex : ∃ (dx hd cy kh kc hs cs fm : Addr) (xs ys : List V) (kvs : List (Key × V)) (la : List Addr), H ls = some (.ins C dx (lsF hd cy (lpPer L) (lpShift L) kh kc hs cs fm)) ∧ H hd = some (.lst xs) ∧ H cy = some (.lst ys) ∧ RowsAt H xs (lpHead L) ∧ RowsAt H ys (lpCycle L) ∧
    H kh = some (.tup xs) ∧ H kc = some (.tup ys) ∧ H hs = some (.dK (fsD (firstS (lpHead L)))) ∧ H cs = some (.dK (fsD (firstS (lpCycle L)))) ∧ H fm = some (.dK kvs) ∧ FamR K H kvs (famS (lpShift L) (firstS (lpCycle L))) la ∧ H0 hd = none ∧ H0 cy = none ∧ hd ≠ cy ∧ hd ∉ la ∧ cy ∉ la ∧ (lpRows L).length ≤ 100000
theorem LsO.a {K : PySem.W.Frag} {H0 H : Hp} {C ls : Addr} {L : LP} (h : LsO K H0 H C ls L) : LsA K H C ls L := by
  obtain ⟨dx, hd, cy, kh, kc, hs, cs, fm, xs, ys, kvs, la, h1, h2, h3, h4, h5, h6, h7, _⟩ := h.ex
  refine ⟨dx, hd, cy, kh, kc, hs, cs, fm, xs, ys, h1, h2, h3, h4.dp, h5.dp, ys, SqT.of h7, h5.len⟩
def spLI (K : PySem.W.Frag) (C : Addr) : Sp := fun vs H Q _ => ∃ (ls dx : Addr) (v : V) (d : PyData) (code : List Ins), vs = [.ref ls, v] ∧ H ls = some (.ins C dx []) ∧ Dp K H v (.tuple [.str "collector", d]) ∧ Lay (.tuple [.str "collector", d]) ∧ noL d = true ∧ isProg (.tuple [.str "collector", d]) = true ∧ bodyC 4 0 d = code.map Ins.toD ∧ (∀ i ∈ code, i.ok "collector") ∧
  ∀ H', Fx [ls] H H' → LsO K H H' C ls (runL code) → Q .non H'
section
variable {P : Program} {w : World} {K : PySem.W.Frag} {mg : Str → Option Value} {base : Heap}
theorem scLI : FnScope nsLI ["self", "program"] (defScope sLI) := ⟨rfl, rfl, rfl, by decide +kernel, rfl, by decide +kernel, by decide +kernel⟩
theorem ok_LI {f C : Addr} {fd : FuncData} (F : Fun K "__init__" "Listing.__init__" sLI f fd) (N : LNo K C) (mt : mg "tuple" = none) (CP : Cal P w K mg base 7 "is_program" ["thing"] (spProg K)) (CA : Cal P w K mg base 15 "assemble" ["program"] (spAsm K)) (CL : Cal P w K mg base 5 "list_parts" ["code"] (spLPt K)) (CF : Cal P w K mg base 1 "first_steps" ["rows"] (spFS K)) (MF : MCal P w K mg base 1 C "family" ["self", "integer"] (spFam K C)) :
    FnOk P w K mg base CX0 16 f fd ["self", "program"] (spLI K C) := by
  refine F.ok scLI (fun vs H Q E h => ?_) (fun cdv A outer s H vs Q E hr h => ?_)
  · obtain ⟨ls, dx, v, d, code, rfl, _⟩ := h
    rfl
  obtain ⟨ls, dx, v, d, code, rfl, ho, hd0, ld, nd, hp, hcode, hok, q⟩ := h
  have hr1 : Room 1 _ := hr.mono (by decide)
  have hr2 : Room 2 _ := hr.mono (by decide)
  have hr5 : Room 5 _ := hr.mono (by decide)
  have hr7 : Room 7 _ := hr.mono (by decide)
  have hu := hu_of hr
  refine ⟨_, PSs.nox (pss_cons (ps_if (PW.pt (pw_or (pt_not (pt_val (pe_call CP.G hr7 rfl CP.m CP.kp CP.b .nil pass0 (pa_cons (pv 1) pa_nil)))) (pw_or1 (pt_cmpR op_ne (pe_ix ix_tup (pv 1) pe_int (fun _ _ => rfl)) pe_str (nomark _))))) (pss_one ps_never) pss_nil)
    (pss_cons (ps_asg (pe_call CL.G hr5 rfl CL.m CL.kp CL.b .nil pass0 (pa_cons (pe_call CA.G hr rfl CA.m CA.kp CA.b .nil pass0 (pa_cons (pv 1) pa_nil)) pa_nil)) (pg_tup (by rfl) (pgs_cons (pg_name (i := 2) scLI.nd rfl (.inl rfl)) (pgs_cons (pg_name (i := 3) scLI.nd rfl (.inl rfl)) (pgs_cons (pg_name (i := 4) scLI.nd rfl (.inl rfl)) (pgs_cons (pg_name (i := 5) scLI.nd rfl (.inl rfl)) pgs_nil))))))
    (pss_cons (ps_fld (pv 0) (pv 2) rfl) (pss_cons (ps_fld (pv 0) (pv 3) rfl) (pss_cons (ps_fld (pv 0) (pv 4) rfl) (pss_cons (ps_fld (pv 0) (pv 5) rfl)
    (pss_cons (ps_fld (pv 0) (pe_callTy call_tuple_of (by rfl) mt (by decide +kernel) (pa_cons (pv 2) pa_nil)) rfl)
    (pss_cons (ps_fld (pv 0) (pe_callTy call_tuple_of (by rfl) mt (by decide +kernel) (pa_cons (pv 3) pa_nil)) rfl)
    (pss_cons (ps_fld (pv 0) (pe_call CF.G hr1 rfl CF.m CF.kp CF.b .nil pass0 (pa_cons (pv 2) pa_nil)) rfl)
    (pss_cons (ps_fld (pv 0) (pe_call CF.G hr1 rfl CF.m CF.kp CF.b .nil pass0 (pa_cons (pv 3) pa_nil)) rfl)
    (pss_cons (ps_fld (pv 0) pe_dnewK rfl)
    (pss_one (ps_lock (ps_for PassesOwn.never rfl (pi_items (pe_fld (pv 0) rfl)) (pg_tup (by rfl) (pgs_cons (pg_name (i := 6) scLI.nd rfl (.inl rfl)) (pgs_cons (pg_name (i := 7) scLI.nd rfl (.inl rfl)) pgs_nil)))
      (pss_one (ps_expr (pe_bm PySem.F.plainAttrs_list PySem.F.slot_list_append PySem.F.type_list_append mt_append (pe_dsetd (pe_fld (pv 0) rfl) (pe_meth (pv 0) N.cl MF.m MF.G hr1 MF.b .nil pass0 (pa_cons (pv 6) pa_nil)) (pe_lst pa_nil) ⟨rfl, rfl, rfl, rfl⟩) (pa_cons (pe_tup (pa_cons (pv 7) (pa_cons (pv 6) pa_nil))) pa_nil)))))))))))))))))), ?_⟩
  refine ⟨_, rfl, v, _, rfl, hd0, ld, fun H1 s1 => ⟨_, rfl, ?_⟩⟩
  rw [hp]
  obtain ⟨a, xsP, rfl, hs0, ha⟩ := dp_tup_inv hd0
  obtain ⟨x0, x1, rfl, hx0, hx1⟩ := dp_pair ha
  cases hx0
  refine iteF ⟨_, rfl, a, _, _, _, rfl, rfl, Same.tup s1 hs0, atI_nat (j := 0) rfl, rfl, _, rfl, ?_⟩
  refine ite2 (fun c => absurd c (by rw [decide_eq_true rfl]; decide)) (fun _ => ?_)
  refine ⟨_, rfl, .ref a, "collector", d, rfl, dp_mono s1 _ _ hd0, ld, nd, hp, fun H2 p ys0 s2 np ep hys0 => ?_⟩
  obtain ⟨c, hbc, hc⟩ := prog_bodyC hp
  obtain ⟨_, hcl⟩ := body_code_ok 0 (lay_mem (lay_tup ld) d (by simp)) hbc
  rw [hcode] at hys0 hcl
  rw [List.length_map] at hcl
  have hcl1 : code.length ≤ 100 := by omega
  have hlen := runL_len hcl1
  refine ⟨p, ys0, code, rfl, SqL.of ep, hys0, hok, hcl1, fun H3 t s3 nt tl => ?_⟩
  obtain ⟨hd, cy, xs, ys, et, eh, ec, dh, dc, nh3, nc3, nhc⟩ := tl
  have s13 : Same H H3 := (s1.trans s2).trans s3
  refine ⟨t, _, rfl, SqT.of et, rfl, _, _, rfl, _, _, rfl, _, _, rfl, _, _, rfl, rfl, ?_⟩
  have oH3 := s13 _ _ ho
  have fH3 : Fx [ls] H H3 := Fx.of s13
  refine ⟨_, rfl, _, rfl, ls, C, dx, _, rfl, oH3, N.cl, N.nHd, (by show 0 < 1000; decide), ?_⟩
  have fA1 : Fx [ls] H (upd H3 ls (.ins C dx (putF "head" (.ref hd) []))) := fH3.trans (Fx.upd (by simp))
  have gA1 : Fx [ls] H3 (upd H3 ls (.ins C dx (putF "head" (.ref hd) []))) := Fx.upd (by simp)
  have oA1 : (upd H3 ls (.ins C dx (putF "head" (.ref hd) []))) ls = some (.ins C dx [("head", .ref hd)]) := upd_same
  generalize upd H3 ls (.ins C dx (putF "head" (.ref hd) [])) = A1 at fA1 gA1 oA1 ⊢
  refine ⟨_, rfl, _, rfl, ls, C, dx, _, rfl, oA1, N.cl, N.nCy, (by show 1 < 1000; decide), ?_⟩
  have fA2 : Fx [ls] H (upd A1 ls (.ins C dx (putF "cycle" (.ref cy) [("head", .ref hd)]))) := fA1.trans (Fx.upd (by simp))
  have gA2 : Fx [ls] A1 (upd A1 ls (.ins C dx (putF "cycle" (.ref cy) [("head", .ref hd)]))) := Fx.upd (by simp)
  have oA2 : (upd A1 ls (.ins C dx (putF "cycle" (.ref cy) [("head", .ref hd)]))) ls = some (.ins C dx [("head", .ref hd), ("cycle", .ref cy)]) := upd_same
  generalize upd A1 ls (.ins C dx (putF "cycle" (.ref cy) [("head", .ref hd)])) = A2 at fA2 gA2 oA2 ⊢
  refine ⟨_, rfl, _, rfl, ls, C, dx, _, rfl, oA2, N.cl, N.nPe, (by show 2 < 1000; decide), ?_⟩
  have fA3 : Fx [ls] H (upd A2 ls (.ins C dx (putF "period" (.int (lpPer (runL code))) [("head", .ref hd), ("cycle", .ref cy)]))) := fA2.trans (Fx.upd (by simp))
  have gA3 : Fx [ls] A2 (upd A2 ls (.ins C dx (putF "period" (.int (lpPer (runL code))) [("head", .ref hd), ("cycle", .ref cy)]))) := Fx.upd (by simp)
  have oA3 : (upd A2 ls (.ins C dx (putF "period" (.int (lpPer (runL code))) [("head", .ref hd), ("cycle", .ref cy)]))) ls = some (.ins C dx [("head", .ref hd), ("cycle", .ref cy), ("period", .int (lpPer (runL code)))]) := upd_same
  generalize upd A2 ls (.ins C dx (putF "period" (.int (lpPer (runL code))) [("head", .ref hd), ("cycle", .ref cy)])) = A3 at fA3 gA3 oA3 ⊢
  refine ⟨_, rfl, _, rfl, ls, C, dx, _, rfl, oA3, N.cl, N.nSh, (by show 3 < 1000; decide), ?_⟩
  have fA4 : Fx [ls] H (upd A3 ls (.ins C dx (putF "shift" (.int (lpShift (runL code))) [("head", .ref hd), ("cycle", .ref cy), ("period", .int (lpPer (runL code)))]))) := fA3.trans (Fx.upd (by simp))
  have gA4 : Fx [ls] A3 (upd A3 ls (.ins C dx (putF "shift" (.int (lpShift (runL code))) [("head", .ref hd), ("cycle", .ref cy), ("period", .int (lpPer (runL code)))]))) := Fx.upd (by simp)
  have oA4 : (upd A3 ls (.ins C dx (putF "shift" (.int (lpShift (runL code))) [("head", .ref hd), ("cycle", .ref cy), ("period", .int (lpPer (runL code)))]))) ls = some (.ins C dx [("head", .ref hd), ("cycle", .ref cy), ("period", .int (lpPer (runL code))), ("shift", .int (lpShift (runL code)))]) := upd_same
  generalize upd A3 ls (.ins C dx (putF "shift" (.int (lpShift (runL code))) [("head", .ref hd), ("cycle", .ref cy), ("period", .int (lpPer (runL code)))])) = A4 at fA4 gA4 oA4 ⊢
  have keep : ∀ {Hx Hy : Hp} {p : Addr} {o : HO} {fs : List (Str × V)}, Fx [ls] Hx Hy → Hx ls = some (.ins C dx fs) → Hx p = some o → (∀ c d f, o ≠ .ins c d f) → Hy p = some o := fun {Hx Hy p o fs} fx ox e n => fx p o (fun z => by
    rw [List.mem_singleton.mp z, ox] at e
    injection e with e
    exact n _ _ _ e.symm) e
  have kT : ∀ {Hx Hy : Hp} {fs : List (Str × V)}, Fx [ls] Hx Hy → Hx ls = some (.ins C dx fs) → KeepT Hx Hy := fun {Hx Hy fs} fx ox => ⟨fun x l e => keep fx ox e (fun _ _ _ z => nomatch z), fun x o u e => keep fx ox e (fun _ _ _ z => nomatch z)⟩
  have g4 : Fx [ls] H3 A4 := ((gA1.trans gA2).trans gA3).trans gA4
  have eh4 := keep g4 oH3 eh (fun _ _ _ z => nomatch z)
  have ec4 := keep g4 oH3 ec (fun _ _ _ z => nomatch z)
  have dh4 := dh.keep (kT g4 oH3)
  have dc4 := dc.keep (kT g4 oH3)
  refine ⟨_, rfl, hd, xs, rfl, .inl ⟨SqL.of eh4, fun kh nkh => ?_⟩⟩
  have u5 := same_new nkh (.tup xs)
  have ekh : (upd A4 kh (.tup xs)) kh = some (.tup xs) := upd_same
  generalize upd A4 kh (.tup xs) = B5 at u5 ekh ⊢
  have oB5 := u5 _ _ oA4
  have fB5 : Fx [ls] H B5 := fA4.trans (Fx.of u5)
  refine ⟨_, rfl, ls, C, dx, _, rfl, oB5, N.cl, N.nKh, (by show 4 < 1000; decide), ?_⟩
  have fA5 : Fx [ls] H (upd B5 ls (.ins C dx (putF "kept_head" (.ref kh) [("head", .ref hd), ("cycle", .ref cy), ("period", .int (lpPer (runL code))), ("shift", .int (lpShift (runL code)))]))) := fB5.trans (Fx.upd (by simp))
  have gA5 : Fx [ls] B5 (upd B5 ls (.ins C dx (putF "kept_head" (.ref kh) [("head", .ref hd), ("cycle", .ref cy), ("period", .int (lpPer (runL code))), ("shift", .int (lpShift (runL code)))]))) := Fx.upd (by simp)
  have oA5 : (upd B5 ls (.ins C dx (putF "kept_head" (.ref kh) [("head", .ref hd), ("cycle", .ref cy), ("period", .int (lpPer (runL code))), ("shift", .int (lpShift (runL code)))]))) ls = some (.ins C dx [("head", .ref hd), ("cycle", .ref cy), ("period", .int (lpPer (runL code))), ("shift", .int (lpShift (runL code))), ("kept_head", .ref kh)]) := upd_same
  generalize upd B5 ls (.ins C dx (putF "kept_head" (.ref kh) [("head", .ref hd), ("cycle", .ref cy), ("period", .int (lpPer (runL code))), ("shift", .int (lpShift (runL code)))])) = A5 at fA5 gA5 oA5 ⊢
  have ec5 := keep gA5 oB5 (u5 _ _ ec4) (fun _ _ _ z => nomatch z)
  have ekh5 := keep gA5 oB5 ekh (fun _ _ _ z => nomatch z)
  refine ⟨_, rfl, cy, ys, rfl, .inl ⟨SqL.of ec5, fun kc nkc => ?_⟩⟩
  have u6 := same_new nkc (.tup ys)
  have ekc : (upd A5 kc (.tup ys)) kc = some (.tup ys) := upd_same
  generalize upd A5 kc (.tup ys) = B6 at u6 ekc ⊢
  have oB6 := u6 _ _ oA5
  have fB6 : Fx [ls] H B6 := fA5.trans (Fx.of u6)
  refine ⟨_, rfl, ls, C, dx, _, rfl, oB6, N.cl, N.nKc, (by show 5 < 1000; decide), ?_⟩
  have fA6 : Fx [ls] H (upd B6 ls (.ins C dx (putF "kept_cycle" (.ref kc) [("head", .ref hd), ("cycle", .ref cy), ("period", .int (lpPer (runL code))), ("shift", .int (lpShift (runL code))), ("kept_head", .ref kh)]))) := fB6.trans (Fx.upd (by simp))
  have gA6 : Fx [ls] B6 (upd B6 ls (.ins C dx (putF "kept_cycle" (.ref kc) [("head", .ref hd), ("cycle", .ref cy), ("period", .int (lpPer (runL code))), ("shift", .int (lpShift (runL code))), ("kept_head", .ref kh)]))) := Fx.upd (by simp)
  have oA6 : (upd B6 ls (.ins C dx (putF "kept_cycle" (.ref kc) [("head", .ref hd), ("cycle", .ref cy), ("period", .int (lpPer (runL code))), ("shift", .int (lpShift (runL code))), ("kept_head", .ref kh)]))) ls = some (.ins C dx [("head", .ref hd), ("cycle", .ref cy), ("period", .int (lpPer (runL code))), ("shift", .int (lpShift (runL code))), ("kept_head", .ref kh), ("kept_cycle", .ref kc)]) := upd_same
  generalize upd B6 ls (.ins C dx (putF "kept_cycle" (.ref kc) [("head", .ref hd), ("cycle", .ref cy), ("period", .int (lpPer (runL code))), ("shift", .int (lpShift (runL code))), ("kept_head", .ref kh)])) = A6 at fA6 gA6 oA6 ⊢
  have g46 : Fx [ls] A4 A6 := (((Fx.of u5).trans gA5).trans (Fx.of u6)).trans gA6
  have eh6 := keep g46 oA4 eh4 (fun _ _ _ z => nomatch z)
  have ec6 := keep g46 oA4 ec4 (fun _ _ _ z => nomatch z)
  have dh6 := dh4.keep (kT g46 oA4)
  have dc6 := dc4.keep (kT g46 oA4)
  have ekh6 := keep ((Fx.of u6).trans gA6) oA5 ekh5 (fun _ _ _ z => nomatch z)
  have ekc6 := keep gA6 oB6 ekc (fun _ _ _ z => nomatch z)
  refine ⟨_, rfl, hd, xs, lpHead (runL code), rfl, eh6, dh6.dp, Nat.le_trans (lpHead_len _) hlen, fun B7 hs u7 nhs ehs => ?_⟩
  have oB7 := u7 _ _ oA6
  have fB7 : Fx [ls] H B7 := fA6.trans (Fx.of u7)
  refine ⟨_, rfl, ls, C, dx, _, rfl, oB7, N.cl, N.nHs, (by show 6 < 1000; decide), ?_⟩
  have fA7 : Fx [ls] H (upd B7 ls (.ins C dx (putF "head_steps" (.ref hs) [("head", .ref hd), ("cycle", .ref cy), ("period", .int (lpPer (runL code))), ("shift", .int (lpShift (runL code))), ("kept_head", .ref kh), ("kept_cycle", .ref kc)]))) := fB7.trans (Fx.upd (by simp))
  have gA7 : Fx [ls] B7 (upd B7 ls (.ins C dx (putF "head_steps" (.ref hs) [("head", .ref hd), ("cycle", .ref cy), ("period", .int (lpPer (runL code))), ("shift", .int (lpShift (runL code))), ("kept_head", .ref kh), ("kept_cycle", .ref kc)]))) := Fx.upd (by simp)
  have oA7 : (upd B7 ls (.ins C dx (putF "head_steps" (.ref hs) [("head", .ref hd), ("cycle", .ref cy), ("period", .int (lpPer (runL code))), ("shift", .int (lpShift (runL code))), ("kept_head", .ref kh), ("kept_cycle", .ref kc)]))) ls = some (.ins C dx [("head", .ref hd), ("cycle", .ref cy), ("period", .int (lpPer (runL code))), ("shift", .int (lpShift (runL code))), ("kept_head", .ref kh), ("kept_cycle", .ref kc), ("head_steps", .ref hs)]) := upd_same
  generalize upd B7 ls (.ins C dx (putF "head_steps" (.ref hs) [("head", .ref hd), ("cycle", .ref cy), ("period", .int (lpPer (runL code))), ("shift", .int (lpShift (runL code))), ("kept_head", .ref kh), ("kept_cycle", .ref kc)])) = A7 at fA7 gA7 oA7 ⊢
  have g67 : Fx [ls] A6 A7 := (Fx.of u7).trans gA7
  have ec7 := keep g67 oA6 ec6 (fun _ _ _ z => nomatch z)
  have dc7 := dc6.keep (kT g67 oA6)
  have ehs7 := keep gA7 oB7 ehs (fun _ _ _ z => nomatch z)
  refine ⟨_, rfl, cy, ys, lpCycle (runL code), rfl, ec7, dc7.dp, Nat.le_trans (lpCycle_len _) hlen, fun B8 cs u8 ncs ecs => ?_⟩
  have oB8 := u8 _ _ oA7
  have fB8 : Fx [ls] H B8 := fA7.trans (Fx.of u8)
  refine ⟨_, rfl, ls, C, dx, _, rfl, oB8, N.cl, N.nCs, (by show 7 < 1000; decide), ?_⟩
  have fA8 : Fx [ls] H (upd B8 ls (.ins C dx (putF "cycle_steps" (.ref cs) [("head", .ref hd), ("cycle", .ref cy), ("period", .int (lpPer (runL code))), ("shift", .int (lpShift (runL code))), ("kept_head", .ref kh), ("kept_cycle", .ref kc), ("head_steps", .ref hs)]))) := fB8.trans (Fx.upd (by simp))
  have gA8 : Fx [ls] B8 (upd B8 ls (.ins C dx (putF "cycle_steps" (.ref cs) [("head", .ref hd), ("cycle", .ref cy), ("period", .int (lpPer (runL code))), ("shift", .int (lpShift (runL code))), ("kept_head", .ref kh), ("kept_cycle", .ref kc), ("head_steps", .ref hs)]))) := Fx.upd (by simp)
  have oA8 : (upd B8 ls (.ins C dx (putF "cycle_steps" (.ref cs) [("head", .ref hd), ("cycle", .ref cy), ("period", .int (lpPer (runL code))), ("shift", .int (lpShift (runL code))), ("kept_head", .ref kh), ("kept_cycle", .ref kc), ("head_steps", .ref hs)]))) ls = some (.ins C dx [("head", .ref hd), ("cycle", .ref cy), ("period", .int (lpPer (runL code))), ("shift", .int (lpShift (runL code))), ("kept_head", .ref kh), ("kept_cycle", .ref kc), ("head_steps", .ref hs), ("cycle_steps", .ref cs)]) := upd_same
  generalize upd B8 ls (.ins C dx (putF "cycle_steps" (.ref cs) [("head", .ref hd), ("cycle", .ref cy), ("period", .int (lpPer (runL code))), ("shift", .int (lpShift (runL code))), ("kept_head", .ref kh), ("kept_cycle", .ref kc), ("head_steps", .ref hs)])) = A8 at fA8 gA8 oA8 ⊢
  have ehs8 := keep ((Fx.of u8).trans gA8) oA7 ehs7 (fun _ _ _ z => nomatch z)
  have ecs8 := keep gA8 oB8 ecs (fun _ _ _ z => nomatch z)
  refine fun fm nfm => ?_
  have u9 := same_new nfm (.dK [])
  have efm : (upd A8 fm (.dK [])) fm = some (.dK []) := upd_same
  generalize upd A8 fm (.dK []) = B9 at u9 efm ⊢
  have oB9 := u9 _ _ oA8
  have fB9 : Fx [ls] H B9 := fA8.trans (Fx.of u9)
  refine ⟨_, rfl, ls, C, dx, _, rfl, oB9, N.cl, N.nFm, (by show 8 < 1000; decide), ?_⟩
  have fA9 : Fx [ls] H (upd B9 ls (.ins C dx (putF "families" (.ref fm) [("head", .ref hd), ("cycle", .ref cy), ("period", .int (lpPer (runL code))), ("shift", .int (lpShift (runL code))), ("kept_head", .ref kh), ("kept_cycle", .ref kc), ("head_steps", .ref hs), ("cycle_steps", .ref cs)]))) := fB9.trans (Fx.upd (by simp))
  have gA9 : Fx [ls] B9 (upd B9 ls (.ins C dx (putF "families" (.ref fm) [("head", .ref hd), ("cycle", .ref cy), ("period", .int (lpPer (runL code))), ("shift", .int (lpShift (runL code))), ("kept_head", .ref kh), ("kept_cycle", .ref kc), ("head_steps", .ref hs), ("cycle_steps", .ref cs)]))) := Fx.upd (by simp)
  have oA9 : (upd B9 ls (.ins C dx (putF "families" (.ref fm) [("head", .ref hd), ("cycle", .ref cy), ("period", .int (lpPer (runL code))), ("shift", .int (lpShift (runL code))), ("kept_head", .ref kh), ("kept_cycle", .ref kc), ("head_steps", .ref hs), ("cycle_steps", .ref cs)]))) ls = some (.ins C dx [("head", .ref hd), ("cycle", .ref cy), ("period", .int (lpPer (runL code))), ("shift", .int (lpShift (runL code))), ("kept_head", .ref kh), ("kept_cycle", .ref kc), ("head_steps", .ref hs), ("cycle_steps", .ref cs), ("families", .ref fm)]) := upd_same
  generalize upd B9 ls (.ins C dx (putF "families" (.ref fm) [("head", .ref hd), ("cycle", .ref cy), ("period", .int (lpPer (runL code))), ("shift", .int (lpShift (runL code))), ("kept_head", .ref kh), ("kept_cycle", .ref kc), ("head_steps", .ref hs), ("cycle_steps", .ref cs)])) = A9 at fA9 gA9 oA9 ⊢
  have g69 : Fx [ls] A6 A9 := (((g67.trans (Fx.of u8)).trans gA8).trans (Fx.of u9)).trans gA9
  have eh9 := keep g69 oA6 eh6 (fun _ _ _ z => nomatch z)
  have ec9 := keep g69 oA6 ec6 (fun _ _ _ z => nomatch z)
  have dh9 := dh6.keep (kT g69 oA6)
  have dc9 := dc6.keep (kT g69 oA6)
  have ekh9 := keep g69 oA6 ekh6 (fun _ _ _ z => nomatch z)
  have ekc9 := keep g69 oA6 ekc6 (fun _ _ _ z => nomatch z)
  have ehs9 := keep ((Fx.of u9).trans gA9) oA8 ehs8 (fun _ _ _ z => nomatch z)
  have ecs9 := keep ((Fx.of u9).trans gA9) oA8 ecs8 (fun _ _ _ z => nomatch z)
  have efm9 := keep gA9 oB9 efm (fun _ _ _ z => nomatch z)
  have hclen : (firstS (lpCycle (runL code))).length ≤ 100000 := Nat.le_trans (firstS_len _) (Nat.le_trans (lpCycle_len _) hlen)
  have sl : (fsD (firstS (lpCycle (runL code)))).length = (firstS (lpCycle (runL code))).length := by unfold fsD; rw [List.length_map]
  refine ⟨cs, _, ecs9, trivial, fun od => ?_⟩
  -- the dict is locked
  have nlc : ls ≠ cs := fun z => by rw [← z, oA9] at ecs9; cases ecs9
  have nfc : fm ≠ cs := fun z => ne_of_none ecs8 nfm z.symm
  have oL : (upd A9 cs (.frz od (.dK (fsD (firstS (lpCycle (runL code))))))) ls = some (.ins C dx (lsF hd cy (lpPer (runL code)) (lpShift (runL code)) kh kc hs cs fm)) := by rw [upd_ne nlc]; exact oA9
  have eL : (upd A9 cs (.frz od (.dK (fsD (firstS (lpCycle (runL code))))))) cs = some (.frz od (.dK (fsD (firstS (lpCycle (runL code)))))) := upd_same
  have fL : (upd A9 cs (.frz od (.dK (fsD (firstS (lpCycle (runL code))))))) fm = some (.dK []) := by rw [upd_ne nfc]; exact efm9
  have kL : Fx [cs] A9 (upd A9 cs (.frz od (.dK (fsD (firstS (lpCycle (runL code))))))) := Fx.upd (by simp)
  generalize upd A9 cs (.frz od (.dK (fsD (firstS (lpCycle (runL code)))))) = L1 at oL eL fL kL ⊢
  refine ⟨_, rfl, ls, C, dx, _, _, rfl, oL, N.cl, N.nCs, rfl, cs, od, _, rfl, eL, ?_⟩
  refine for_it walk_items (fun i σ Hx => ∃ (s6 s7 : Option V) (kvs : List (Key × V)) (la : List Addr), σ = [some (.ref ls), some (.ref a), some (.ref hd), some (.ref cy), some (.int (lpPer (runL code))), some (.int (lpShift (runL code))), s6, s7] ∧ Fx [fm] L1 Hx ∧ Hx fm = some (.dK kvs) ∧ FamR K Hx kvs (famS (lpShift (runL code)) ((firstS (lpCycle (runL code))).take i)) la ∧ ∀ a ∈ la, L1 a = none)
    ⟨none, none, [], [], rfl, fun p o _ e => e, fL, .nil, fun a m => nomatch m⟩ (fun i σ Hx _ ⟨_, _, _, _, _, fx, _⟩ => fx _ _ (by simp; exact fun z => nfc z.symm) eL) ?_ ?_
  · rintro i x σ Hx Hy hi ⟨s6, s7, kvs, la, rfl, fx, efx, fam, nla⟩ ⟨T, y, z, rfl, nT, rfl, hy, hz⟩
    rw [sl] at hi
    have er : (firstS (lpCycle (runL code)))[i]? = some (firstS (lpCycle (runL code)))[i] := List.getElem?_eq_getElem hi
    generalize (firstS (lpCycle (runL code)))[i] = r at er
    have hkv : (fsD (firstS (lpCycle (runL code))))[i]? = some (Sum.inl r.1, .int r.2) := by unfold fsD; rw [List.getElem?_map, er]; rfl
    dsimp only at hy hz
    rw [hkv] at hy hz
    have ey : y = .int r.1 := by injection hy with hy; exact hy.symm
    have ez : z = .int r.2 := by injection hz with hz; exact hz.symm
    subst ey ez
    have uT := same_new nT (.tup [.int r.1, .int r.2])
    have eT : (upd Hx T (.tup [.int r.1, .int r.2])) T = some (.tup [.int r.1, .int r.2]) := upd_same
    generalize upd Hx T (.tup [.int r.1, .int r.2]) = Hy at uT eT ⊢
    have oy : Hy ls = some (.ins C dx (lsF hd cy (lpPer (runL code)) (lpShift (runL code)) kh kc hs cs fm)) := uT _ _ (fx _ _ (by simp; exact fun z => by rw [z] at oL; rw [fL] at oL; cases oL) oL)
    refine ⟨T, _, rfl, SqT.of eT, rfl, _, _, rfl, _, _, rfl, rfl, ?_⟩
    have fam1 := fam.keep (KeepR.of uT) (fun a _ o e => uT _ _ e)
    have efy := uT _ _ efx
    refine ⟨_, rfl, ls, C, dx, _, _, rfl, oy, N.cl, N.nFm, rfl, fm, rfl, .inl ⟨_, .inl efy⟩, _, rfl, ls, dx, _, rfl, oy, rfl, _, rfl, ls, dx, _, (lpShift (runL code)), r.1, rfl, oy, rfl, (by show 0 ≤ sizeLine; decide), fun l nl => ?_⟩
    have ul := same_new nl (.lst [])
    have el : (upd Hy l (.lst [])) l = some (.lst []) := upd_same
    have hkl : kvs.length < sizeLine := by
      have h1 := fam.len
      have h2 := famS_len (lpShift (runL code)) ((firstS (lpCycle (runL code))).take i)
      rw [List.length_take] at h2
      exact Nat.lt_of_le_of_lt (by omega : _ ≤ 100000) (by decide)
    generalize upd Hy l (.lst []) = Hz at ul el ⊢
    have efz := ul _ _ efy
    have fam2 := fam1.keep (KeepR.of ul) (fun a _ o e => ul _ _ e)
    have fxz : Fx [fm] L1 Hz := fx.trans (Fx.of (uT.trans ul))
    have hall := famS_all (lpShift (runL code)) ((firstS (lpCycle (runL code))).take i)
    rw [List.length_take] at hall
    have nLl : L1 l = none := by
      cases zz : L1 l with
      | none => rfl
      | some o =>
        by_cases c : l = fm
        · rw [c, efy] at nl; cases nl
        · have := uT _ _ (fx l o (by simp; exact c) zz)
          rw [nl] at this; cases this
    have nlla : l ∉ la := fun m => by
      obtain ⟨xs', e'⟩ := fam1.there l m
      rw [nl] at e'; cases e'
    refine ⟨kvs, Sum.inl (famZ (lpShift (runL code)) r.1), efz, rfl, hkl, fun v hv => ?_, fun hv => ?_⟩
    · rcases fam2.look (famZ (lpShift (runL code)) r.1) with ⟨h1, _⟩ | ⟨l', xs', rows', h1, h2, h3, h4, h5, h6⟩
      · rw [h1] at hv; cases hv
      rw [h1] at hv
      have ev : v = .ref l' := by injection hv with hv; exact hv.symm
      subst ev
      refine ⟨.inl ⟨rfl, _, SqL.of h4⟩, _, rfl, _, rfl, (by show 2 ≤ sizeLine; decide), fun rp nrp => ?_⟩
      have dr := new_tup (K := K) (xs := [.int r.2, .int r.1]) nrp (.cons (.int r.2) (.cons (.int r.1) .nil))
      have ur := same_new nrp (.tup [.int r.2, .int r.1])
      generalize upd Hz rp (.tup [.int r.2, .int r.1]) = Hw at dr ur ⊢
      have hl := dpAll_len h5
      rw [List.length_map] at hl
      refine ⟨l', xs', _, rfl, rfl, ur _ _ h4, ?_, ?_⟩
      · rw [hl]; exact Nat.lt_of_le_of_lt (by omega : _ ≤ 100000) (by decide)
      have fam3 := (fam2.keep (KeepR.of ur) (fun a _ o e => ur _ _ e)).app (r := (r.2, r.1)) dr h1 xs' (ur _ _ h4)
      have nlf : fm ≠ l' := fun z => by rw [← z, efz] at h4; cases h4
      refine ⟨_, _, kvs, la, rfl, ?_, ?_, ?_, nla⟩
      · intro p o np e
        have np' : p ≠ l' := fun z => by rw [z, nla _ h2] at e; cases e
        rw [upd_ne np']
        exact ur _ _ (fxz p o np e)
      · rw [upd_ne nlf]; exact ur _ _ efz
      · rw [take_snoc er, famS_snoc]
        exact fam3
    · have hfz : Fx [fm] Hz (upd Hz fm (.dK (putK kvs (Sum.inl (famZ (lpShift (runL code)) r.1)) (.ref l)))) := Fx.upd (by simp)
      have nlf : l ≠ fm := fun z => by rw [z, efz] at el; cases el
      have el2 : (upd Hz fm (.dK (putK kvs (Sum.inl (famZ (lpShift (runL code)) r.1)) (.ref l)))) l = some (.lst []) := by rw [upd_ne nlf]; exact el
      have ef2 : (upd Hz fm (.dK (putK kvs (Sum.inl (famZ (lpShift (runL code)) r.1)) (.ref l)))) fm = some (.dK (kvs ++ [(Sum.inl (famZ (lpShift (runL code)) r.1), .ref l)])) := by rw [upd_same, putK_new _ hv]
      have kr2 : KeepR Hz (upd Hz fm (.dK (putK kvs (Sum.inl (famZ (lpShift (runL code)) r.1)) (.ref l)))) := KeepR.upd efz (fun _ z => nomatch z) (fun _ _ z => nomatch z)
      generalize upd Hz fm (.dK (putK kvs (Sum.inl (famZ (lpShift (runL code)) r.1)) (.ref l))) = Hv at hfz el2 ef2 kr2 ⊢
      refine ⟨.inl ⟨rfl, _, SqL.of el2⟩, _, rfl, _, rfl, (by show 2 ≤ sizeLine; decide), fun rp nrp => ?_⟩
      have dr := new_tup (K := K) (xs := [.int r.2, .int r.1]) nrp (.cons (.int r.2) (.cons (.int r.1) .nil))
      have ur := same_new nrp (.tup [.int r.2, .int r.1])
      generalize upd Hv rp (.tup [.int r.2, .int r.1]) = Hw at dr ur ⊢
      refine ⟨l, [], _, rfl, rfl, ur _ _ el2, (by show 0 < sizeLine; decide), ?_⟩
      have kr3 : KeepR Hw (upd Hw l (.lst ([] ++ [.ref rp]))) := KeepR.t (KeepT.upd ⟨_, ur _ _ el2⟩)
      have fam3 : FamR K (upd Hw l (.lst ([] ++ [.ref rp]))) kvs (famS (lpShift (runL code)) ((firstS (lpCycle (runL code))).take i)) la := fam2.keep ((kr2.trans (KeepR.of ur)).trans kr3) (fun a ma o e => by
        rw [upd_ne (fun z => nlla (by rw [← z]; exact ma))]
        exact ur _ _ (hfz a o (by
          simp
          intro z
          obtain ⟨xs', e'⟩ := fam2.there a ma
          rw [z, efz] at e'
          cases e') e))
      refine ⟨_, _, kvs ++ [(Sum.inl (famZ (lpShift (runL code)) r.1), .ref l)], la ++ [l], rfl, ?_, ?_, ?_, ?_⟩
      · intro p o np e
        have np' : p ≠ l := fun z => by rw [z, nLl] at e; cases e
        rw [upd_ne np']
        exact ur _ _ (hfz p o np (fxz p o np e))
      · rw [upd_ne (fun z => nlf z.symm)]; exact ur _ _ ef2
      · rw [take_snoc er, famS_snoc]
        exact fam3.new (row_move kr3 dr) upd_same nlla hv
      · intro a ma
        rcases List.mem_append.mp ma with ma | ma
        · exact nla a ma
        · rw [List.mem_singleton.mp ma]; exact nLl
  · rintro σ Hx ⟨s6, s7, kvs, la, rfl, fx, efx, fam, nla⟩
    rw [sl, List.take_length] at fam
    have ecx := fx _ _ (by simp; exact fun z => nfc z.symm) eL
    refine ⟨ecx, ?_⟩
    have kr : KeepR Hx (upd Hx cs (.dK (fsD (firstS (lpCycle (runL code)))))) := KeepR.upd ecx (fun _ z => nomatch z) (fun _ _ z => nomatch z)
    have famU : FamR K (upd Hx cs (.dK (fsD (firstS (lpCycle (runL code)))))) kvs (famS (lpShift (runL code)) (firstS (lpCycle (runL code)))) la := fam.keep kr (fun a ma o e => by
      rw [upd_ne (fun z => by
        obtain ⟨xs', e'⟩ := fam.there a ma
        rw [z, ecx] at e'
        cases e')]
      exact e)
    -- what stood ahead of the loop stands behind it
    have back : ∀ {p : Addr} {o : HO}, A9 p = some o → p ≠ fm → (upd Hx cs (.dK (fsD (firstS (lpCycle (runL code)))))) p = some o := fun {p o} e n1 => by
      by_cases c : p = cs
      · subst c
        rw [upd_same, ← e, ecs9]
      · rw [upd_ne c]
        exact fx p o (by simp; exact n1) (kL p o (by simp; exact c) e)
    have efU : (upd Hx cs (.dK (fsD (firstS (lpCycle (runL code)))))) fm = some (.dK kvs) := by rw [upd_ne nfc]; exact efx
    have bk : ∀ {p : Addr} {o : HO}, A9 p = some o → (∀ kv, o ≠ .dK kv) → (upd Hx cs (.dK (fsD (firstS (lpCycle (runL code)))))) p = some o := fun {p o} e n => back e (fun z => by rw [z, efm9] at e; injection e with e; exact n _ e.symm)
    have kU : KeepT A9 (upd Hx cs (.dK (fsD (firstS (lpCycle (runL code)))))) := ⟨fun x l e => bk e (fun _ z => nomatch z), fun x o u e => bk e (fun _ z => nomatch z)⟩
    have nAf : H fm = none := by
      cases zz : H fm with
      | none => rfl
      | some o =>
        by_cases c : fm = ls
        · rw [c, oA8] at nfm; cases nfm
        · have := fA8 fm o (by simp; exact c) zz
          rw [nfm] at this; cases this
    have newL : ∀ {p : Addr} {o : HO}, A9 p = some o → p ≠ cs → p ∉ la := fun {p o} e n m => by
      have h1 := nla p m
      have h2 := kL p o (by simp; exact n) e
      rw [h1] at h2; cases h2
    have hcs : ∀ {p : Addr} {l : List V}, A9 p = some (.lst l) → p ≠ cs := fun {p l} e z => by rw [z, ecs9] at e; cases e
    refine q _ (fun p o np e => ?_) ⟨dx, hd, cy, kh, kc, hs, cs, fm, xs, ys, kvs, la, bk oA9 (fun _ z => nomatch z), bk eh9 (fun _ z => nomatch z), bk ec9 (fun _ z => nomatch z), dh9.keep kU, dc9.keep kU, bk ekh9 (fun _ z => nomatch z), bk ekc9 (fun _ z => nomatch z), back ehs9 ?_, upd_same, efU, famU, ?_, ?_, ?_, newL eh9 (hcs eh9), newL ec9 (hcs ec9), hlen⟩
    · exact back (fA9 p o np e) (fun z => by rw [z, nAf] at e; cases e)
    · exact fun z => by
        have h := (Fx.of u8).trans gA8
        have h2 := keep h oA7 ehs7 (fun _ _ _ z => nomatch z)
        rw [z, nfm] at h2
        cases h2
    · exact (s1.trans s2).free nh3
    · exact (s1.trans s2).free nc3
    · exact nhc
end
/-! ### what holds of every walk of a collector -/
def RowsOk (rows : List (Int × Int)) (t ct : Int) : Prop := rows.Pairwise (fun a b => a.1 < b.1) ∧ ∀ r ∈ rows, 1 ≤ r.1 ∧ r.1 ≤ t ∧ 0 ≤ r.2 ∧ r.2 ≤ ct + 15
theorem RowsOk.mono {rows : List (Int × Int)} {t ct t' ct' : Int} (h : RowsOk rows t ct) (h1 : t ≤ t') (h2 : ct ≤ ct') : RowsOk rows t' ct' := ⟨h.1, fun r m => by
  obtain ⟨a, b, c, d⟩ := h.2 r m
  exact ⟨a, by omega, c, by omega⟩⟩
def LFact (T C : Int) : LP → Prop
  | .fin rows => RowsOk rows T C
  | .cyc f c t ct rows => 0 ≤ f ∧ f < t ∧ t ≤ T ∧ 0 ≤ c ∧ c ≤ ct ∧ ct ≤ C ∧ RowsOk rows t ct
theorem grown16 {i : Ins} {a b : Int} (hi : i.ok "collector") (h : in16 a b) : 0 ≤ i.grown a b ∧ i.grown a b ≤ 15 := by
  cases i with
  | grow t => exact tval16 h hi.2
  | _ => exact ⟨Int.le_refl 0, (by decide : (0 : Int) ≤ 15)⟩
theorem rowsOf_ok {i : Ins} {t ct : Int} {s : S3} {rows : List (Int × Int)} (hi : i.ok "collector") (h : in16 s.a s.b) (ht : 0 ≤ t) (hct : 0 ≤ ct) (hr : RowsOk rows t ct) : RowsOk (rows ++ rowsOf t ct s i) (t + i.cost) (ct + i.grown s.a s.b) := by
  have hc := cost_pos hi
  have hg := grown16 hi h
  have hr' := hr.mono (t' := t + i.cost) (ct' := ct + i.grown s.a s.b) (by omega) (by omega)
  cases i with
  | lst d =>
    have hv := tval16 h hi.2
    have e : rowsOf t ct s (.lst d) = [(t + 1, ct + tval s.a s.b d)] := rfl
    have e1 : Ins.cost (.lst d) = 1 := rfl
    have e2 : Ins.grown s.a s.b (.lst d) = 0 := rfl
    rw [e]
    refine ⟨List.pairwise_append.mpr ⟨hr'.1, List.pairwise_singleton _ _, fun a ha b hb => ?_⟩, fun r m => ?_⟩
    · rw [List.mem_singleton.mp hb]
      have := (hr.2 a ha).2.1
      show a.1 < t + 1
      omega
    · rcases List.mem_append.mp m with m | m
      · exact hr'.2 r m
      · rw [List.mem_singleton.mp m, e1, e2]
        exact ⟨by show 1 ≤ t + 1; omega, by show t + 1 ≤ t + 1; omega, by show 0 ≤ ct + tval s.a s.b d; omega, by show ct + tval s.a s.b d ≤ ct + 0 + 15; omega⟩
  | _ =>
    refine (?_ : RowsOk (rows ++ []) _ _)
    rw [List.append_nil]
    exact hr'
theorem loopL_fact {code : List Ins} (hok : ∀ i ∈ code, i.ok "collector") : ∀ (n : Nat) (s : S3) (t ct : Int) (seen : List (S3 × (Int × Int))) (rows : List (Int × Int)), in16 s.a s.b → (∀ e ∈ seen, 0 ≤ e.2.1 ∧ e.2.1 < t ∧ 0 ≤ e.2.2 ∧ e.2.2 ≤ ct) → 0 ≤ t → 0 ≤ ct → RowsOk rows t ct → LFact (t + n * longest) (ct + n * 15) (loopL code n s t ct seen rows)
  | 0, s, t, ct, seen, rows => fun _ _ _ _ hr => hr.mono (by simp) (by simp)
  | n + 1, s, t, ct, seen, rows => fun h hs ht hct hr => by
    have hL : (0 : Int) < longest := by decide
    have hn : ((n + 1 : Nat) : Int) * longest = (n : Int) * longest + longest := by rw [Int.natCast_add, Int.add_mul]; simp
    have hn2 : (0 : Int) ≤ (n : Int) * longest := Int.mul_nonneg (Int.natCast_nonneg _) (Int.le_of_lt hL)
    rw [loopL_eq]
    cases el : lookL s seen with
    | some fc =>
      have hm : ∃ e ∈ seen, e.2 = fc := by
        unfold lookL at el
        rw [Option.map_eq_some_iff] at el
        obtain ⟨e, he, hf⟩ := el
        exact ⟨e, List.mem_of_find?_eq_some he, hf⟩
      obtain ⟨e, me, rfl⟩ := hm
      obtain ⟨h1, h2, h3, h4⟩ := hs e me
      exact ⟨h1, h2, by rw [hn]; omega, h3, h4, by omega, hr⟩
    | none =>
      dsimp only
      cases ec : code[s.pc]? with
      | none => exact hr.mono (by rw [hn]; omega) (by omega)
      | some i =>
        have hi := hok i (List.mem_of_getElem? ec)
        have hc := cost_pos hi
        have hg := grown16 hi h
        have r := loopL_fact hok n (nextL s i) (t + i.cost) (ct + i.grown s.a s.b) (seen ++ [(s, (t, ct))]) (rows ++ rowsOf t ct s i) (held16 hi h) (fun e me => by
          rcases List.mem_append.mp me with me | me
          · obtain ⟨h1, h2, h3, h4⟩ := hs e me
            exact ⟨h1, by omega, h3, by omega⟩
          · rw [List.mem_singleton.mp me]
            exact ⟨ht, by show t < t + i.cost; omega, hct, by show ct ≤ ct + i.grown s.a s.b; omega⟩) (by omega) (by omega) (rowsOf_ok hi h ht hct hr)
        dsimp only
        generalize loopL code n (nextL s i) (t + i.cost) (ct + i.grown s.a s.b) (seen ++ [(s, (t, ct))]) (rows ++ rowsOf t ct s i) = R at r ⊢
        cases R with
        | fin rs => exact RowsOk.mono r (by rw [hn]; omega) (by omega)
        | cyc f c t' ct' rs =>
          obtain ⟨h1, h2, h3, h4, h5, h6, h7⟩ := r
          exact ⟨h1, h2, by rw [hn]; omega, h4, h5, by omega, h7⟩
/-- the bounds of a listing -/
structure LpOk (L : LP) : Prop where
  per : lpCycle L ≠ [] → 0 < lpPer L
  per0 : 0 ≤ lpPer L
  perB : lpPer L < 2 ^ 200
  sh0 : 0 ≤ lpShift L
  shB : lpShift L < 2 ^ 200
  rows : ∀ r ∈ lpRows L, 1 ≤ r.1 ∧ r.1 < 2 ^ 200 ∧ 0 ≤ r.2 ∧ r.2 < 2 ^ 200
  srt : (lpRows L).Pairwise fun a b => a.1 < b.1
theorem runL_fact {code : List Ins} (hok : ∀ i ∈ code, i.ok "collector") : LFact (fuel code * longest) (fuel code * 15) (runL code) := by
  have h := loopL_fact hok (fuel code) ⟨0, 0, 0⟩ 0 0 [] [] ⟨⟨by decide, by decide⟩, by decide, by decide⟩ (fun e m => nomatch m) (Int.le_refl 0) (Int.le_refl 0) ⟨List.Pairwise.nil, fun r m => nomatch m⟩
  rw [Int.zero_add, Int.zero_add] at h
  exact h
theorem runL_ok {code : List Ins} (hok : ∀ i ∈ code, i.ok "collector") (hcl : code.length ≤ 100) : LpOk (runL code) := by
  have h := runL_fact hok
  have hf : ((fuel code : Nat) : Int) ≤ 25601 := by unfold fuel; omega
  have hT : ((fuel code : Nat) : Int) * longest ≤ 25601 * longest := Int.mul_le_mul_of_nonneg_right hf (by decide)
  have hB : (25601 : Int) * longest + 25601 * 15 + 15 < 2 ^ 200 := by decide +kernel
  have hL : (0 : Int) < longest := by decide
  have hC : ((fuel code : Nat) : Int) * 15 ≤ 25601 * 15 := by omega
  have h0 : (0 : Int) ≤ (fuel code : Nat) * longest := Int.mul_nonneg (Int.natCast_nonneg _) (Int.le_of_lt hL)
  cases e : runL code with
  | fin rows =>
    rw [e] at h
    refine ⟨fun z => absurd rfl z, Int.le_refl 0, by show (0 : Int) < 2 ^ 200; decide +kernel, Int.le_refl 0, by show (0 : Int) < 2 ^ 200; decide +kernel, fun r m => ?_, h.1⟩
    obtain ⟨h1, h2, h3, h4⟩ := h.2 r m
    exact ⟨h1, by omega, h3, by omega⟩
  | cyc f c t ct rows =>
    rw [e] at h
    obtain ⟨h1, h2, h3, h4, h5, h6, h7⟩ := h
    refine ⟨fun _ => by show 0 < t - f; omega, by show 0 ≤ t - f; omega, by show t - f < 2 ^ 200; omega, by show 0 ≤ ct - c; omega, by show ct - c < 2 ^ 200; omega, fun r m => ?_, h7.1⟩
    obtain ⟨g1, g2, g3, g4⟩ := h7.2 r m
    exact ⟨g1, by omega, g3, by omega⟩
theorem head_mem {L : LP} {r : Int × Int} (m : r ∈ lpHead L) : r ∈ lpRows L := by
  cases L with
  | fin rows => exact m
  | cyc f c t ct rows => exact (List.mem_filter.mp m).1
theorem cycle_mem {L : LP} {r : Int × Int} (m : r ∈ lpCycle L) : r ∈ lpRows L := by
  cases L with
  | fin rows => exact nomatch m
  | cyc f c t ct rows => exact (List.mem_filter.mp m).1
/-! ### until -/
abbrev sUnt : Stmt := inClass (top 43) 3
abbrev sRU : Stmt := inClass (top 43) 4
abbrev nsU : List Str := ["self", "age", "rows", "step", "integer", "times", "row"]
def roundsU (per step age : Int) : Int := if age < step then 0 else (age - step) / per + 1
def roundRows (per sh : Int) (r : Int × Int) (n : Nat) : List (Int × Int) := (List.range n).map fun t => (r.1 + (t : Nat) * per, r.2 + (t : Nat) * sh)
def rawU (L : LP) (age : Int) : List (Int × Int) := (lpHead L).filter (fun r => decide (r.1 ≤ age)) ++ (lpCycle L).flatMap fun r => roundRows (lpPer L) (lpShift L) r (roundsU (lpPer L) r.1 age).toNat
def cntU (L : LP) (age : Int) : Int := (((lpHead L).filter (fun r => decide (r.1 ≤ age))).length : Nat) + ((lpCycle L).map fun r => roundsU (lpPer L) r.1 age).sum
def srtP (rows : List (Int × Int)) : Prop := rows.Pairwise fun x y => SrtO.lexB y x = false
def spRU (K : PySem.W.Frag) (C : Addr) : Sp := fun vs H Q _ => ∃ (ls dx : Addr) (fs : List (Str × V)) (per step age : Int), vs = [.ref ls, .int step, .int age] ∧ H ls = some (.ins C dx fs) ∧ fs.lookup ("period" : Str) = some (.int per) ∧ 0 < per ∧ per < 2 ^ 200 ∧ Q (.int (roundsU per step age)) H
def spUnt (K : PySem.W.Frag) (C : Addr) : Sp := fun vs H Q _ => ∃ (ls : Addr) (H0 : Hp) (L : LP) (age : Int), vs = [.ref ls, .int age] ∧ LsO K H0 H C ls L ∧ LpOk L ∧ 0 ≤ age ∧ cntU L age ≤ 1000 ∧
  ∀ H' D ys rows, Same H H' → H D = none → H' D = some (.lst ys) → RowsAt H' ys rows → rows.Perm (rawU L age) → srtP rows → Q (.ref D) H'
theorem roundsU_nn {per step age : Int} (hp : 0 < per) : 0 ≤ roundsU per step age := by
  unfold roundsU
  split
  · exact Int.le_refl 0
  · have := Int.ediv_nonneg (show 0 ≤ age - step by omega) (Int.le_of_lt hp)
    omega
/-- the two ints of a tuple -/
def keyV (H : Hp) : V → Int × Int
  | .ref t => match H t with
    | some (.tup [.int i, .int j]) => (i, j)
    | _ => (0, 0)
  | _ => (0, 0)
theorem keyV_at {H : Hp} {t : Addr} {i j : Int} (h : H t = some (.tup [.int i, .int j])) : keyV H (.ref t) = (i, j) := by
  unfold keyV
  simp only [h]
theorem RowsAt.keys {H : Hp} : ∀ {xs : List V} {rows : List (Int × Int)}, RowsAt H xs rows → xs.map (keyV H) = rows
  | _, _, .nil => rfl
  | _, _, .cons e h => by rw [List.map_cons, keyV_at e, h.keys]
theorem RowsAt.of_keys {H : Hp} : ∀ {ys : List V}, (∀ y ∈ ys, ∃ t, y = .ref t ∧ H t = some (.tup [.int (keyV H y).1, .int (keyV H y).2])) → RowsAt H ys (ys.map (keyV H))
  | [], _ => .nil
  | y :: ys, h => by
    obtain ⟨t, rfl, e⟩ := h y (List.mem_cons_self ..)
    exact .cons e (RowsAt.of_keys fun z m => h z (List.mem_cons_of_mem _ m))
theorem RowsAt.tups {H : Hp} {xs : List V} {rows : List (Int × Int)} (h : RowsAt H xs rows) : ∀ x ∈ xs, ∃ t, x = V.ref t ∧ H t = some (.tup [.int (keyV H x).1, .int (keyV H x).2]) := fun x m => by
  obtain ⟨p, r, rfl, _, e⟩ := h.mem m
  exact ⟨p, rfl, by rw [keyV_at e]; exact e⟩
/-- sorted of rows -/
theorem rows_sorted {H : Hp} {xs ys : List V} {rows : List (Int × Int)} (h : RowsAt H xs rows) (hs : SrtO.Srtd (ltP (keyV H)) ys) (hp : ys.Perm xs) : RowsAt H ys (ys.map (keyV H)) ∧ (ys.map (keyV H)).Perm rows ∧ srtP (ys.map (keyV H)) := by
  refine ⟨RowsAt.of_keys fun y m => h.tups y (hp.mem_iff.mp m), ?_, List.pairwise_map.mpr hs⟩
  have := hp.map (keyV H)
  rwa [h.keys] at this
theorem flat_len {per sh : Int} (age : Int) : ∀ rs : List (Int × Int), (∀ r ∈ rs, 0 < per) → ((rs.flatMap fun r => roundRows per sh r (roundsU per r.1 age).toNat).length : Int) = (rs.map fun r => roundsU per r.1 age).sum
  | [], _ => rfl
  | r :: t, h => by
    rw [List.flatMap_cons, List.length_append, List.map_cons, List.sum_cons, Int.natCast_add, flat_len age t (fun x m => h x (List.mem_cons_of_mem _ m))]
    unfold roundRows
    rw [List.length_map, List.length_range, Int.toNat_of_nonneg (roundsU_nn (h r (List.mem_cons_self ..)))]
theorem roundRows_succ (per sh : Int) (r : Int × Int) (n : Nat) : roundRows per sh r (n + 1) = roundRows per sh r n ++ [(r.1 + (n : Nat) * per, r.2 + (n : Nat) * sh)] := by
  unfold roundRows
  rw [List.range_succ, List.map_append]
  rfl
theorem sum_nn {f : Int × Int → Int} : ∀ rs : List (Int × Int), (∀ r ∈ rs, 0 ≤ f r) → 0 ≤ (rs.map f).sum
  | [], _ => Int.le_refl 0
  | r :: t, h => by
    rw [List.map_cons, List.sum_cons]
    have h1 := h r (List.mem_cons_self ..)
    have h2 := sum_nn t fun x m => h x (List.mem_cons_of_mem _ m)
    omega
theorem sum_mem {f : Int × Int → Int} : ∀ rs : List (Int × Int), (∀ r ∈ rs, 0 ≤ f r) → ∀ r ∈ rs, f r ≤ (rs.map f).sum
  | [], _, r, m => nomatch m
  | a :: t, h, r, m => by
    rw [List.map_cons, List.sum_cons]
    have h1 := h a (List.mem_cons_self ..)
    have h2 := sum_nn t fun x m => h x (List.mem_cons_of_mem _ m)
    rcases List.mem_cons.mp m with rfl | m
    · omega
    · have := sum_mem t (fun x m => h x (List.mem_cons_of_mem _ m)) r m
      omega
theorem rawU_len {L : LP} (hL : LpOk L) (age : Int) : ((rawU L age).length : Int) = cntU L age := by
  unfold rawU cntU
  rw [List.length_append, Int.natCast_add, flat_len age _ (fun r m => hL.per (fun z => by rw [z] at m; exact nomatch m))]
section
variable {P : Program} {w : World} {K : PySem.W.Frag} {mg : Str → Option Value} {base : Heap}
theorem scRU : FnScope ["self", "step", "age"] ["self", "step", "age"] (defScope sRU) := ⟨rfl, rfl, rfl, by decide +kernel, rfl, by decide +kernel, by decide +kernel⟩
theorem ok_RU {f C : Addr} {fd : FuncData} (F : Fun K "rounds_until" "Listing.rounds_until" sRU f fd) (N : LNo K C) : FnOk P w K mg base CX0 1 f fd ["self", "step", "age"] (spRU K C) := by
  refine F.ok scRU (fun vs H Q E h => ?_) (fun cdv A outer s H vs Q E hr h => ?_)
  · obtain ⟨ls, dx, fs, per, step, age, rfl, _⟩ := h
    rfl
  obtain ⟨ls, dx, fs, per, step, age, rfl, ho, hl, hp, hpB, q⟩ := h
  refine ⟨_, pss_one (ps_ret (pe_ifExp (pt_cmpR op_lt (pv 2) (pv 1) (nomark _)) pe_int (pe_op op_add (pe_op op_fdivW (pe_op op_sub (pv 2) (pv 1)) (pe_fld (pv 0) rfl)) pe_int))), ?_⟩
  refine ⟨_, rfl, _, rfl, _, _, rfl, rfl, _, rfl, ?_⟩
  unfold roundsU at q
  by_cases c : age < step
  · rw [if_pos c] at q
    refine ite2 (fun _ => q) (fun c' => absurd (decide_eq_true c) c')
  · rw [if_neg c] at q
    refine ite2 (fun c' => absurd (of_decide_eq_true c') c) (fun _ => ?_)
    refine ⟨_, rfl, _, rfl, _, _, rfl, rfl, _, rfl, ls, C, dx, fs, _, rfl, ho, N.cl, N.nPe, hl, _, _, rfl, rfl, wide_div hp (b := 200) (by omega) (by decide) (by decide), _, _, rfl, rfl, q⟩
end
theorem flat_take_len {f : Int × Int → List (Int × Int)} (rs : List (Int × Int)) (i : Nat) : ((rs.take i).flatMap f).length ≤ (rs.flatMap f).length := by
  have h : (rs.flatMap f).length = ((rs.take i).flatMap f).length + ((rs.drop i).flatMap f).length := by
    rw [← List.length_append, ← List.flatMap_append, List.take_append_drop]
  omega
section
variable {P : Program} {w : World} {K : PySem.W.Frag} {mg : Str → Option Value} {base : Heap}
theorem scU : FnScope nsU ["self", "age"] (defScope sUnt) := ⟨rfl, rfl, rfl, by decide +kernel, rfl, by decide +kernel, by decide +kernel⟩
theorem ok_Unt {f C : Addr} {fd : FuncData} {tML : Tok} (F : Fun K "until" "Listing.until" sUnt f fd) (T : Gs K mg) (T2 : G2 mg) (ms : mg "sum" = none) (mo : mg "sorted" = none) (mm : mg "MOST_LISTED" = some (.int 1000 tML)) (N : LNo K C) (CF : Cal P w K mg base 1 "is_integer_from" ["thing", "least"] (spFrom K)) (MR : MCal P w K mg base 1 C "rounds_until" ["self", "step", "age"] (spRU K C)) :
    FnOk P w K mg base CX0 2 f fd ["self", "age"] (spUnt K C) := by
  refine F.ok scU (fun vs H Q E h => ?_) (fun cdv A outer s H vs Q E hr h => ?_)
  · obtain ⟨ls, H0, L, age, rfl, _⟩ := h
    rfl
  obtain ⟨ls, H0, L, age, rfl, hls, hL, hage, hcnt, q⟩ := h
  obtain ⟨dx, hd, cy, kh, kc, hs, cs, fm, xs, ys, kvs, la, ho, eh, ec, dh, dc, ekh, ekc, _, _, _, _, _, _, _, _, _, hlen⟩ := hls.ex
  refine ⟨_, PSs.nox (pss_cons (ps_if (pt_not (pt_val (pe_call CF.G hr rfl CF.m CF.kp CF.b .nil pass0 (pa_cons (pv 1) (pa_cons pe_int pa_nil))))) (pss_one ps_never) pss_nil)
    (pss_cons (ps_setLc (i := 2) (own := [("row", 6)]) (g := gName 6) rfl scU.nd rfl rfl (sw_true rfl rfl rfl (by decide +kernel)) (pi_tup (pe_fld (pv 0) rfl)) (blkOk_by (N := nsU) (sc := defScope sUnt) (by decide +kernel))
        (fun _ _ _ _ _ => pg_name (i := 6) scU.nd rfl (.inl rfl)) (fun _ _ _ _ _ => (pts_one (pt_cmpR op_le (pe_ix (r := rIxT K) ix_tup (pv 6) pe_int (fun _ _ => rfl)) (pv 1) (nomark _)))) (fun _ _ _ _ _ => pv 6))
    (pss_cons (ps_if (pt_cmpR op_gt (pe_op op_add (pe_callB call_len_seq (by rfl) T.len PySem.boot_len (pa_cons (pv 2) pa_nil)) (pe_callB (cr_sum rfl) (by rfl) ms (by decide +kernel) (pa_cons
        (pe_lc (own := [("step", 3), ("integer", 4)]) (g := gTup K 2 (gCons (gName 3) (gCons (gName 4) gNil))) (tt := tYes) rfl scU.nd (pi_tup (pe_fld (pv 0) rfl)) (blkOk_by (N := nsU) (sc := defScope sUnt) (by decide +kernel))
          (fun _ _ _ _ _ => pg_tup (by rfl) (pgs_cons (pg_name (i := 3) scU.nd rfl (.inl rfl)) (pgs_cons (pg_name (i := 4) scU.nd rfl (.inl rfl)) pgs_nil)))
          (fun _ _ _ _ _ => pts_nil)
          (fun _ _ _ _ _ => pe_meth (pv 0) N.cl MR.m MR.G hr MR.b .nil pass0 (pa_cons (pv 3) (pa_cons (pv 1) pa_nil)))) pa_nil))) (pe_gint rfl mm) (nomark _)) (pss_one ps_never) pss_nil)
    (pss_cons (ps_for PassesOwn.never rfl (pi_tup (pe_fld (pv 0) rfl)) (pg_tup (by rfl) (pgs_cons (pg_name (i := 3) scU.nd rfl (.inl rfl)) (pgs_cons (pg_name (i := 4) scU.nd rfl (.inl rfl)) pgs_nil)))
      (pss_one (ps_for PassesOwn.never rfl (pi_range1 (by rfl) T2.range (pa_cons (pe_meth (pv 0) N.cl MR.m MR.G hr MR.b .nil pass0 (pa_cons (pv 3) (pa_cons (pv 1) pa_nil))) pa_nil)) (pg_name (i := 5) scU.nd rfl (.inl rfl))
        (pss_one (ps_expr (pe_bm PySem.F.plainAttrs_list PySem.F.slot_list_append PySem.F.type_list_append mt_append (pv 2) (pa_cons (pe_tup (pa_cons (pe_op op_add (pv 3) (pe_op op_mul (pv 5) (pe_fld (pv 0) rfl))) (pa_cons (pe_op op_add (pv 4) (pe_op op_mul (pv 5) (pe_fld (pv 0) rfl))) pa_nil))) pa_nil)))))))
    (pss_one (ps_ret (pe_callB cr_sortedPO (by rfl) mo (by decide +kernel) (pa_cons (pv 2) pa_nil)))))))), ?_⟩
  refine ⟨_, rfl, _, .int age, 0, rfl, .int age, _, rfl, ?_⟩
  have e0 : intFrom (.int age) 0 = true := decide_eq_true hage
  rw [e0]
  refine iteF ?_
  have hhl : (lpHead L).length ≤ 100000 := Nat.le_trans (lpHead_len L) hlen
  refine ⟨_, rfl, ls, C, dx, _, _, rfl, ho, N.cl, N.nKh, rfl, kh, rfl, ⟨_, SqT.of ekh⟩, fun D nD => lc_rowsW (walk_tup (K := K) (a := kh) (xs := xs)) (rows := lpHead L) (φ := fun r => decide (r.1 ≤ age)) (fun Hx sx => SqT.of (sx _ _ ekh)) (fun _ => ⟨rfl, rfl⟩) (fun p r Hx Qx sx hp qx => ⟨_, rfl, p, _, _, _, rfl, rfl, SqT.of hp, atI_nat (j := 0) rfl, _, rfl, _, _, rfl, rfl, _, rfl, qx⟩) dh hhl nD (fun H1 rs u1 e1 d1 => ?_)⟩
  have ho1 := u1 _ _ ho
  have ekc1 := u1 _ _ ekc
  have dc1 := dc.keep (KeepT.of u1)
  have hcl : (lpCycle L).length ≤ 100000 := Nat.le_trans (lpCycle_len L) hlen
  have hper : ∀ r ∈ lpCycle L, 0 < lpPer L := fun r m => hL.per (fun z => by rw [z] at m; exact nomatch m)
  have hnn : ∀ r ∈ lpCycle L, 0 ≤ roundsU (lpPer L) r.1 age := fun r m => roundsU_nn (hper r m)
  have hsum := sum_nn (f := fun r => roundsU (lpPer L) r.1 age) (lpCycle L) hnn
  have hfl := flat_len (sh := lpShift L) age (lpCycle L) hper
  unfold cntU at hcnt
  refine ⟨_, rfl, D, rs, rfl, .inl (SqL.of e1), _, rfl, ls, C, dx, _, _, rfl, ho1, N.cl, N.nKc, rfl, kc, rfl, ⟨_, SqT.of ekc1⟩, fun G nG => lc_it (walk_tup (K := K) (a := kc) (xs := ys)) (fun i Hx => Same H1 Hx ∧ Hx G = some (.lst ((((lpCycle L).take i).map fun r => roundsU (lpPer L) r.1 age).map V.int))) ⟨same_new nG _, upd_same⟩ (fun i Hx _ ⟨sx, _⟩ => SqT.of (sx _ _ ekc1)) ?_ ?_⟩
  · rintro i v Hx Hy hi ⟨sx, eG⟩ ⟨rfl, hv⟩
    obtain ⟨p, r, rfl, er, ep⟩ := dc1.get hv
    have hil : i < (lpCycle L).length := (List.getElem?_eq_some_iff.mp er).1
    have hm := List.mem_of_getElem? er
    refine ⟨p, _, rfl, SqT.of (sx _ _ ep), rfl, _, _, rfl, _, _, rfl, rfl, rfl, ?_⟩
    refine ⟨_, rfl, ls, dx, _, rfl, sx _ _ ho1, rfl, _, rfl, _, rfl, ls, dx, _, lpPer L, r.1, age, rfl, sx _ _ ho1, rfl, hper r hm, hL.perB, _, eG, ?_, same_upd sx nG _, ?_⟩
    · rw [List.length_map, List.length_map, List.length_take]
      exact Nat.lt_of_le_of_lt (by omega : _ ≤ 100000) (by decide)
    · rw [upd_same, take_snoc er, List.map_append, List.map_append]
      rfl
  rintro H2 ⟨u2, eG⟩
  rw [dc1.len, List.take_length] at eG
  refine ⟨G, _, rfl, SqL.of eG, _, _, rfl, rfl, _, _, rfl, rfl, _, rfl, ?_⟩
  have hrl := d1.len
  refine ite2 (fun c => absurd (of_decide_eq_true c) ?_) (fun _ => ?_)
  · show ¬ (1000 : Int) < ((rs.length : Nat) : Int) + _
    rw [hrl]
    omega
  have ho2 := u2 _ _ ho1
  have ekc2 := u2 _ _ ekc1
  have dc2 := dc1.keep (KeepT.of u2)
  have d2 := d1.keep (KeepT.of u2)
  have e2 := u2 _ _ e1
  have nls : ls ≠ D := fun z => by rw [z, nD] at ho; cases ho
  have nkc : kc ≠ D := fun z => by rw [z, nD] at ekc; cases ekc
  have kD : ∀ {Hx : Hp}, Fx [D] H2 Hx → KeepT H2 Hx := fun {Hx} fx => ⟨fun x l e => fx _ _ (by simp; exact fun z => by rw [z, e2] at e; cases e) e, fun x o u e => fx _ _ (by simp; exact fun z => by rw [z, e2] at e; cases e) e⟩
  refine ⟨_, rfl, ls, C, dx, _, _, rfl, ho2, N.cl, N.nKc, rfl, kc, rfl, ⟨_, SqT.of ekc2⟩, for_it (walk_tup (K := K) (a := kc) (xs := ys)) (fun i σ Hx => ∃ (s3 s4 s5 : Option V) (zs : List V), σ = [some (.ref ls), some (.int age), some (.ref D), s3, s4, s5, none] ∧ Fx [D] H2 Hx ∧ Hx D = some (.lst zs) ∧ RowsAt Hx zs ((lpHead L).filter (fun r => decide (r.1 ≤ age)) ++ ((lpCycle L).take i).flatMap fun r => roundRows (lpPer L) (lpShift L) r (roundsU (lpPer L) r.1 age).toNat))
    ⟨none, none, none, rs, rfl, fun p o _ e => e, e2, by rw [List.take_zero, List.flatMap_nil, List.append_nil]; exact d2⟩ (fun i σ Hx _ ⟨_, _, _, _, _, fx, _⟩ => SqT.of (fx _ _ (by simp; exact nkc) ekc2)) ?_ ?_⟩
  · rintro i v σ Hx Hy hi ⟨s3, s4, s5, zs, rfl, fx, eD, dz⟩ ⟨rfl, hv⟩
    obtain ⟨p, r, rfl, er, ep⟩ := dc2.get hv
    have hil : i < (lpCycle L).length := (List.getElem?_eq_some_iff.mp er).1
    have hm := List.mem_of_getElem? er
    have hox := fx _ _ (by simp; exact nls) ho2
    have hR := hnn r hm
    have hRs := sum_mem (f := fun r => roundsU (lpPer L) r.1 age) (lpCycle L) hnn r hm
    refine ⟨p, _, rfl, SqT.of ((kD fx).1 _ _ ep), rfl, _, _, rfl, _, _, rfl, rfl, ?_⟩
    have hB62 : roundsU (lpPer L) r.1 age < 2 ^ 62 := Int.lt_of_le_of_lt (by omega : _ ≤ (1000 : Int)) (by decide)
    refine ⟨_, rfl, ls, dx, _, rfl, hox, rfl, _, rfl, _, rfl, ls, dx, _, lpPer L, r.1, age, rfl, hox, rfl, hper r hm, hL.perB, roundsU (lpPer L) r.1 age, rfl, Int.le_trans (by decide) hR, hB62, ?_⟩
    refine for_range (lo := 0) (n := (roundsU (lpPer L) r.1 age).toNat) (fun j σ Hz => ∃ (s5 : Option V) (zs : List V), σ = [some (.ref ls), some (.int age), some (.ref D), some (.int r.1), some (.int r.2), s5, none] ∧ Fx [D] H2 Hz ∧ Hz D = some (.lst zs) ∧ RowsAt Hz zs ((lpHead L).filter (fun r => decide (r.1 ≤ age)) ++ (((lpCycle L).take i).flatMap fun r => roundRows (lpPer L) (lpShift L) r (roundsU (lpPer L) r.1 age).toNat) ++ roundRows (lpPer L) (lpShift L) r j))
      ⟨s5, zs, rfl, fx, eD, by rw [show roundRows (lpPer L) (lpShift L) r 0 = [] from rfl, List.append_nil]; exact dz⟩ ?_ ?_
    · rintro j σ Hz hj ⟨s5', zs', rfl, fz, eZ, dZ⟩
      have hoz := fz _ _ (by simp; exact nls) ho2
      have hj1 : (j : Int) < 1001 := by omega
      have cm : ∀ y : Int, CMul (0 + (j : Nat)) y := fun y => .inl ⟨by show -(2 ^ 64) < (0 : Int) + (j : Nat); exact Int.lt_of_lt_of_le (by decide) (by omega : (0 : Int) ≤ _), by show (0 : Int) + (j : Nat) < 2 ^ 64; exact Int.lt_trans (by omega : _ < (1001 : Int)) (by decide)⟩
      refine ⟨_, rfl, .inl ⟨rfl, _, SqL.of eZ⟩, _, rfl, _, rfl, _, rfl, ls, C, dx, _, _, rfl, hoz, N.cl, N.nPe, rfl, _, _, rfl, rfl, cm _, _, _, rfl, rfl, _, rfl, _, rfl, _, rfl, ls, C, dx, _, _, rfl, hoz, N.cl, N.nSh, rfl, _, _, rfl, rfl, cm _, _, _, rfl, rfl, (by show 2 ≤ sizeLine; decide), fun rp nrp => ?_⟩
      rw [Int.zero_add]
      have er7 : (upd Hz rp (.tup [.int (r.1 + (j : Nat) * lpPer L), .int (r.2 + (j : Nat) * lpShift L)])) rp = some (.tup [.int (r.1 + (j : Nat) * lpPer L), .int (r.2 + (j : Nat) * lpShift L)]) := upd_same
      have u7 := same_new nrp (.tup [.int (r.1 + (j : Nat) * lpPer L), .int (r.2 + (j : Nat) * lpShift L)])
      generalize upd Hz rp (.tup [.int (r.1 + (j : Nat) * lpPer L), .int (r.2 + (j : Nat) * lpShift L)]) = H7 at er7 u7 ⊢
      refine ⟨D, zs', _, rfl, rfl, u7 _ _ eZ, ?_, ?_⟩
      · have h1 := dZ.len
        have h2 := List.length_filter_le (fun r : Int × Int => decide (r.1 ≤ age)) (lpHead L)
        have h3 := flat_take_len (f := fun r => roundRows (lpPer L) (lpShift L) r (roundsU (lpPer L) r.1 age).toNat) (lpCycle L) i
        have h4 : (roundRows (lpPer L) (lpShift L) r j).length = j := by unfold roundRows; rw [List.length_map, List.length_range]
        rw [List.length_append, List.length_append, h4] at h1
        exact Nat.lt_of_le_of_lt (by omega : _ ≤ 200000) (by decide)
      · have k8 : KeepT H7 (upd H7 D (.lst (zs' ++ [.ref rp]))) := KeepT.upd ⟨_, u7 _ _ eZ⟩
        refine ⟨_, _, rfl, (fz.trans (Fx.of u7)).trans (Fx.upd (by simp)), upd_same, ?_⟩
        rw [roundRows_succ, ← List.append_assoc]
        exact (dZ.keep ((KeepT.of u7).trans k8)).app (.one (k8.1 _ _ er7))
    · rintro σ Hz ⟨s5', zs', rfl, fz, eZ, dZ⟩
      refine ⟨_, _, _, zs', rfl, fz, eZ, ?_⟩
      rw [take_snoc er, List.flatMap_append, List.flatMap_cons, List.flatMap_nil, List.append_nil, ← List.append_assoc]
      exact dZ
  · rintro σ Hx ⟨s3, s4, s5, zs, rfl, fx, eD, dz⟩
    rw [dc2.len, List.take_length] at dz
    refine ⟨_, rfl, D, zs, keyV Hx, rfl, SqL.of eD, dz.tups, fun ws p srt stb np => ?_⟩
    obtain ⟨g1, g2, g3⟩ := rows_sorted dz srt stb.perm
    have sx : Same H Hx := fx.same (u1.trans u2) (fun q mq => by rw [List.mem_singleton.mp mq]; exact nD)
    exact q _ p ws _ (sx.trans (same_new np _)) (sx.free np) upd_same (g1.keep (KeepT.of (same_new np _))) g2 g3
end
/-! ### the law's collectors -/
abbrev sColl : Stmt := top 59
abbrev nsColl : List Str := ["_law_bag_here", "_law_most", "_law_program_here", "_law_way", "_law_more", "_law_flat", "_law_part"]
def spColl (K : PySem.W.Frag) : Sp := fun vs H Q _ => ∃ (b : Addr) (mx : Int), vs = [.ref b, .int mx] ∧ 3 ≤ mx ∧ mx ≤ 24 ∧ Bag H b ∧
  ∀ H' t v d, Fr b H H' → Bag H' b → H' t = some (.tup [.str "collector", v]) → t ≠ b → Da K b H' v d → isProg (.tuple [.str "collector", d]) = true → Lay d → noL d = true → Q (.ref t) H'
theorem st_word {k : Str} {r a : Nat} {s : PyData} (h : stN k r s = some a) : ∃ z ps, s = .tuple (.str z :: ps) := by
  unfold stN at h
  split at h
  · rename_i ho
    cases hw : wordOf s with
    | none =>
      rw [out_none hw, plain_none (by rw [hw]; rfl)] at ho
      cases ho
    | some z =>
      obtain ⟨ps, rfl⟩ := word_inv hw
      exact ⟨z, ps, rfl⟩
  · cases h
theorem st_flat {k : Str} {r a : Nat} {z : Str} {ps : List PyData} (h : stN k r (.tuple (.str z :: ps)) = some a) (h1 : ¬ z = "while") (h2 : ¬ z = "if") : ∀ n, stN k n (.tuple (.str z :: ps)) = some 1 := fun n => by
  unfold stN at h ⊢
  split at h
  · rename_i ho
    rw [if_pos ho, bods_else h2 h1]
    rfl
  · cases h
theorem sum_ones {k : Str} {n : Nat} : ∀ {fs : List PyData}, (∀ s ∈ fs, stN k n s = some 1) → sumO (fs.map (stN k n)) = some fs.length
  | [], _ => rfl
  | s :: t, h => by
    rw [List.map_cons]
    simp only [sumO]
    rw [h s (List.mem_cons_self ..), sum_ones fun x m => h x (List.mem_cons_of_mem _ m)]
    show some (1 + t.length) = _
    rw [List.length_cons, Nat.add_comm]
theorem not_kw {z : Str} (h : (!inV (V.str z) [V.str "while", V.str "if"]) = true) : ¬ z = "while" ∧ ¬ z = "if" := by
  constructor
  · intro e
    subst e
    exact absurd h (by decide +kernel)
  · intro e
    subst e
    exact absurd h (by decide +kernel)
theorem st_whileC {k : Str} {n c : Nat} {co b : PyData} (hc : isCond co = true) (h : bodyN k n b = some c) : stN k n (.tuple [.str "while", co, b]) = some (1 + c) := by
  unfold stN
  rw [if_pos (by rw [out_while]; exact hc), bods_while]
  simp only [List.drop_succ_cons, List.drop_zero, List.map_cons, List.map_nil, sumO, addO_zero, h]
  rfl
theorem prog_count {d : PyData} {c : Nat} (h : bodyN "collector" 4 d = some c) (hc : c ≤ 24) : isProg (.tuple [.str "collector", d]) = true := by
  show (inS (.str "collector") kinds && okN 0 (bodyN "collector" 4 d)) = true
  rw [h, Bool.and_eq_true]
  exact ⟨by decide +kernel, decide_eq_true (by omega)⟩
theorem noLAll_app : ∀ {ds es : List PyData}, noLAll ds = true → noLAll es = true → noLAll (ds ++ es) = true
  | [], es, _, h => h
  | x :: r, es, h, h2 => by
    simp only [noLAll, Bool.and_eq_true] at h
    rw [List.cons_append]
    simp only [noLAll, Bool.and_eq_true]
    exact ⟨h.1, noLAll_app h.2 h2⟩
section
variable {P : Program} {w : World} {K : PySem.W.Frag} {mg : Str → Option Value} {base : Heap}
theorem scColl : FnScope nsColl ["_law_bag_here", "_law_most"] (defScope sColl) := ⟨rfl, rfl, rfl, by decide +kernel, rfl, by decide +kernel, by decide +kernel⟩
theorem ok_Coll {f : Addr} {fd : FuncData} (F : Fun K "_law_collector" "_law_collector" sColl f fd) (T : Gs K mg) (CD : Cal P w K mg base 1 "_law_draw" ["_law_bag_here", "_law_many"] spDraw) (CT : Cal P w K mg base 2 "_law_term" ["_law_bag_here"] (spTermL K)) (CP : Cal P w K mg base 14 "_law_program" ["_law_bag_here", "_law_kind", "_law_most"] (spProgC2 K)) :
    FnOk P w K mg base CX0 15 f fd ["_law_bag_here", "_law_most"] (spColl K) := by
  refine F.ok scColl (fun vs H Q E h => ?_) (fun cdv A outer s H vs Q E hr h => ?_)
  · obtain ⟨b, mx, rfl, _⟩ := h
    rfl
  obtain ⟨b, mx, rfl, hm0, hm1, hb, q⟩ := h
  have hr1 : Room 1 _ := hr.mono (by decide)
  have hr2 : Room 2 _ := hr.mono (by decide)
  refine ⟨_, pss_cons (ps_set (i := 2) scColl.nd rfl (.inl rfl) (pe_call CP.G hr rfl CP.m CP.kp CP.b .nil pass0 (pa_cons (pv 0) (pa_cons pe_str (pa_cons (pe_op op_sub (pv 1) pe_int) pa_nil)))))
    (pss_cons (ps_set (i := 3) scColl.nd rfl (.inl rfl) (pe_call CD.G hr1 rfl CD.m CD.kp CD.b .nil pass0 (pa_cons (pv 0) (pa_cons pe_int pa_nil))))
    (pss_cons (ps_if (pt_cmpR op_eq (pv 3) pe_int (nomark _)) (pss_one (ps_ret (pv 2))) pss_nil)
    (pss_cons (ps_set (i := 4) scColl.nd rfl (.inl rfl) (pe_tup (pa_cons (pe_tup (pa_cons pe_str (pa_cons (pe_call CT.G hr2 rfl CT.m CT.kp CT.b .nil pass0 (pa_cons (pv 0) pa_nil)) pa_nil))) (pa_cons (pe_tup (pa_cons pe_str (pa_cons (pe_call CD.G hr1 rfl CD.m CD.kp CD.b .nil pass0 (pa_cons (pv 0) (pa_cons pe_int pa_nil))) pa_nil))) pa_nil))))
    (pss_cons (ps_set (i := 5) scColl.nd rfl (.inl rfl) (pe_callTy call_tuple_of (by rfl) T.tup (by decide +kernel) (pa_cons (pe_lc (own := [("_law_part", 6)]) (g := gName 6) rfl scColl.nd (pi_tup (pe_ix ix_tup (pv 2) pe_int (fun _ _ => rfl))) (blkOk_by (N := nsColl) (sc := defScope sColl) (by decide +kernel))
        (fun _ _ _ _ _ => pg_name (i := 6) scColl.nd rfl (.inl rfl)) (fun _ _ _ _ _ => (pts_one (pt_cmpR (r := rIn K true) op_notIn_seq (pe_ix (r := rIxT K) ix_tup (pv 6) pe_int (fun _ _ => rfl)) (pe_lst (pa_cons pe_str (pa_cons pe_str pa_nil))) (by rfl)))) (fun _ _ _ _ _ => pv 6)) pa_nil)))
    (pss_cons (ps_if (pt_cmpR op_eq (pv 3) pe_int (nomark _)) (pss_one (ps_ret (pe_tup (pa_cons pe_str (pa_cons (pe_op op_catE (pe_ix ix_tup (pv 2) pe_int (fun _ _ => rfl)) (pe_tup (pa_cons (pe_tup (pa_cons pe_str (pa_cons (pe_tup (pa_cons pe_str (pa_cons pe_str (pa_cons pe_int pa_nil)))) (pa_cons (pv 4) pa_nil)))) pa_nil))) pa_nil))))) pss_nil)
    (pss_one (ps_ret (pe_tup (pa_cons pe_str (pa_cons (pe_tup (pa_cons (pe_tup (pa_cons pe_str (pa_cons (pe_tup (pa_cons pe_str (pa_cons pe_str (pa_cons (pe_call CT.G hr2 rfl CT.m CT.kp CT.b .nil pass0 (pa_cons (pv 0) pa_nil)) pa_nil)))) (pa_cons (pe_op op_catE (pv 5) (pv 4)) pa_nil)))) pa_nil)) pa_nil)))))))))), ?_⟩
  refine ⟨_, rfl, _, rfl, _, _, rfl, rfl, b, "collector", mx - 3, rfl, by omega, by omega, hb, .inr rfl, fun H1 t v d c f1 b1 et ntb hd hbc hc ld nd => ?_⟩
  refine ⟨_, rfl, b, 4, rfl, b1, by decide, by decide, fun H2 r2 f2 b2 r20 r21 => ?_⟩
  have et2 := f2 _ _ ntb et
  have hd2 := hd.fr f2
  refine ⟨_, rfl, rfl, _, rfl, ?_⟩
  refine ite2 (fun _ => ⟨_, rfl, q _ t v d (f1.trans f2) b2 et2 ntb hd2 (prog_count hbc (by omega)) ld nd⟩) (fun _ => ?_)
  refine ⟨_, rfl, b, rfl, b2, fun H3 v3 d3 f3 b3 hd3 ht3 l3 => ⟨(by show 2 ≤ sizeLine; decide), fun p1 np1 => ?_⟩⟩
  have e1 : (upd H3 p1 (.tup [.str "list", v3])) p1 = some (.tup [.str "list", v3]) := upd_same
  have np1b : p1 ≠ b := (b3.ne np1).symm
  have u1 := same_new np1 (.tup [.str "list", v3])
  generalize upd H3 p1 (.tup [.str "list", v3]) = H3a at e1 u1 ⊢
  refine ⟨_, rfl, b, 16, rfl, b3.keep u1, by decide, by decide, fun H4 r4 f4 b4 r40 r41 => ⟨(by show 2 ≤ sizeLine; decide), fun p2 np2 => ?_⟩⟩
  have e2 : (upd H4 p2 (.tup [.str "grow", .int r4])) p2 = some (.tup [.str "grow", .int r4]) := upd_same
  have np2b : p2 ≠ b := (b4.ne np2).symm
  have u2 := same_new np2 (.tup [.str "grow", .int r4])
  generalize upd H4 p2 (.tup [.str "grow", .int r4]) = H4a at e2 u2 ⊢
  refine ⟨(by show 2 ≤ sizeLine; decide), fun p3 np3 => ?_⟩
  have e3 : (upd H4a p3 (.tup [.ref p1, .ref p2])) p3 = some (.tup [.ref p1, .ref p2]) := upd_same
  have b4a := b4.keep u2
  have np3b : p3 ≠ b := (b4a.ne np3).symm
  have u3 := same_new np3 (.tup [.ref p1, .ref p2])
  generalize upd H4a p3 (.tup [.ref p1, .ref p2]) = H5 at e3 u3 ⊢
  have b5 := b4a.keep u3
  have f15 : Fr b H3a H5 := f4.trans ((Fr.of u2).trans (Fr.of u3))
  have f25 : Fr b H2 H5 := f3.trans ((Fr.of u1).trans f15)
  have hmore : Da K b H5 (.ref p3) (.tuple [.tuple [.str "list", d3], .tuple [.str "grow", .int r4]]) := da_tup np3b e3 (.cons (da_tup np1b (f15 _ _ np1b e1) (.cons (.str _) (.cons (hd3 _) .nil))) (.cons (da_tup np2b (u3 _ _ e2) (.cons (.str _) (.cons (.int _) .nil))) .nil))
  have htg : isTerm (.int r4) = true := by
    show (inS (.int r4) vars || (decide (0 ≤ r4) && decide (r4 ≤ 15))) = true
    rw [decide_eq_true r40, decide_eq_true (show r4 ≤ 15 by omega)]
    simp
  have pl1 : isPlain (.tuple [.str "list", d3]) "collector" = true := plain1 roles_list (by rw [part_term]; exact ht3)
  have pl2 : isPlain (.tuple [.str "grow", .int r4]) "collector" = true := plain1 roles_grow (by rw [part_term]; exact htg)
  have hmN : ∀ n, sumO ([PyData.tuple [.str "list", d3], .tuple [.str "grow", .int r4]].map (stN "collector" n)) = some 2 := fun n => sum_ones fun s m => by
    simp at m
    rcases m with rfl | rfl
    · exact stN_plain pl1
    · exact stN_plain pl2
  have hmL : ∀ s ∈ [PyData.tuple [.str "list", d3], .tuple [.str "grow", .int r4]], Lay s := by
    intro s m
    simp at m
    rcases m with rfl | rfl
    · exact lay2 (lay_str (by decide +kernel)) l3
    · exact lay2 (lay_str (by decide +kernel)) (lay_int _)
  have hmO : noLAll [PyData.tuple [.str "list", d3], .tuple [.str "grow", .int r4]] = true := by
    simp [noLAll, noL, term_noL ht3]
  obtain ⟨ss, rfl⟩ := body_tuple hbc
  have et5 := f25 _ _ ntb et2
  obtain ⟨a, xs, rfl, ha5, hxs5⟩ := dp_tup_inv (hd2.fr f25)
  have hss := lay_mem (lay_tup ld)
  have hno := noL_mem (noL_tup nd)
  have hsl := sumO_ge (by rw [← bodyN_tup]; exact hbc)
  have hxl := dpAll_len hxs5
  refine ⟨_, rfl, t, _, _, _, rfl, rfl, SqT.of et5, atI_nat (j := 1) rfl, a, rfl, ⟨xs, Same.tup (hide_same _ _) ha5⟩, fun D nD => lc_it (walk_tup (K := K) (a := a) (xs := xs)) (fun i Hx => Same H5 Hx ∧ ∃ (acc : List V) (fs : List PyData), Hx D = some (.lst acc) ∧ DpAll K (hide b Hx) acc fs ∧ (∀ s ∈ fs, (∀ n, stN "collector" n s = some 1) ∧ Lay s ∧ noL s = true) ∧ fs.length ≤ i)
    ⟨same_new nD _, [], [], upd_same, .nil, (fun s m => nomatch m), Nat.le_refl 0⟩ (fun i Hx _ ⟨sx, _⟩ => Same.tup sx (Same.tup (hide_same _ _) ha5)) ?_ ?_⟩
  · rintro i y Hx Hy hi ⟨sx, acc, fs, eD, hfs, hst, hfl⟩ ⟨rfl, hy⟩
    obtain ⟨sd, hsd, hdp⟩ := dpAll_get hxs5 hy
    obtain ⟨sa, hsa, _⟩ := sum_le hbc (List.mem_of_getElem? hsd)
    obtain ⟨z, ps, rfl⟩ := st_word hsa
    have hdx : Da K b Hy y (.tuple (.str z :: ps)) := Da.fr hdp (Fr.of sx)
    obtain ⟨p, ws, rfl, hp, hws⟩ := dp_tup_inv hdx
    obtain ⟨w0, wr, rfl, hz⟩ : ∃ w0 wr, ws = w0 :: wr ∧ w0 = .str z := by
      cases hws with
      | cons h1 h2 => cases h1; exact ⟨_, _, rfl, rfl⟩
    subst hz
    have bx := b5.keep sx
    refine ⟨rfl, _, rfl, p, _, _, _, rfl, rfl, Same.tup (hide_same _ _) hp, atI_nat (j := 0) rfl, (by show 2 ≤ sizeLine; decide), fun l nl => ?_⟩
    have ul := same_new nl (.lst [V.str "while", V.str "if"])
    have el : (upd Hy l (.lst [V.str "while", V.str "if"])) l = some (.lst [V.str "while", V.str "if"]) := upd_same
    generalize upd Hy l (.lst [V.str "while", V.str "if"]) = Hz at ul el ⊢
    have hfz := dpAll_mono (hide_mono (Fr.of (b := b) ul)) _ _ hfs
    refine ⟨l, _, rfl, .inl (SqL.of el), rfl, rfl, _, rfl, ?_⟩
    refine ite2 (fun c => ?_) (fun _ => ⟨sx.trans ul, acc, fs, ul _ _ eD, hfz, hst, by omega⟩)
    obtain ⟨n1, n2⟩ := not_kw c
    have bz := bx.keep ul
    have eDz := ul _ _ eD
    have nDb : D ≠ b := (b5.ne nD).symm
    have hlen := dpAll_len hfs
    have hil : i < ss.length := (List.getElem?_eq_some_iff.mp hsd).1
    refine ⟨_, rfl, acc, eDz, ?_, same_upd (sx.trans ul) nD _, acc ++ [.ref p], fs ++ [.tuple (.str z :: ps)], upd_same, ?_, ?_, ?_⟩
    · rw [hlen]; exact Nat.lt_of_le_of_lt (by omega : _ ≤ 1000) (by decide)
    · have eDh : hide b Hz D = some (.lst acc) := hide_get nDb eDz
      exact dpAll_append (dpAll_keepL hide_upd eDh _ _ (noLAll_of fun s m => (hst s m).2.2) hfz) (.cons (dp_keepL hide_upd eDh _ _ (hno _ (List.mem_of_getElem? hsd)) (hdx.fr (Fr.of ul))) .nil)
    · intro s m
      rcases List.mem_append.mp m with m | m
      · exact hst s m
      · rw [List.mem_singleton.mp m]
        exact ⟨st_flat hsa n1 n2, hss _ (List.mem_of_getElem? hsd), hno _ (List.mem_of_getElem? hsd)⟩
    · rw [List.length_append]; exact Nat.succ_le_succ hfl
  rintro H6 ⟨s6, acc, fs, eD, hfs, hst, hfl⟩
  rw [hxl] at hfl
  refine ⟨D, acc, rfl, .inl ⟨SqL.of eD, fun fl nfl => ?_⟩⟩
  have b6 := b5.keep s6
  have nflb : fl ≠ b := (b6.ne nfl).symm
  have u7 := same_new nfl (.tup acc)
  have e7 : (upd H6 fl (.tup acc)) fl = some (.tup acc) := upd_same
  generalize upd H6 fl (.tup acc) = H7 at u7 e7 ⊢
  have b7 := b6.keep u7
  have s57 := s6.trans u7
  have f7 : Fr b H H7 := (f1.trans f2).trans (f25.trans (Fr.of s57))
  have hmore7 := hmore.fr (Fr.of s57)
  have hflat7 : Da K b H7 (.ref fl) (.tuple fs) := da_tup nflb e7 (dpAll_mono (hide_mono (Fr.of (b := b) u7)) _ _ hfs)
  have et7 := s57 _ _ et5
  refine ⟨_, rfl, rfl, _, rfl, ?_⟩
  have hm3 : DpAll K (hide b H7) [V.ref p1, V.ref p2] [.tuple [.str "list", d3], .tuple [.str "grow", .int r4]] := by
    obtain ⟨p', ws, ew, hw1, hw2⟩ := dp_tup_inv hmore7
    cases ew
    exact .cons (Da.fr (da_tup np1b (f15 _ _ np1b e1) (.cons (.str _) (.cons (hd3 _) .nil))) (Fr.of s57)) (.cons (Da.fr (da_tup np2b (u3 _ _ e2) (.cons (.str _) (.cons (.int _) .nil))) (Fr.of s57)) .nil)
  have hxs7 : DpAll K (hide b H7) xs ss := dpAll_mono (hide_mono (Fr.of (b := b) s57)) _ _ hxs5
  have ha7 : SqT K (hide b H7) a xs := Same.tup (hide_mono (Fr.of (b := b) s57)) ha5
  have hflat : DpAll K (hide b H7) acc fs := dpAll_mono (hide_mono (Fr.of (b := b) u7)) _ _ hfs
  have hacc := dpAll_len hfs
  refine ite2 (fun _ => ?_) (fun _ => ?_)
  · -- a loop behind the program
    refine ⟨_, rfl, t, _, _, _, rfl, rfl, SqT.of et7, atI_nat (j := 1) rfl, (by show 3 ≤ sizeLine; decide), fun c1 nc1 => ⟨_, rfl, (by show 3 ≤ sizeLine; decide), fun c2 nc2 => ⟨(by show 1 ≤ sizeLine; decide), fun c3 nc3 => ?_⟩⟩⟩
    have w1 := same_new nc1 (.tup [.str "b", .str "<", .int 15])
    have w2 := same_new nc2 (.tup [.str "while", .ref c1, .ref p3])
    have w3 := same_new nc3 (.tup [.ref c2])
    have nc1b : c1 ≠ b := (b7.ne nc1).symm
    have nc2b : c2 ≠ b := ((b7.keep w1).ne nc2).symm
    have nc3b : c3 ≠ b := (((b7.keep w1).keep w2).ne nc3).symm
    have x1 : (upd H7 c1 (.tup [.str "b", .str "<", .int 15])) c1 = some (.tup [.str "b", .str "<", .int 15]) := upd_same
    generalize upd H7 c1 (.tup [.str "b", .str "<", .int 15]) = H8 at w1 w2 w3 nc2 nc3 x1 ⊢
    have x2 : (upd H8 c2 (.tup [.str "while", .ref c1, .ref p3])) c2 = some (.tup [.str "while", .ref c1, .ref p3]) := upd_same
    generalize upd H8 c2 (.tup [.str "while", .ref c1, .ref p3]) = H9 at w2 w3 nc3 x2 ⊢
    have x3 : (upd H9 c3 (.tup [.ref c2])) c3 = some (.tup [.ref c2]) := upd_same
    generalize upd H9 c3 (.tup [.ref c2]) = H10 at w3 x3 ⊢
    have w710 := (w1.trans w2).trans w3
    have b10 := b7.keep w710
    refine ⟨b, a, c3, xs, _, rfl, rfl, Same.tup (hide_mono (Fr.of (b := b) w710)) ha7, SqT.of (hide_get nc3b x3), ?_, b10, fun W HW sW hW => ⟨(by show 2 ≤ sizeLine; decide), fun tt ntt => ?_⟩⟩
    · rw [hxl]; exact Nat.le_of_lt (Nat.lt_of_le_of_lt (by show ss.length + 1 ≤ 1000; omega) (by decide))
    have wT := same_new ntt (.tup [.str "collector", .ref W])
    have bT := (b10.keep sW).keep wT
    have sT := (w710.trans sW).trans wT
    have ntb2 : tt ≠ b := ((b10.keep sW).ne ntt).symm
    have hwh : Da K b (upd HW tt (.tup [.str "collector", .ref W])) (.ref c2) (.tuple [.str "while", .tuple [.str "b", .str "<", .int 15], .tuple [.tuple [.str "list", d3], .tuple [.str "grow", .int r4]]]) :=
      da_tup nc2b (wT _ _ (sW _ _ (w3 _ _ x2))) (.cons (.str _) (.cons (da_tup nc1b (wT _ _ (sW _ _ (w3 _ _ (w2 _ _ x1)))) (.cons (.str _) (.cons (.str _) (.cons (.int _) .nil)))) (.cons (hmore7.fr (Fr.of sT)) .nil)))
    have hcount : bodyN "collector" 4 (.tuple (ss ++ [.tuple [.str "while", .tuple [.str "b", .str "<", .int 15], .tuple [.tuple [.str "list", d3], .tuple [.str "grow", .int r4]]]])) = some (c + 3) := by
      rw [bodyN_tup] at hbc ⊢
      rw [List.map_append, sumO_append, hbc]
      show addO (some c) (addO (stN "collector" 3 _) (some 0)) = _
      rw [st_whileC (c := 2) (by decide +kernel) (by rw [bodyN_tup]; exact hmN 2)]
      rfl
    refine q _ tt (.ref W) (.tuple (ss ++ [.tuple [.str "while", .tuple [.str "b", .str "<", .int 15], .tuple [.tuple [.str "list", d3], .tuple [.str "grow", .int r4]]]])) (f7.trans (Fr.of sT)) bT upd_same ntb2 ?_ (prog_count hcount (by omega)) ?_ ?_
    · exact .tup (Same.tup (hide_mono (Fr.of (b := b) wT)) hW) (dpAll_append (dpAll_mono (hide_mono (Fr.of (b := b) sT)) _ _ hxs7) (.cons hwh .nil))
    · refine lay_tuple fun s m => ?_
      rcases List.mem_append.mp m with m | m
      · exact hss s m
      · rw [List.mem_singleton.mp m]
        exact lay3 (lay_str (by decide +kernel)) (lay3 (lay_str (by decide +kernel)) (lay_str (by decide +kernel)) (lay_int _)) (lay_tuple hmL)
    · show noLAll _ = true
      refine noLAll_app (noL_tup nd) ?_
      simp [noLAll, noL, term_noL ht3]
  · -- a loop around its plain statements
    refine ⟨_, rfl, b, rfl, b7, fun H8 v8 d8 f8 b8 hd8 ht8 l8 => ⟨(by show 3 ≤ sizeLine; decide), fun c1 nc1 => ?_⟩⟩
    have w1 := same_new nc1 (.tup [.str "a", .str "!=", v8])
    have nc1b : c1 ≠ b := (b8.ne nc1).symm
    have x1 : (upd H8 c1 (.tup [.str "a", .str "!=", v8])) c1 = some (.tup [.str "a", .str "!=", v8]) := upd_same
    generalize upd H8 c1 (.tup [.str "a", .str "!=", v8]) = H9 at w1 x1 ⊢
    have b9 := b8.keep w1
    have f79 : Fr b H7 H9 := f8.trans (Fr.of w1)
    refine ⟨_, rfl, _, rfl, b, fl, p3, acc, [.ref p1, .ref p2], rfl, rfl, SqT.of (hide_get nflb (f79 _ _ nflb e7)), SqT.of (hide_get np3b (f79 _ _ np3b (s57 _ _ e3))), ?_, b9, fun W HW sW hW => ⟨(by show 3 ≤ sizeLine; decide), fun c2 nc2 => ⟨(by show 1 ≤ sizeLine; decide), fun c3 nc3 => ⟨(by show 2 ≤ sizeLine; decide), fun tt ntt => ?_⟩⟩⟩⟩
    · rw [hacc]; exact Nat.le_of_lt (Nat.lt_of_le_of_lt (by show fs.length + 2 ≤ 1000; omega) (by decide))
    have bW := b9.keep sW
    have w2 := same_new nc2 (.tup [.str "while", .ref c1, .ref W])
    have nc2b : c2 ≠ b := (bW.ne nc2).symm
    have x2 : (upd HW c2 (.tup [.str "while", .ref c1, .ref W])) c2 = some (.tup [.str "while", .ref c1, .ref W]) := upd_same
    generalize upd HW c2 (.tup [.str "while", .ref c1, .ref W]) = H10 at w2 nc3 ntt x2 ⊢
    have b10 := bW.keep w2
    have w3 := same_new nc3 (.tup [.ref c2])
    have nc3b : c3 ≠ b := (b10.ne nc3).symm
    have x3 : (upd H10 c3 (.tup [.ref c2])) c3 = some (.tup [.ref c2]) := upd_same
    generalize upd H10 c3 (.tup [.ref c2]) = H11 at w3 ntt x3 ⊢
    have b11 := b10.keep w3
    have w4 := same_new ntt (.tup [.str "collector", .ref c3])
    have ntb2 : tt ≠ b := (b11.ne ntt).symm
    have s9 := ((sW.trans w2).trans w3).trans w4
    have f7T : Fr b H7 (upd H11 tt (.tup [.str "collector", .ref c3])) := f79.trans (Fr.of s9)
    have hW2 : Da K b (upd H11 tt (.tup [.str "collector", .ref c3])) (.ref W) (.tuple (fs ++ [.tuple [.str "list", d3], .tuple [.str "grow", .int r4]])) :=
      .tup (Same.tup (hide_mono (Fr.of (b := b) ((w2.trans w3).trans w4))) hW) (dpAll_append (dpAll_mono (hide_mono f7T) _ _ hflat) (dpAll_mono (hide_mono f7T) _ _ hm3))
    have hcond : isCond (.tuple [.str "a", .str "!=", d8]) = true := by
      show (inS (.str "a") vars && inS (.str "!=") signs && isTerm d8) = true
      rw [ht8]
      decide +kernel
    have hcount : bodyN "collector" 4 (.tuple [.tuple [.str "while", .tuple [.str "a", .str "!=", d8], .tuple (fs ++ [.tuple [.str "list", d3], .tuple [.str "grow", .int r4]])]]) = some (1 + (fs.length + 2)) := by
      rw [body_one]
      refine st_whileC hcond ?_
      rw [bodyN_tup, List.map_append, sumO_append, sum_ones (fun s m => (hst s m).1 2), hmN 2]
      rfl
    refine q _ tt (.ref c3) _ (f7.trans f7T) (b11.keep w4) upd_same ntb2 (da_tup nc3b (w4 _ _ x3) (.cons (da_tup nc2b (w4 _ _ (w3 _ _ x2)) (.cons (.str _) (.cons (da_tup nc1b (s9 _ _ x1) (.cons (.str _) (.cons (.str _) (.cons (hd8 _) .nil)))) (.cons hW2 .nil)))) .nil)) (prog_count hcount (by omega)) ?_ ?_
    · refine lay1 (lay3 (lay_str (by decide +kernel)) (lay3 (lay_str (by decide +kernel)) (lay_str (by decide +kernel)) l8) (lay_tuple fun s m => ?_))
      rcases List.mem_append.mp m with m | m
      · exact (hst s m).2.1
      · exact hmL s m
    · have h1 := noLAll_app (noLAll_of fun s m => (hst s m).2.2) hmO
      simp only [noL, noLAll, Bool.and_true, Bool.true_and, term_noL ht8] at h1 ⊢
      exact h1
end
end My

namespace NeX
open PySem PySem.Spec PyProof.Rows PySem.SeqAt
section
variable {M : Model} {prog : Program} {w : World} {A : Around} {E : Value → Shared → Prop} {s : Shared} {K : PySem.W.Frag} {x C f : Addr} {b : Value} {ox : Obj} {od : Option Obj}
theorem entry_ne {Q : Fin → Shared → Prop} (hu : A.units < cLine) (X : K.In s.heap) (I : PySem.W.InstAt s.heap x ox C od) (hs : PySem.W.findIn K (.ref C) "__eq__" = some (some (.ref f))) (hf : PySem.W.isFn K (.ref f) = true)
    (hcall : wpAny (model prog w) A (call (.ref f) [.ref x, b]) (fun v s' => ∃ r, v = .bool r ∧ Q (.done (.ret (.bool (!r)))) s') E s) :
    wpAny (model prog w) A (Builtin.«object.__ne__» ⟨[.ref x, b], []⟩) Q E s := by
  unfold Builtin.«object.__ne__»
  repeat (first
    | with_reducible refine wpAny_cRoomFor hu ?_
    | (refine wpAny_bind (m := callSpecialIfBound? (.ref x) (Str.ofString "__eq__") [b])
        (PySem.W.ifBound_K X I hs hf (wpAny_mono hcall (fun r s' hr => by
          obtain ⟨r0, rfl, hq⟩ := hr
          repeat (first | exact hq | exact wpAny_pure hq | exact wpAny_truthy_bool hq | (refine wpAny_bind (m := truthy (.bool _)) (wpAny_truthy_bool ?_)) | wp_step)) fun _ _ e => e)))
    | wp_step)
theorem ifBound_ne {args : List Value} {Q : Option Value → Shared → Prop} (X : K.In s.heap) (I : PySem.W.InstAt s.heap x ox C od) (hs : PySem.W.findIn K (.ref C) "__ne__" = some (some (.builtin "object.__ne__")))
    (h : wpAny M A (call (.builtin "object.__ne__") (.ref x :: args)) (fun v => Q (some v)) E s) : wpAny M A (callSpecialIfBound? (.ref x) "__ne__" args) Q E s := by
  simp only [callSpecialIfBound?, bindSpecialIfBound?]
  refine wpAny_holding (wpAny_bind (wpAny_bind (wpAny_bind (I.type.here ((PySem.W.looks_findIn X hs).here ?_)))))
  refine wpAny_bind (wpAny_askSetting (wpAny_ite ?_))
  have fin : wpAny M A (call (.builtin "object.__ne__") ([.ref x] ++ args) >>= fun v => pure (some v)) Q E s := wpAny_bind (wpAny_mono h (fun v s' h' => wpAny_pure h') fun _ _ h' => h')
  split
  · exact wpAny_bind (wpAny_of_eq (F.cmp_object.ne.bind _) (wpAny_pure (by exact fin)))
  · exact wpAny_tryCatch (wpAny_bind (wpAny_of_eq (F.cmp_object.ne.bind _) (wpAny_pure (by exact fin))))
theorem rc_ne {Q : Value → Shared → Prop} {tb : Value} (hu : A.units + 1 < cLine) (X : K.In s.heap) (I : PySem.W.InstAt s.heap x ox C od) (hb : PySem.W.Looks (model prog w) s.heap (typeOf b) tb) (hnf : PySem.W.notFirst K C tb = true) (hm : PySem.W.mroIn K C (.type "object") = some true)
    (hs : PySem.W.findIn K (.ref C) "__eq__" = some (some (.ref f))) (hf : PySem.W.isFn K (.ref f) = true) (hn : PySem.W.findIn K (.ref C) "__ne__" = some (some (.builtin "object.__ne__")))
    (h : wpAny (model prog w) A.in1 (call (.ref f) [.ref x, b]) (fun v s' => ∃ r, v = .bool r ∧ Q (.bool (!r)) s') E s) : wpAny (model prog w) A (richCompare .NotEq (.ref x) b) Q E s := by
  have one : wpAny (model prog w) A (tryCompare (.ref x) "__ne__" b) (fun r s' => ∃ v, r = some v ∧ Q v s') E s := by
    unfold tryCompare
    refine wpAny_bind (ifBound_ne X I hn (wpAny_call (codeAny_call_builtin F.cmp_object.ne.plain F.cmpEntry_ne (PySem.W.check_slot F.cmpKind_ne F.cmpSplit_ne (I.type.andThen (PySem.W.looks_mroIn X hm)) (F.cmpArgs_ne _ _) (entry_ne (A := A.in1) hu X I hs hf (wpAny_mono h (fun v s' hv => ?_) fun _ _ e => e))))))
    obtain ⟨r0, rfl, hq⟩ := hv
    first | exact ⟨r0, rfl, wpAny_pure ⟨_, rfl, hq⟩⟩ | exact ⟨r0, rfl, wpAny_pure (wpAny_pure ⟨_, rfl, hq⟩)⟩
  unfold richCompare
  simp only [oneThing_ref]
  refine wpAny_holding (wpAny_bind (wpAny_cRoomFor (Nat.lt_of_succ_lt hu) ?_))
  rw [cmpInfo_NotEq]
  dsimp only
  refine wpAny_bind (I.type.here (wpAny_bind (hb.here ?_)))
  split
  · rename_i q
    have e : PySem.W.subIn K tb (.ref C) = some false := by
      rcases Bool.or_eq_true_iff.mp hnf with e | e
      · rw [beq_iff_eq.mp e] at q; simp at q
      · exact beq_iff_eq.mp e
    refine wpAny_bind ((PySem.W.looks_subIn X e).here ?_)
    simp only [Bool.false_eq_true, if_false]
    refine wpAny_bind (wpAny_mono one (fun r s' z => ?_) fun _ _ e => e)
    obtain ⟨v, rfl, hq⟩ := z
    exact wpAny_pure hq
  · refine wpAny_bind (wpAny_pure ?_)
    simp only [Bool.false_eq_true, if_false]
    refine wpAny_bind (wpAny_mono one (fun r s' z => ?_) fun _ _ e => e)
    obtain ⟨v, rfl, hq⟩ := z
    exact wpAny_pure hq
end
end NeX
namespace My
open PySem L2 PySem.Spec PyProof.Rows
/-! ### x == y by the class's own ==, y whatever it is -/
def rEqX (K : PySem.W.Frag) (C : Addr) (sp : Sp) (E : XK) : R2 := fun x y H Q => ∃ (a dx : Addr) (fs : List (Str × V)) (t : Value), x = .ref a ∧ H a = some (.ins C dx fs) ∧ TyX K H y t ∧ PySem.W.notFirst K C t = true ∧ sp [.ref a, y] H (fun v H' => ∃ r, v = .bl r ∧ Q (.bl r) H') E
theorem op_eqX {X : Cx} {n : Nat} {CX : CXT} {C f : Addr} {fd : FuncData} {ps : List Str} {sp : Sp} {E : XK} (F : FnOk X.prog X.w X.K X.mg X.base CX n f fd ps sp) (hse : PySem.W.findIn X.K (.ref C) "__eq__" = some (some (.ref f))) (hf : PySem.W.isFn X.K (.ref f) = true)
    (bF : Binds X.K fd ps []) (hx : Passes CX X E) (hr : Room n X.A) : OpR X (compareOp .Eq) (rEqX X.K C sp E) := by
  intro pn0 st0 σ H x y v u Q I rx ry h
  obtain ⟨a, dx, fs, t, rfl, ha, ty, hn, hsp⟩ := h
  cases rx
  show wpAny (model X.prog X.w) X.A (richCompare .Eq (.ref a) u) (EP X pn0 σ Q) X.xe st0
  obtain ⟨mA, J, _⟩ := ins_get I.hok ha
  obtain ⟨od, J, _⟩ := J.look
  obtain ⟨Pq, kx, hpq, _⟩ := kit_of I ry ty
  obtain ⟨m, hF⟩ := I.fr
  refine PySem.W.cmp_K (op := .Eq) (tb := t) hr.units0 hF I.ok.mod.kin J (kx.ty _ _ I.kIn hpq) hn hse hf ?_
  have hl := F.len _ _ _ _ hsp
  have r2 : Vals [V.ref a, y] [Value.ref a, u] := .cons rfl (.cons ry .nil)
  refine wpAny_call (codeAny_mono (F.run X.A X.stack st0 H ⟨[.ref a, u], []⟩ [.ref a, u] [.ref a, y] _ E hr I.env0 (by
    have := bF st0 [.ref a, u] I.kIn (by simpa using hl)
    simpa using this) r2 hsp) fun out s' hq => ?_)
  match out, hq with
  | .error er, hq => exact hx pn0 σ H st0 er s' I hq
  | .ok (.ret z0), hq =>
    obtain ⟨z, H', I', rz, r, ez, qz⟩ := I.after hq
    subst ez
    cases rz
    exact ⟨.bl r, H', I', rfl, qz⟩
  | .ok .next, hq => exact False.elim hq
  | .ok .brk, hq => exact False.elim hq
  | .ok .cont, hq => exact False.elim hq
def rNeX (K : PySem.W.Frag) (C : Addr) (sp : Sp) (E : XK) : R2 := fun x y H Q => ∃ (a dx : Addr) (fs : List (Str × V)) (t : Value), x = .ref a ∧ H a = some (.ins C dx fs) ∧ TyX K H y t ∧ PySem.W.notFirst K C t = true ∧ sp [.ref a, y] H (fun v H' => ∃ r, v = .bl r ∧ Q (.bl (!r)) H') E
/-- x != y, by the class's own ==, y whatever it is -/
theorem op_neX {X : Cx} {n : Nat} {CX : CXT} {C f : Addr} {fd : FuncData} {ps : List Str} {sp : Sp} {E : XK} (F : FnOk X.prog X.w X.K X.mg X.base CX n f fd ps sp) (hse : PySem.W.findIn X.K (.ref C) "__eq__" = some (some (.ref f))) (hf : PySem.W.isFn X.K (.ref f) = true)
    (hsn : PySem.W.findIn X.K (.ref C) "__ne__" = some (some (.builtin "object.__ne__"))) (hm : PySem.W.mroIn X.K C (.type "object") = some true) (hb : Binds X.K fd ps []) (hx : Passes CX X E) (hr : Room (n + 1) X.A) : OpR X (compareOp .NotEq) (rNeX X.K C sp E) := by
  intro pins s σ H x y v u Q I rx ry h
  obtain ⟨a, dx, fs, t, rfl, ha, ty, hn, hsp⟩ := h
  cases rx
  show wpAny (model X.prog X.w) X.A (richCompare .NotEq (.ref a) u) (EP X pins σ Q) X.xe s
  obtain ⟨mA, J, _⟩ := ins_get I.hok ha
  obtain ⟨od, J, _⟩ := J.look
  obtain ⟨Pq, kx, hpq, _⟩ := kit_of I ry ty
  have sb : Sub X n X.A.in1 := Sub.in1 ⟨hr, rfl⟩
  refine NeX.rc_ne (tb := t) (hu_of hr) I.kIn J (kx.ty _ _ I.kIn hpq) hn hm hse hf hsn ?_
  have e0 : Env0 X.prog X.w X.K X.mg X.base X.A.in1 X.stack s H := by
    have e := I.env0
    exact ⟨by rw [sb.fr]; exact e.frames, e.mod, e.bs, e.bsz, e.funs, e.frf, e.hok, e.bare⟩
  have hl := F.len _ _ _ _ hsp
  have r2 : Vals [V.ref a, y] [Value.ref a, u] := .cons rfl (.cons ry .nil)
  refine wpAny_call (codeAny_mono (F.run X.A.in1 X.stack s H ⟨[.ref a, u], []⟩ [.ref a, u] [.ref a, y] _ E sb.room e0 (by
    have := hb s [.ref a, u] I.kIn (by simpa using hl)
    simpa using this) r2 hsp) fun r s' hq => ?_)
  cases r with
  | error e => exact hx pins σ H s e s' I hq
  | ok fl =>
    cases fl with
    | ret w =>
      obtain ⟨z, H', I', rz, r, ez, qz⟩ := I.after hq
      subst ez
      cases rz
      exact ⟨r, rfl, .bl (!r), H', I', rfl, qz⟩
    | next => exact False.elim hq
    | brk => exact False.elim hq
    | cont => exact False.elim hq
theorem kit_tyL {K : PySem.W.Frag} {T : String} {C : Addr} (hd : PySem.W.hasDictIn K C = true) (ht : PySem.W.typeIn K (.ref C) = some (.type "type")) (hf : PySem.W.subIn K (.type T) (.ref C) = some false) : PySem.W.kitOne K (.type T) (.ref C) = some false := by
  obtain ⟨cd, hc, _⟩ := PySem.W.any_some hd
  unfold PySem.W.kitOne
  have hn : ¬ (Value.type T == Value.ref C) = true := fun q => by have e := beq_iff_eq.mp q; cases e
  rw [if_neg hn]
  have e2 : ((PySem.W.clsIn K C).isSome && PySem.W.typeIn K (.ref C) == some (.type "type")) = true := by rw [hc, ht] <;> rfl
  show (if ((PySem.W.clsIn K C).isSome && PySem.W.typeIn K (.ref C) == some (.type "type")) = true then PySem.W.subIn K (.type T) (.ref C) else none) = some false
  rw [if_pos e2]
  exact hf
/-- a listing against what is none -/
def spLEqN (K : PySem.W.Frag) (C : Addr) : Sp := fun vs H Q _ => ∃ (a : Addr) (y : V) (d : PyData), vs = [.ref a, y] ∧ Dp K H y d ∧ PySem.W.kitOne K (.type (tyN d)) (.ref C) = some false ∧ Q (.bl false) H
def spPairs (K : PySem.W.Frag) : Sp := fun vs H Q _ => ∃ (l : Addr) (xs : List V) (rows : List (Int × Int)), vs = [.ref l] ∧ H l = some (.lst xs) ∧ DpAll K (tupH H) xs (rows.map rowD) ∧ ∀ H', Same H H' → Q (.bl true) H'
section
variable {P : Program} {w : World} {K : PySem.W.Frag} {mg : Str → Option Value} {base : Heap}
theorem ok_LEqN {f C : Addr} {fd : FuncData} (F : Fun K "__eq__" "Listing.__eq__" sLEq f fd) (T : Gs K mg) (gC : mg "Listing" = some (.ref C)) : FnOk P w K mg base CX0 1 f fd ["self", "other"] (spLEqN K C) := by
  refine F.ok scLEq (fun vs H Q E h => ?_) (fun cdv A outer s H vs Q E hr h => ?_)
  · obtain ⟨a, y, d, rfl, _⟩ := h
    rfl
  obtain ⟨a, y, d, rfl, hd, hk, q⟩ := h
  refine ⟨_, pss_one (ps_ret (pe_and (pe_callB call_isi (by rfl) T.isi (by decide +kernel) (pa_cons (pv 1) (pa_cons (pe_gref rfl gC) pa_nil))) (pe_and (pe_cmpR (op_eqD hr.units) (pe_fld (pv 0) rfl) (pe_fld (pv 1) rfl) (nomark _)) (pe_and (pe_cmpR (op_eqD hr.units) (pe_fld (pv 0) rfl) (pe_fld (pv 1) rfl) (nomark _)) (pe_and (pe_cmpR op_eq (pe_fld (pv 0) rfl) (pe_fld (pv 1) rfl) (nomark _)) (pe_one (pe_cmpR op_eq (pe_fld (pv 0) rfl) (pe_fld (pv 1) rfl) (nomark _)))))))), ?_⟩
  exact ⟨_, rfl, y, .ref C, _, _, _, rfl, .own C, dp_ty hd, hk, _, rfl, iteF q⟩
end
def spLaw (K : PySem.W.Frag) : Sp := fun vs H Q _ => ∃ (a : Addr) (ns : List Int), vs = [.ref a] ∧ SqL K H a (ns.map V.int) ∧ ns.length ≤ 63 ∧ ∀ H', Q (.bl true) H'
/-- the class Listing, made -/
structure LCl (P : Program) (w : World) (K : PySem.W.Frag) (mg : Str → Option Value) (base : Heap) (C : Addr) where
  fI : Addr
  dI : FuncData
  g : mg "Listing" = some (.ref C)
  M : Mk K C fI
  G : FnOk P w K mg base CX0 16 fI dI ["self", "program"] (spLI K C)
  b : Binds K dI ["self", "program"] []
theorem prog_code {d : PyData} (hp : isProg (.tuple [.str "collector", d]) = true) (ld : Lay d) : ∃ code : List Ins, bodyC 4 0 d = code.map Ins.toD ∧ (∀ i ∈ code, i.ok "collector") ∧ (∀ i ∈ code, i.tgt ≤ code.length) ∧ code.length ≤ 100 := by
  obtain ⟨c, hbc, hc⟩ := prog_bodyC hp
  obtain ⟨code, h1, h2, h3⟩ := code_tgt 0 hbc
  obtain ⟨_, hcl⟩ := body_code_ok 0 ld hbc
  rw [h1, List.length_map] at hcl
  exact ⟨code, h1, h2, fun i m => by have := h3 i m; omega, by omega⟩
theorem LsO.same {K : PySem.W.Frag} {H0 H H' : Hp} {C ls : Addr} {L : LP} (h : LsO K H0 H C ls L) (s : Same H H') : LsO K H0 H' C ls L := by
  obtain ⟨dx, hd, cy, kh, kc, hs, cs, fm, xs, ys, kvs, la, h1, h2, h3, h4, h5, h6, h7, h8, h9, h10, h11, r⟩ := h.ex
  exact ⟨dx, hd, cy, kh, kc, hs, cs, fm, xs, ys, kvs, la, s _ _ h1, s _ _ h2, s _ _ h3, h4.keep (KeepT.of s), h5.keep (KeepT.of s), s _ _ h6, s _ _ h7, s _ _ h8, s _ _ h9, s _ _ h10, h11.keep (KeepR.of s) (fun a _ o e => s _ _ e), r⟩
theorem LsA.same {K : PySem.W.Frag} {H H' : Hp} {C ls : Addr} {L : LP} (h : LsA K H C ls L) (s : Same H H') : LsA K H' C ls L := by
  obtain ⟨dx, hd, cy, kh, kc, hs, cs, fm, xs, ys, h1, h2, h3, h4, h5, zs, h6, h7⟩ := h.ex
  exact ⟨dx, hd, cy, kh, kc, hs, cs, fm, xs, ys, s _ _ h1, s _ _ h2, s _ _ h3, dpAll_mono (KeepT.of s).same _ _ h4, dpAll_mono (KeepT.of s).same _ _ h5, zs, Same.tup s h6, h7⟩
theorem TupL.same {K : PySem.W.Frag} {H H' : Hp} {t : Addr} {L : LP} (h : TupL K H t L) (s : Same H H') : TupL K H' t L := by
  obtain ⟨hd, cy, xs, ys, h1, h2, h3, h4, h5⟩ := h
  exact ⟨hd, cy, xs, ys, s _ _ h1, s _ _ h2, s _ _ h3, dpAll_mono (KeepT.of s).same _ _ h4, dpAll_mono (KeepT.of s).same _ _ h5⟩
theorem LsO.base {K : PySem.W.Frag} {H0 H1 H : Hp} {C ls : Addr} {L : LP} (h : LsO K H1 H C ls L) (s : Same H0 H1) : LsO K H0 H C ls L := by
  obtain ⟨dx, hd, cy, kh, kc, hs, cs, fm, xs, ys, kvs, la, h1, h2, h3, h4, h5, h6, h7, h8, h9, h10, h11, h12, h13, r⟩ := h.ex
  exact ⟨dx, hd, cy, kh, kc, hs, cs, fm, xs, ys, kvs, la, h1, h2, h3, h4, h5, h6, h7, h8, h9, h10, h11, s.free h12, s.free h13, r⟩
/-- a new listing -/
theorem mk_lst {K : PySem.W.Frag} {C x dx : Addr} {H2 : Hp} {v : V} {d : PyData} {code : List Ins} {Q : VK} {E : XK} (hd : Dp K H2 v (.tuple [.str "collector", d])) (ld : Lay d) (nd : noL d = true) (hp : isProg (.tuple [.str "collector", d]) = true) (hcode : bodyC 4 0 d = code.map Ins.toD) (hok : ∀ i ∈ code, i.ok "collector")
    (nx : H2 x = none) (ndx : H2 dx = none) (k : ∀ H', Same H2 H' → LsO K H2 H' C x (runL code) → Q .non H') : spLI K C [.ref x, v] (upd (upd H2 dx (.own x)) x (.ins C dx [])) Q E := by
  have s0 : Same H2 (upd (upd H2 dx (.own x)) x (.ins C dx [])) := madeC_same nx ndx fun p o _ e => e
  exact ⟨x, dx, v, d, code, rfl, upd_same, dp_mono s0 _ _ hd, lay2 (lay_str (by decide +kernel)) ld, nd, hp, hcode, hok, fun H' fx lo => k H' (madeC_same nx ndx fx) (lo.base s0)⟩
/-! ### the law's tuple as a datum -/
def tupD (L : LP) : PyData := .tuple [.list ((lpHead L).map rowD), .list ((lpCycle L).map rowD), .int (lpPer L), .int (lpShift L)]
theorem TupL.dp {K : PySem.W.Frag} {H : Hp} {t : Addr} {L : LP} (h : TupL K H t L) : Dp K H (.ref t) (tupD L) := by
  obtain ⟨hd, cy, xs, ys, h1, h2, h3, h4, h5⟩ := h
  exact .tup (SqT.of h1) (.cons (.lst (SqL.of h2) (dpAll_mono (tupH_same H) _ _ h4)) (.cons (.lst (SqL.of h3) (dpAll_mono (tupH_same H) _ _ h5)) (.cons (.int _) (.cons (.int _) .nil))))
theorem rows_shape (ns : List (Int × Int)) : Lay (.list (ns.map rowD)) ∧ (PyData.list (ns.map rowD)).depth ≤ 3 := by
  refine ⟨?_, ?_⟩
  · show (PyData.list (ns.map rowD)).canLay0 = true
    simp only [PyData.canLay0]
    exact lay_all fun d m => by obtain ⟨n, _, rfl⟩ := List.mem_map.mp m; exact row_lay n
  · have hd : PyData.depthAll (ns.map rowD) ≤ 1 := depth_all fun d m => by obtain ⟨n, _, rfl⟩ := List.mem_map.mp m; simp only [rowD, PyData.depth, PyData.depthAll]; decide
    simp only [PyData.depth]
    omega
theorem shaped_tupD (L : LP) : SeqAt.shaped (tupD L) = true := by
  show ((tupD L).canLay0 && decide ((tupD L).depth ≤ 64)) = true
  have h1 := rows_shape (lpHead L)
  have h2 := rows_shape (lpCycle L)
  rw [Bool.and_eq_true]
  constructor
  · exact lay4 h1.1 h2.1 (lay_int _) (lay_int _)
  · have e : (tupD L).depth ≤ 64 := by
      unfold tupD
      simp only [PyData.depth, PyData.depthAll] at h1 h2 ⊢
      omega
    exact decide_eq_true e
theorem eqv_tupD (L M : LP) : PyData.eqv (tupD L) (tupD M) = eqLP L M := by
  have e1 := eqv_rlist (lpHead L) (lpHead M)
  have e2 := eqv_rlist (lpCycle L) (lpCycle M)
  unfold tupD eqLP
  simp only [PyData.eqv, PyData.eqvAll, Bool.and_true] at e1 e2 ⊢
  rw [e1, e2]
  have eqi : ∀ x y : Int, (x == y) = decide (x = y) := fun x y => by
    by_cases c : x = y
    · simp [c]
    · simp [c]
  first
    | rfl
    | simp only [eqi, Bool.and_assoc]
theorem eqLP_refl (L : LP) : eqLP L L = true := by simp [eqLP]
end My

namespace My
open PySem PySem.Spec PyProof.Rows L2
/-! ### y = {k: v for .. in ..}, y a local name -/
theorem ps_setDc {X : Cx} {i : Nat} {y : Str} {py : Pos} {kx vx tg iter : Expr} {ifs : List Expr} {scope : Scope} {own : List (Str × Nat)} {pos spos : Pos} {wi : TI} {g : TG} {tt : TT} {tk tv : TE} (hc : X.calm = true) (hN : X.N.Nodup) (hy : X.N[i]? = some y) (hyl : X.env.scope.names.lookup y = some .local)
    (hkd : X.env.scope.kind = .function) (hln : (py.line == pos.line) = true) (hno : (scope.names.any fun (n, k) => n == y && (k == .local || k == .cell)) = false)
    (hi : PI X tg iter wi) (ok : BlkOk X.N X.env.scope scope own) (hg : ∀ (s : Shared) (H : Hp) (C : Addr) (cl : List (Str × Addr)) (fp : List Addr), PG (X.blk s H scope (compEnvC scope cl C X.env) fp) tg g)
    (ht : ∀ (s : Shared) (H : Hp) (C : Addr) (cl : List (Str × Addr)) (fp : List Addr), PTs (X.blk s H scope (compEnvC scope cl C X.env) fp) ifs tt) (hk : ∀ (s : Shared) (H : Hp) (C : Addr) (cl : List (Str × Addr)) (fp : List Addr), PE (X.blk s H scope (compEnvC scope cl C X.env) fp) kx tk)
    (he : ∀ (s : Shared) (H : Hp) (C : Addr) (cl : List (Str × Addr)) (fp : List Addr), PE (X.blk s H scope (compEnvC scope cl C X.env) fp) vx tv) (hs : ∀ x, foldedSetIterable iter X.env x = pure x := by intro _; rfl) :
    PS X (.Assign [.Name y py] (.DictComp kx vx [⟨tg, iter, ifs, 0⟩] scope pos) spos) (tAsg (tDc wi g tt tk tv (own.map (·.2))) (gName i)) := by
  have hsw : swapsWith (.DictComp kx vx [⟨tg, iter, ifs, 0⟩] scope pos) (some (.Name y py)) spos.line X.env = pure true := by
    have h1 : X.env.kindOf y = some .local := hyl
    have h2 : X.env.blockKind = .function := by unfold Env.blockKind; rw [hkd]; rfl
    unfold swapsWith
    simp only [h2, h1, hno, Expr.pos, hln]
    rfl
  refine ⟨fun pins s σ H D I h => ?_⟩
  rw [exec_Assign_Name_used _ _ _ _ hsw]
  refine wpAny_bind (wpAny_standAt (wpAny_bind ?_))
  show wpAny _ X.A (do let _ ← comprehension (.DictComp kx vx [⟨tg, iter, ifs, 0⟩] scope pos) scope X.env (firstIterPos [⟨tg, iter, ifs, 0⟩] pos) newDict false (eval iter X.env) (some (assign (.Name y py) X.env))) _ _ s
  have h' : tDc wi g tt tk tv (own.map (·.2)) σ H (fun x H1 => gName i x σ H1 D.nx) := h
  refine wpAny_bind (thn (dc_core (Qf := fun _ s' => SP X pins D .next s') hc hN I hi ok hg ht hk he hs h' fun L C s' m H' I' q hn f => ?_) fun _ s' hq => wpAny_pure (wpAny_pure hq))
  show wpAny _ _ (assign (.Name y py) X.env (.ref L)) _ _ _
  refine wpAny_assign_Name (store_ok2 (v := V.ref L) I' hN hy (.inl hyl) rfl (fun s2 I2 ⟨a, sb, ha⟩ => ?_) (.inr hyl))
  obtain ⟨f0, f1, f2, f3, f4, f5⟩ := f
  have neq : C ≠ a := by
    rcases ha with z | z
    · rw [z]; exact f1
    · exact fun e => f4 y a z e.symm
  exact ⟨m, hn.sameBut sb neq, fun h3 sb3 => ⟨_, H', I2.turned (t' := s2.toks) (fun b o hb e => (sb3.2 b hb).trans e) f0 f1 f3 f4 f5, q⟩⟩
/-! ### first_outside -/
abbrev nsFO : List Str := ["self", "barred", "missing", "integer", "step", "times"]
def sft (L : LP) (n : Nat) (r : Int × Int) : Int × Int := (r.1 + (n : Nat) * lpPer L, r.2 + (n : Nat) * lpShift L)
def fo1 (bs : List Int) (rows : List (Int × Int)) : Option (Int × Int) := rows.find? fun r => !decide (r.2 ∈ bs)
def foR (L : LP) (bs : List Int) : Nat → Nat → Option (Int × Int)
  | 0, _ => none
  | k + 1, n => match fo1 bs ((lpCycle L).map (sft L n)) with
    | some r => some r
    | none => if endL L = true then foR L bs k (n + 1) else none
theorem foR_eq (L : LP) (bs : List Int) (k n : Nat) : foR L bs (k + 1) n = (match fo1 bs ((lpCycle L).map (sft L n)) with
    | some r => some r
    | none => if endL L = true then foR L bs k (n + 1) else none) := rfl
def foL (L : LP) (bs : List Int) : Option (Int × Int) := match fo1 bs (lpHead L) with
  | some r => some r
  | none => foR L bs (bs.length + 1) 0
def rowV (H H' : Hp) (v : V) : Option (Int × Int) → Prop
  | none => v = .non
  | some r => ∃ t, v = .ref t ∧ H t = none ∧ H' t = some (.tup [.int r.1, .int r.2])
def spFO (K : PySem.W.Frag) (C : Addr) : Sp := fun vs H Q _ => ∃ (ls m : Addr) (H0 : Hp) (L : LP) (bs : List Int), vs = [.ref ls, .ref m] ∧ LsO K H0 H C ls L ∧ SqL K H m (bs.map V.int) ∧ bs.length ≤ 100000 ∧ ∀ H' v, Same H H' → rowV H H' v (foL L bs) → Q v H'
theorem sub_len : ∀ {d l : List Int}, d.Nodup → (∀ x ∈ d, x ∈ l) → d.length ≤ l.length
  | [], l, _, _ => Nat.zero_le _
  | x :: d, l, hn, hs => by
    obtain ⟨hx, hd⟩ := List.nodup_cons.mp hn
    have hm : x ∈ l := hs x (List.mem_cons_self ..)
    have ih := sub_len (l := l.erase x) hd (fun y hy => (List.mem_erase_of_ne (fun e => by rw [e] at hy; exact hx hy)).mpr (hs y (List.mem_cons_of_mem _ hy)))
    have h1 := List.length_erase_of_mem hm
    have h2 := List.length_pos_of_mem hm
    rw [List.length_cons]
    omega
theorem fo1_none {bs : List Int} {rows : List (Int × Int)} (h : fo1 bs rows = none) : ∀ r ∈ rows, r.2 ∈ bs := fun r m => by
  have := List.find?_eq_none.mp h r m
  simpa using this
/-- an endless list leaves the barred ones behind -/
theorem fo_ends {L : LP} {bs : List Int} (he : endL L = true) (h : ∀ j, j < bs.length + 1 → fo1 bs ((lpCycle L).map (sft L j)) = none) : False := by
  unfold endL at he
  rw [Bool.and_eq_true] at he
  have h1 := of_decide_eq_true he.1
  have h2 := of_decide_eq_true he.2
  cases ec : lpCycle L with
  | nil => rw [ec] at h1; exact absurd h1 (Nat.lt_irrefl 0)
  | cons r t =>
    have hm : ∀ j, j < bs.length + 1 → r.2 + (j : Nat) * lpShift L ∈ bs := fun j hj => by
      have := fo1_none (h j hj) (sft L j r) (by rw [ec]; exact List.mem_map_of_mem (List.mem_cons_self ..))
      exact this
    have hn : ((List.range (bs.length + 1)).map fun j : Nat => r.2 + (j : Nat) * lpShift L).Nodup := by
      rw [List.nodup_iff_pairwise_ne, List.pairwise_map]
      refine List.Pairwise.imp (fun {a b} hab e => ?_) (List.nodup_iff_pairwise_ne.mp (List.nodup_range))
      have e' : (a : Int) * lpShift L = (b : Int) * lpShift L := by omega
      have := Int.eq_of_mul_eq_mul_right (by omega : lpShift L ≠ 0) e'
      exact hab (by omega)
    have := sub_len hn (fun x mx => by
      obtain ⟨j, hj, rfl⟩ := List.mem_map.mp mx
      exact hm j (List.mem_range.mp hj))
    rw [List.length_map, List.length_range] at this
    omega
theorem find_at {α : Type} {p : α → Bool} {l : List α} {i : Nat} {e : α} (h : (l.take i).find? p = none) (he : l[i]? = some e) (hp : p e = true) : l.find? p = some e := by
  have hi : i < l.length := (List.getElem?_eq_some_iff.mp he).1
  have e1 : l = l.take i ++ l.drop i := (List.take_append_drop i l).symm
  have e2 : l.drop i = e :: l.drop (i + 1) := by
    rw [List.drop_eq_getElem_cons hi]
    congr 1
    exact (List.getElem?_eq_some_iff.mp he).2
  rw [e1, List.find?_append, h, e2, Option.none_or, List.find?_cons_of_pos hp]
theorem find_snoc {α : Type} {p : α → Bool} {l : List α} {i : Nat} {e : α} (h : (l.take i).find? p = none) (he : l[i]? = some e) (hp : p e = false) : (l.take (i + 1)).find? p = none := by
  rw [take_snoc he, List.find?_append, h, Option.none_or, List.find?_cons_of_neg (by rw [hp]; decide)]
  rfl
/-- the first of the rows is the first of the firsts -/
theorem find_first (p : Int → Bool) (rows : List (Int × Int)) : ((firstS rows).find? fun e => p e.1).map (fun e => (e.2, e.1)) = rows.find? fun r => p r.2 := by
  have h : ∀ (rs acc : List (Int × Int)), ((rs.foldl putF1 acc).find? fun e => p e.1).map (fun e => (e.2, e.1)) = ((acc.find? fun e => p e.1).map fun e => (e.2, e.1)).or (rs.find? fun r => p r.2) := by
    intro rs
    induction rs with
    | nil => intro acc; simp
    | cons r t ih =>
      intro acc
      rw [List.foldl_cons, ih]
      unfold putF1
      cases ha : acc.any (fun e => decide (e.1 = r.2)) with
      | true =>
        rw [if_pos rfl]
        cases hf : acc.find? fun e => p e.1 with
        | some e => rfl
        | none =>
          obtain ⟨e, me, he⟩ := List.any_eq_true.mp ha
          have hp := List.find?_eq_none.mp hf e me
          have hpr : ¬ p r.2 = true := by rw [← of_decide_eq_true he]; exact hp
          simp [List.find?_cons, hpr]
      | false =>
        rw [if_neg (by decide), List.find?_append]
        cases hf : acc.find? fun e => p e.1 with
        | some e => rfl
        | none =>
          rw [Option.none_or]
          by_cases hp : p r.2 = true
          · simp [List.find?_cons, hp]
          · simp [List.find?_cons, hp]
  have := h rows []
  simpa [firstS] using this
theorem fo1_first (bs : List Int) (L : LP) (n : Nat) (rows : List (Int × Int)) : fo1 bs (rows.map (sft L n)) = ((firstS rows).find? fun e => !decide (e.1 + (n : Nat) * lpShift L ∈ bs)).map fun e => sft L n (e.2, e.1) := by
  have h := find_first (fun z => !decide (z + (n : Nat) * lpShift L ∈ bs)) rows
  unfold fo1
  rw [List.find?_map]
  show (rows.find? fun r => !decide (r.2 + (n : Nat) * lpShift L ∈ bs)).map (sft L n) = _
  rw [← h, Option.map_map]
  rfl
theorem Same.unlock {H1 Hx : Hp} {d : Addr} {od : Obj} {u : HO} (hd : H1 d = some u) (s : Same (upd H1 d (.frz od u)) Hx) : Same H1 (upd Hx d u) := fun p o e => by
  by_cases c : p = d
  · subst c
    rw [upd_same, ← hd, e]
  · rw [upd_ne c]
    exact s p o (by rw [upd_ne c]; exact e)
section
variable {P : Program} {w : World} {K : PySem.W.Frag} {mg : Str → Option Value} {base : Heap}
end
/-! ### the law's rounds -/
abbrev nsUnr : List Str := ["_law_listing_here", "_law_rounds", "_law_found", "_law_number", "_law_step", "_law_one"]
def unrL (L : LP) (n : Nat) : List (Int × Int) := lpHead L ++ (List.range n).flatMap fun k => (lpCycle L).map (sft L k)
theorem unrL_succ (L : LP) (n : Nat) : unrL L (n + 1) = unrL L n ++ (lpCycle L).map (sft L n) := by
  unfold unrL
  rw [List.range_succ, List.flatMap_append, ← List.append_assoc]
  simp
theorem unrL_len (L : LP) (n : Nat) : (unrL L n).length = (lpHead L).length + n * (lpCycle L).length := by
  induction n with
  | zero => simp [unrL]
  | succ n ih => rw [unrL_succ, List.length_append, ih, List.length_map, Nat.succ_mul]; omega
theorem sft_snoc {L : LP} {n : Nat} {rs : List (Int × Int)} {i : Nat} {r : Int × Int} (h : rs[i]? = some r) : (rs.take (i + 1)).map (sft L n) = (rs.take i).map (sft L n) ++ [sft L n r] := by
  rw [take_snoc h, List.map_append]
  rfl
def spUnr (K : PySem.W.Frag) : Sp := fun vs H Q _ => ∃ (t : Addr) (L : LP) (R : Int), vs = [.ref t, .int R] ∧ TupLR K H t L ∧ LpOk L ∧ (lpRows L).length ≤ 100000 ∧ 0 ≤ R ∧ R ≤ 10000 ∧ (lpHead L).length + R.toNat * (lpCycle L).length ≤ 2000000 ∧
  ∀ H' D ys, Same H H' → H D = none → H' D = some (.lst ys) → RowsAt H' ys (unrL L R.toNat) → Q (.ref D) H'
/-- the tuples of a round -/
theorem lc_round {K : PySem.W.Frag} {P : Nat → Nat → Prop} {L : LP} {n : Nat} {cy : Addr} {ys : List V} {σ : L2.St} {H : Hp} {D : Addr} {te : TE} {Qd : Hp → Prop} {i j : Nat} (hij : i ≠ j)
    (hw : ∀ x y : V, wipe (((wipe σ [i, j]).set i (some x)).set j (some y)) [i, j] = wipe σ [i, j])
    (hte : ∀ (r : Int × Int) (H' : Hp) (Q : VK), Same H H' → (∀ p, H' p = none → Q (.ref p) (upd H' p (.tup [.int (sft L n r).1, .int (sft L n r).2]))) → te (((wipe σ [i, j]).set i (some (.int r.1))).set j (some (.int r.2))) H' Q)
    (ec : H cy = some (.lst ys)) (dc : RowsAt H ys (lpCycle L)) (hl : (lpCycle L).length ≤ 100000) (nD : H D = none) (hd : ∀ H' us, Same H H' → H' D = some (.lst us) → RowsAt H' us ((lpCycle L).map (sft L n)) → Qd H') :
    ∃ W : Nat → Nat → Hp → Prop, (∃ m, W 0 m (upd H D (.lst []))) ∧ ∀ k m H, W k m H →
      ((Itl K cy).stop k H ∧ Qd H) ∨ ((Itl K cy).go k H ∧ ∃ Nx : Hp → Prop, (∀ H', Nx H' → ∃ m', m' < m ∧ W (k + 1) m' H') ∧ ∀ x H', (Itl K cy).yld k H x H' → (gTup K 2 (gCons (gName i) (gCons (gName j) gNil))) x (wipe σ [i, j]) H' fun σ2 H2 => wipe σ2 [i, j] = wipe σ [i, j] ∧ tYes σ2 H2 fun b H3 =>
        if b = true then te σ2 H3 fun y H4 => ∃ acc, H4 D = some (.lst acc) ∧ acc.length < sizeLine ∧ Nx (upd H4 D (.lst (acc ++ [y]))) else Nx H3) := by
  refine lc_list (K := K) (a := cy) (xs := ys) (fun k H' => Same H H' ∧ ∃ us, H' D = some (.lst us) ∧ RowsAt H' us (((lpCycle L).take k).map (sft L n))) ⟨same_new nD _, [], upd_same, .nil⟩ (fun k H' _ ⟨s1, _⟩ => SqL.of (s1 _ _ ec)) ?_ ?_
  · rintro k v H1 hv ⟨s1, us, eD, ru⟩
    obtain ⟨p, r, rfl, er, ep⟩ := dc.get hv
    have hk : k < (lpCycle L).length := (List.getElem?_eq_some_iff.mp er).1
    refine ⟨p, _, rfl, SqT.of (s1 _ _ ep), rfl, _, _, rfl, _, _, rfl, rfl, ?_⟩
    refine ⟨hw _ _, ?_⟩
    dsimp only [tYes]
    rw [if_pos rfl]
    refine hte r H1 _ s1 (fun p np => ?_)
    have u2 := same_new np (.tup [.int (sft L n r).1, .int (sft L n r).2])
    have e2 : (upd H1 p (.tup [.int (sft L n r).1, .int (sft L n r).2])) p = some (.tup [.int (sft L n r).1, .int (sft L n r).2]) := upd_same
    generalize upd H1 p (.tup [.int (sft L n r).1, .int (sft L n r).2]) = H2 at u2 e2 ⊢
    have k3 : KeepT H2 (upd H2 D (.lst (us ++ [.ref p]))) := KeepT.upd ⟨_, u2 _ _ eD⟩
    have hul := ru.len
    rw [List.length_map, List.length_take] at hul
    refine ⟨us, u2 _ _ eD, Nat.lt_of_le_of_lt (by omega : _ ≤ 100000) (by decide), same_upd (s1.trans u2) nD _, _, upd_same, ?_⟩
    rw [sft_snoc er]
    exact ((ru.keep (KeepT.of u2)).keep k3).app (.one (k3.1 _ _ e2))
  · rintro H1 ⟨s1, us, eD, ru⟩
    rw [dc.len, List.take_length] at ru
    exact hd H1 us s1 eD ru
section
variable {P : Program} {w : World} {K : PySem.W.Frag} {mg : Str → Option Value} {base : Heap}
end
theorem RowsAt.take {H : Hp} : ∀ {xs : List V} {rows : List (Int × Int)} (k : Nat), RowsAt H xs rows → RowsAt H (xs.take k) (rows.take k)
  | _, _, 0, _ => by rw [List.take_zero, List.take_zero]; exact .nil
  | _, _, k + 1, .nil => .nil
  | _, _, k + 1, .cons e h => .cons e (h.take k)
theorem cut_take (xs : List V) (k : Nat) : cutV xs none (some ((k : Nat) : Int)) = xs.take k := by
  unfold cutV
  rw [HT.sIx_nat]
  have e : HT.sIx xs.length 0 none = 0 := rfl
  rw [e, Nat.sub_zero, List.drop_zero]
  by_cases c : k ≤ xs.length
  · rw [Nat.min_eq_left c]
  · rw [Nat.min_eq_right (by omega), List.take_of_length_le (Nat.le_refl _), List.take_of_length_le (by omega)]
/-- [one for step, one in rows] -/
theorem lc_second {K : PySem.W.Frag} {a : Addr} {xs : List V} {rows : List (Int × Int)} {σ : L2.St} {H : Hp} {D : Addr} {Qd : Hp → Prop} {i j : Nat}
    (hw : ∀ x y : V, wipe (((wipe σ [i, j]).set i (some x)).set j (some y)) [i, j] = wipe σ [i, j] ∧ (((wipe σ [i, j]).set i (some x)).set j (some y))[j]? = some (some y))
    (ea : H a = some (.lst xs)) (dr : RowsAt H xs rows) (hl : rows.length ≤ 100000) (nD : H D = none) (hd : ∀ H', Same H H' → H' D = some (.lst ((rows.map (·.2)).map V.int)) → Qd H') :
    ∃ W : Nat → Nat → Hp → Prop, (∃ m, W 0 m (upd H D (.lst []))) ∧ ∀ k m H, W k m H →
      ((Itl K a).stop k H ∧ Qd H) ∨ ((Itl K a).go k H ∧ ∃ Nx : Hp → Prop, (∀ H', Nx H' → ∃ m', m' < m ∧ W (k + 1) m' H') ∧ ∀ x H', (Itl K a).yld k H x H' → (gTup K 2 (gCons (gName i) (gCons (gName j) gNil))) x (wipe σ [i, j]) H' fun σ2 H2 => wipe σ2 [i, j] = wipe σ [i, j] ∧ tYes σ2 H2 fun b H3 =>
        if b = true then (tVar j) σ2 H3 fun y H4 => ∃ acc, H4 D = some (.lst acc) ∧ acc.length < sizeLine ∧ Nx (upd H4 D (.lst (acc ++ [y]))) else Nx H3) := by
  refine lc_list (K := K) (a := a) (xs := xs) (fun k H' => Same H H' ∧ H' D = some (.lst (((rows.take k).map (·.2)).map V.int))) ⟨same_new nD _, upd_same⟩ (fun k H' _ ⟨s1, _⟩ => SqL.of (s1 _ _ ea)) ?_ ?_
  · rintro k v H1 hv ⟨s1, eD⟩
    obtain ⟨p, r, rfl, er, ep⟩ := dr.get hv
    have hk : k < rows.length := (List.getElem?_eq_some_iff.mp er).1
    refine ⟨p, _, rfl, SqT.of (s1 _ _ ep), rfl, _, _, rfl, _, _, rfl, rfl, ?_⟩
    refine ⟨(hw _ _).1, ?_⟩
    dsimp only [tYes]
    rw [if_pos rfl]
    refine ⟨_, (hw _ _).2, _, eD, ?_, same_upd s1 nD _, ?_⟩
    · rw [List.length_map, List.length_map, List.length_take]
      exact Nat.lt_of_le_of_lt (by omega : _ ≤ 100000) (by decide)
    · rw [upd_same, take_snoc er, List.map_append, List.map_append]
      rfl
  · rintro H1 ⟨s1, eD⟩
    rw [dr.len, List.take_length] at eD
    exact hd H1 s1 eD
/-! ### what a draw leaves as it is -/
theorem Fr.keepT {b : Addr} {H H' : Hp} (f : Fr b H H') (g : Bag H b) : KeepT H H' := by
  obtain ⟨xs, e⟩ := g.lst
  exact ⟨fun x l h => f _ _ (fun z => by rw [z, e] at h; cases h) h, fun x o u h => f _ _ (fun z => by rw [z, e] at h; cases h) h⟩
theorem RowsAt.noBag {H : Hp} {b l : Addr} {xs : List V} {rows : List (Int × Int)} (g : Bag H b) (e : H l = some (.lst xs)) (h : RowsAt H xs rows) : l ≠ b := fun z => by
  obtain ⟨c, s, eb, _⟩ := g
  rw [z, eb] at e
  have e' : [V.int c, V.int s] = xs := by injection e with e; injection e
  subst e'
  cases h
theorem fam_noBag {K : PySem.W.Frag} {H : Hp} {b : Addr} (g : Bag H b) : ∀ {kvs : List (Key × V)} {fam : List (Int × List (Int × Int))} {la : List Addr}, FamR K H kvs fam la → ∀ a ∈ la, a ≠ b
  | _, _, _, .nil => fun a m => nomatch m
  | _, _, _, .cons (xs := xs) (rows := rows) e d n h => fun a m => by
    rcases List.mem_cons.mp m with rfl | m
    · intro z
      obtain ⟨c, s, eb, _⟩ := g
      rw [z, eb] at e
      have e' : [V.int c, V.int s] = xs := by injection e with e; injection e
      subst e'
      cases rows with
      | nil => cases d
      | cons r t =>
        cases d with
        | cons h1 h2 => cases h1
    · exact fam_noBag g h a m
theorem LsO.fr {K : PySem.W.Frag} {H0 H H' : Hp} {C ls b : Addr} {L : LP} (h : LsO K H0 H C ls L) (g : Bag H b) (f : Fr b H H') : LsO K H0 H' C ls L := by
  obtain ⟨dx, hd, cy, kh, kc, hs, cs, fm, xs, ys, kvs, la, h1, h2, h3, h4, h5, h6, h7, h8, h9, h10, h11, r⟩ := h.ex
  have k := f.keepT g
  obtain ⟨bs, eb⟩ := g.lst
  have nb : ∀ {p : Addr} {o : HO}, H p = some o → (∀ zs, o ≠ .lst zs) → H' p = some o := fun {p o} e n => f _ _ (fun z => by rw [z, eb] at e; cases e; exact n _ rfl) e
  exact ⟨dx, hd, cy, kh, kc, hs, cs, fm, xs, ys, kvs, la, nb h1 (fun _ z => nomatch z), f _ _ (h4.noBag g h2) h2, f _ _ (h5.noBag g h3) h3, h4.keep k, h5.keep k, nb h6 (fun _ z => nomatch z), nb h7 (fun _ z => nomatch z), nb h8 (fun _ z => nomatch z), nb h9 (fun _ z => nomatch z), nb h10 (fun _ z => nomatch z), h11.keep (KeepR.t k) (fun a m o e => f _ _ (fam_noBag g h11 a m) e), r⟩
theorem TupLR.fr {K : PySem.W.Frag} {H H' : Hp} {t b : Addr} {L : LP} (h : TupLR K H t L) (g : Bag H b) (f : Fr b H H') : TupLR K H' t L := by
  obtain ⟨hd, cy, xs, ys, h1, h2, h3, h4, h5⟩ := h
  have k := f.keepT g
  exact ⟨hd, cy, xs, ys, k.1 _ _ h1, f _ _ (h4.noBag g h2) h2, f _ _ (h5.noBag g h3) h3, h4.keep k, h5.keep k⟩
theorem TupLR.same {K : PySem.W.Frag} {H H' : Hp} {t : Addr} {L : LP} (h : TupLR K H t L) (s : Same H H') : TupLR K H' t L := by
  obtain ⟨hd, cy, xs, ys, h1, h2, h3, h4, h5⟩ := h
  exact ⟨hd, cy, xs, ys, s _ _ h1, s _ _ h2, s _ _ h3, h4.keep (KeepT.of s), h5.keep (KeepT.of s)⟩
theorem fr_none {b p : Addr} {H H' : Hp} (f : Fr b H H') (n : p ≠ b) (e : H' p = none) : H p = none := by
  cases z : H p with
  | none => rfl
  | some o => rw [f _ _ n z] at e; cases e
theorem run0 : runL [] = .fin [] := by rfl
theorem dpI {K : PySem.W.Frag} {H : Hp} : ∀ ns : List Int, DpAll K H (ns.map V.int) (ns.map PyData.int)
  | [] => .nil
  | n :: r => .cons (.int n) (dpI r)
theorem shapedI (ns : List Int) : SeqAt.shaped (.list (ns.map PyData.int)) = true := by
  show ((PyData.list (ns.map PyData.int)).canLay0 && decide ((PyData.list (ns.map PyData.int)).depth ≤ 64)) = true
  rw [Bool.and_eq_true]
  constructor
  · simp only [PyData.canLay0]
    exact lay_all fun d m => by obtain ⟨n, _, rfl⟩ := List.mem_map.mp m; exact lay_int n
  · have hd : PyData.depthAll (ns.map PyData.int) ≤ 1 := depth_all fun d m => by obtain ⟨n, _, rfl⟩ := List.mem_map.mp m; simp only [PyData.depth]; decide
    simp only [PyData.depth]
    exact decide_eq_true (by omega)
def rgI (a : Int) (n : Nat) : List Int := (List.range n).map fun i => a + (i : Nat)
theorem mem_rgI {a : Int} {n : Nat} {z : Int} : z ∈ rgI a n ↔ a ≤ z ∧ z < a + n := by
  unfold rgI
  rw [List.mem_map]
  constructor
  · rintro ⟨i, hi, rfl⟩
    have := List.mem_range.mp hi
    omega
  · intro h
    exact ⟨(z - a).toNat, List.mem_range.mpr (by omega), by omega⟩
theorem rgV_rgI (a b : Int) (n : Nat) (h : (b - a).toNat = n) : rgV a b = (rgI a n).map V.int := by
  unfold rgV rgI
  rw [h, List.map_map]
  rfl
/-! ### what k17's law counts -/
abbrev nsCntU : List Str := ["_law_shape", "_law_age", "_law_count_here", "_law_step", "_law_one"]
abbrev nsWithin : List Str := ["_law_shape", "_law_age", "_law_count_here", "_law_rounds", "_law_pair"]
def cntF (per age : Int) (rs : List (Int × Int)) : List Int := (rs.filter fun r => decide (r.1 ≤ age)).map fun r => (age - r.1) / per + 1
theorem cntF_sum (per age : Int) : ∀ rs : List (Int × Int), (cntF per age rs).sum = (rs.map fun r => roundsU per r.1 age).sum
  | [] => rfl
  | r :: t => by
    have ih := cntF_sum per age t
    unfold cntF at ih ⊢
    rw [List.filter_cons, List.map_cons, List.sum_cons]
    by_cases c : r.1 ≤ age
    · rw [if_pos (decide_eq_true c), List.map_cons, List.sum_cons, ih]
      unfold roundsU
      rw [if_neg (by omega)]
    · rw [if_neg (by rw [decide_eq_false c]; decide), ih]
      unfold roundsU
      rw [if_pos (by omega)]
      omega
def spCntU (K : PySem.W.Frag) : Sp := fun vs H Q _ => ∃ (t : Addr) (L : LP) (age : Int), vs = [.ref t, .int age] ∧ TupLR K H t L ∧ LpOk L ∧ (lpRows L).length ≤ 100000 ∧ ∀ H', Same H H' → Q (.int (cntU L age)) H'
def spStepOf (K : PySem.W.Frag) : Sp := fun vs H Q _ => ∃ (t : Addr) (L : LP) (n : Int), vs = [.ref t, .int n] ∧ TupLR K H t L ∧ LpOk L ∧ (lpRows L).length ≤ 100000 ∧ lpCycle L ≠ [] ∧ 0 ≤ n ∧ n ≤ 5000 ∧ ∀ r : Int, 0 ≤ r → Q (.int r) H
def rndsW (L : LP) (n : Int) : Int := if lpCycle L = [] then 0 else n / (lpCycle L).length + 2
def spWithin (K : PySem.W.Frag) : Sp := fun vs H Q _ => ∃ (t : Addr) (L : LP) (age n : Int), vs = [.ref t, .int age, .int n] ∧ TupLR K H t L ∧ LpOk L ∧ (lpRows L).length ≤ 100000 ∧ 0 ≤ n ∧ n ≤ 1000 ∧
  ∀ H' D ys, Same H H' → H D = none → H' D = some (.lst ys) → RowsAt H' ys ((unrL L (rndsW L n).toNat).filter fun r => decide (r.1 ≤ age)) → Q (.ref D) H'
/-- [e for step, one in rows if ..] -/
theorem lc_pairF {K : PySem.W.Frag} {a : Addr} {xs : List V} {rows : List (Int × Int)} {σ : L2.St} {H : Hp} {D : Addr} {tt : TT} {te : TE} {φ : Int × Int → Bool} {g : Int × Int → Int} {Qd : Hp → Prop} {i j : Nat}
    (hw : ∀ x y : V, wipe (((wipe σ [i, j]).set i (some x)).set j (some y)) [i, j] = wipe σ [i, j])
    (htt : ∀ (r : Int × Int) (H' : Hp) (Q : Bool → Hp → Prop), Same H H' → Q (φ r) H' → tt (((wipe σ [i, j]).set i (some (.int r.1))).set j (some (.int r.2))) H' Q)
    (hte : ∀ (r : Int × Int) (H' : Hp) (Q : VK), r ∈ rows → Same H H' → Q (.int (g r)) H' → te (((wipe σ [i, j]).set i (some (.int r.1))).set j (some (.int r.2))) H' Q)
    (ea : H a = some (.lst xs)) (dr : RowsAt H xs rows) (hl : rows.length ≤ 100000) (nD : H D = none) (hd : ∀ H', Same H H' → H' D = some (.lst (((rows.filter φ).map g).map V.int)) → Qd H') :
    ∃ W : Nat → Nat → Hp → Prop, (∃ m, W 0 m (upd H D (.lst []))) ∧ ∀ k m H, W k m H →
      ((Itl K a).stop k H ∧ Qd H) ∨ ((Itl K a).go k H ∧ ∃ Nx : Hp → Prop, (∀ H', Nx H' → ∃ m', m' < m ∧ W (k + 1) m' H') ∧ ∀ x H', (Itl K a).yld k H x H' → (gTup K 2 (gCons (gName i) (gCons (gName j) gNil))) x (wipe σ [i, j]) H' fun σ2 H2 => wipe σ2 [i, j] = wipe σ [i, j] ∧ tt σ2 H2 fun b H3 =>
        if b = true then te σ2 H3 fun y H4 => ∃ acc, H4 D = some (.lst acc) ∧ acc.length < sizeLine ∧ Nx (upd H4 D (.lst (acc ++ [y]))) else Nx H3) := by
  refine lc_list (K := K) (a := a) (xs := xs) (fun k H' => Same H H' ∧ H' D = some (.lst ((((rows.take k).filter φ).map g).map V.int))) ⟨same_new nD _, upd_same⟩ (fun k H' _ ⟨s1, _⟩ => SqL.of (s1 _ _ ea)) ?_ ?_
  · rintro k v H1 hv ⟨s1, eD⟩
    obtain ⟨p, r, rfl, er, ep⟩ := dr.get hv
    have hk : k < rows.length := (List.getElem?_eq_some_iff.mp er).1
    refine ⟨p, _, rfl, SqT.of (s1 _ _ ep), rfl, _, _, rfl, _, _, rfl, rfl, ?_⟩
    refine ⟨hw _ _, htt r H1 _ s1 ?_⟩
    cases e : φ r with
    | true =>
      rw [if_pos rfl]
      refine hte r H1 _ (List.mem_of_getElem? er) s1 ⟨_, eD, ?_, same_upd s1 nD _, ?_⟩
      · rw [List.length_map, List.length_map]
        have := List.length_filter_le φ (rows.take k)
        rw [List.length_take] at this
        exact Nat.lt_of_le_of_lt (by omega : _ ≤ 100000) (by decide)
      · rw [upd_same, filt_snocR er, e, if_pos rfl, List.map_append, List.map_append]
        rfl
    | false =>
      rw [if_neg (by decide)]
      refine ⟨s1, ?_⟩
      rw [filt_snocR er, e, if_neg (by decide), List.append_nil]
      exact eD
  · rintro H1 ⟨s1, eD⟩
    rw [dr.len, List.take_length] at eD
    exact hd H1 s1 eD
theorem lc_rowsB {J : It} {G : Hp → Prop} {xs : List V} {rows : List (Int × Int)} {j : Nat} {σ : L2.St} {H : Hp} {D : Addr} {tt : TT} {φ : Int × Int → Bool} {Qd : Hp → Prop} (wk : L2.Walk J xs.length G (YAt xs)) (hG : ∀ H', Same H H' → G H') (hw : ∀ x : V, wipe ((wipe σ [j]).set j (some x)) [j] = wipe σ [j] ∧ ((wipe σ [j]).set j (some x))[j]? = some (some x))
    (htt : ∀ (p : Addr) (r : Int × Int) (H' : Hp) (Q : Bool → Hp → Prop), Same H H' → H' p = some (.tup [.int r.1, .int r.2]) → Q (φ r) H' → tt ((wipe σ [j]).set j (some (.ref p))) H' Q) (hr : RowsAt H xs rows) (hl : rows.length ≤ 2000000) (nD : H D = none)
    (hd : ∀ H' ys, Same H H' → H' D = some (.lst ys) → RowsAt H' ys (rows.filter φ) → Qd H') :
    ∃ W : Nat → Nat → Hp → Prop, (∃ m, W 0 m (upd H D (.lst []))) ∧ ∀ i m H, W i m H →
      (J.stop i H ∧ Qd H) ∨ (J.go i H ∧ ∃ Nx : Hp → Prop, (∀ H', Nx H' → ∃ m', m' < m ∧ W (i + 1) m' H') ∧ ∀ x H', J.yld i H x H' → (gName j) x (wipe σ [j]) H' fun σ2 H2 => wipe σ2 [j] = wipe σ [j] ∧ tt σ2 H2 fun b H3 =>
        if b = true then (tVar j) σ2 H3 fun y H4 => ∃ acc, H4 D = some (.lst acc) ∧ acc.length < sizeLine ∧ Nx (upd H4 D (.lst (acc ++ [y]))) else Nx H3) := by
  have hxl := hr.len
  refine lc_it wk (fun i H' => Same H H' ∧ ∃ ys, H' D = some (.lst ys) ∧ RowsAt H' ys ((rows.take i).filter φ)) ⟨same_new nD _, [], upd_same, .nil⟩ (fun i H' _ ⟨s1, _⟩ => hG _ s1) ?_ ?_
  · rintro i v H1 H1' hi ⟨s1, ys, e1, hys⟩ ⟨rfl, hv⟩
    obtain ⟨p, r, rfl, er, ep⟩ := hr.get hv
    have hi : i < rows.length := (List.getElem?_eq_some_iff.mp er).1
    refine ⟨(hw _).1, htt p r H1' _ s1 (s1 _ _ ep) ?_⟩
    cases e : φ r with
    | true =>
      rw [if_pos rfl]
      have k1 : KeepT H1' (upd H1' D (.lst (ys ++ [.ref p]))) := KeepT.upd ⟨_, e1⟩
      refine ⟨_, (hw _).2, _, e1, ?_, same_upd s1 nD _, ys ++ [.ref p], upd_same, ?_⟩
      · have h1 := hys.len
        have h2 := List.length_filter_le φ (rows.take i)
        rw [List.length_take] at h2
        rw [h1]
        exact Nat.lt_of_le_of_lt (by omega : _ ≤ 2000000) (by decide)
      · rw [filt_snocR er, e, if_pos rfl]
        exact (hys.keep k1).app (.one (k1.1 _ _ (s1 _ _ ep)))
    | false =>
      rw [if_neg (by decide)]
      refine ⟨s1, ys, e1, ?_⟩
      rw [filt_snocR er, e, if_neg (by decide), List.append_nil]
      exact hys
  · rintro H1 ⟨s1, ys, e1, hys⟩
    rw [hxl, List.take_length] at hys
    exact hd _ ys s1 e1 hys
section
variable {P : Program} {w : World} {K : PySem.W.Frag} {mg : Str → Option Value} {base : Heap}
end
/-! ### the rounds walked are those told by until -/
theorem lexB_if (x y : Int × Int) : SrtO.lexB x y = decide (x.1 < y.1 ∨ (x.1 = y.1 ∧ x.2 < y.2)) := by
  unfold SrtO.lexB
  by_cases c : x.1 = y.1
  · rw [if_pos c]; simp [c]
  · rw [if_neg c]; simp [c]
theorem lexB_lt {x y : Int × Int} (h : x.1 < y.1) : SrtO.lexB y x = false := by
  rw [lexB_if]
  exact decide_eq_false (by omega)
theorem lexB_anti {x y : Int × Int} (h1 : SrtO.lexB y x = false) (h2 : SrtO.lexB x y = false) : x = y := by
  rw [lexB_if] at h1 h2
  have a1 := of_decide_eq_false h1
  have a2 := of_decide_eq_false h2
  exact Prod.ext (by omega) (by omega)
theorem sub_srtU {rows : List (Int × Int)} {p : Int × Int → Bool} (h : rows.Pairwise fun x y => x.1 < y.1) : (rows.filter p).Pairwise fun x y => x.1 < y.1 := h.sublist List.filter_sublist
theorem head_riseU {L : LP} (h : LpOk L) : (lpHead L).Pairwise fun a b => a.1 < b.1 := by
  have hs := h.srt
  cases L with
  | fin rows => exact hs
  | cyc f c t ct rows => exact sub_srtU hs
theorem cycle_riseU {L : LP} (h : LpOk L) : (lpCycle L).Pairwise fun a b => a.1 < b.1 := by
  have hs := h.srt
  cases L with
  | fin rows => exact List.Pairwise.nil
  | cyc f c t ct rows => exact sub_srtU hs
theorem head_cycleU {L : LP} {r q : Int × Int} (h : r ∈ lpHead L) (m : q ∈ lpCycle L) : r.1 < q.1 := by
  cases L with
  | fin rows => cases m
  | cyc f c t ct rows =>
    have h1 := of_decide_eq_true (List.mem_filter.mp h).2
    have h2 := of_decide_eq_true (List.mem_filter.mp m).2
    omega
/-- the cycle lies within a period -/
def LpIn (L : LP) : Prop := ∀ r ∈ lpCycle L, ∀ q ∈ lpCycle L, r.1 < q.1 + lpPer L
theorem runL_in {code : List Ins} (hok : ∀ i ∈ code, i.ok "collector") : LpIn (runL code) := by
  have h := runL_fact hok
  intro r mr q mq
  cases e : runL code with
  | fin rows => rw [e] at mr; cases mr
  | cyc f c t ct rows =>
    rw [e] at h mr mq
    obtain ⟨h1, h2, h3, h4, h5, h6, h7⟩ := h
    have hr := List.mem_filter.mp mr
    have hq := List.mem_filter.mp mq
    have a1 := (h7.2 r hr.1).2.1
    have a2 := of_decide_eq_true hq.2
    show r.1 < q.1 + (t - f)
    omega
theorem flatMap_cons_perm {α β : Type} (g : α → β) (h : α → List β) : ∀ ys : List α, (ys.flatMap fun y => g y :: h y).Perm (ys.map g ++ ys.flatMap h)
  | [] => .nil
  | y :: t => by
    rw [List.flatMap_cons, List.map_cons, List.flatMap_cons, List.cons_append, List.cons_append]
    refine .cons _ ?_
    have ih := flatMap_cons_perm g h t
    refine ((List.Perm.refl (h y)).append ih).trans ?_
    rw [← List.append_assoc, ← List.append_assoc]
    exact (List.perm_append_comm).append (List.Perm.refl _)
theorem flatMap_swap {α β γ : Type} (f : α → β → γ) (ys : List β) : ∀ xs : List α, (xs.flatMap fun x => ys.map (f x)).Perm (ys.flatMap fun y => xs.map fun x => f x y)
  | [] => by
    rw [List.flatMap_nil]
    induction ys with
    | nil => exact .nil
    | cons y t ih => rw [List.flatMap_cons]; exact ih
  | x :: t => by
    rw [List.flatMap_cons]
    have ih := flatMap_swap f ys t
    refine ((List.Perm.refl _).append ih).trans ?_
    exact (flatMap_cons_perm (fun y => f x y) (fun y => t.map fun x => f x y) ys).symm
theorem range_filter {R n : Nat} (h : R ≤ n) : (List.range n).filter (fun k => decide (k < R)) = List.range R := by
  obtain ⟨m, rfl⟩ : ∃ m, n = R + m := ⟨n - R, by omega⟩
  rw [List.range_add, List.filter_append]
  have e1 : (List.range R).filter (fun k => decide (k < R)) = List.range R := List.filter_eq_self.mpr fun k m => decide_eq_true (List.mem_range.mp m)
  have e2 : ((List.range m).map (R + ·)).filter (fun k => decide (k < R)) = [] := by
    rw [List.filter_eq_nil_iff]
    intro k mk
    obtain ⟨j, _, rfl⟩ := List.mem_map.mp mk
    simp
  rw [e1, e2, List.append_nil]
theorem in_round {per step age : Int} (hp : 0 < per) (k : Nat) : step + (k : Nat) * per ≤ age ↔ k < (roundsU per step age).toNat := by
  unfold roundsU
  by_cases c : age < step
  · rw [if_pos c]
    have : (0 : Int) ≤ (k : Nat) * per := Int.mul_nonneg (Int.natCast_nonneg _) (Int.le_of_lt hp)
    constructor
    · intro h; omega
    · intro h; exact absurd h (by simp)
  · rw [if_neg c]
    have h0 : 0 ≤ (age - step) / per := Int.ediv_nonneg (by omega) (Int.le_of_lt hp)
    have hk : ((k : Nat) : Int) ≤ (age - step) / per ↔ ((k : Nat) : Int) * per ≤ age - step := Int.le_ediv_iff_mul_le hp
    constructor
    · intro h
      have := hk.mpr (by omega)
      omega
    · intro h
      have := hk.mp (by omega)
      omega
theorem one_round {L : LP} {r : Int × Int} {age : Int} {n : Nat} (hp : 0 < lpPer L) (h : (roundsU (lpPer L) r.1 age).toNat ≤ n) : ((List.range n).map fun k => sft L k r).filter (fun r => decide (r.1 ≤ age)) = roundRows (lpPer L) (lpShift L) r (roundsU (lpPer L) r.1 age).toNat := by
  rw [List.filter_map]
  have e : ((fun r : Int × Int => decide (r.1 ≤ age)) ∘ fun k => sft L k r) = fun k => decide (k < (roundsU (lpPer L) r.1 age).toNat) := by
    funext k
    show decide (r.1 + (k : Nat) * lpPer L ≤ age) = _
    exact decide_eq_decide.mpr (in_round hp k)
  rw [e, range_filter h]
  rfl
theorem filter_flatMap' {α β : Type} (p : β → Bool) (f : α → List β) : ∀ xs : List α, (xs.flatMap f).filter p = xs.flatMap fun x => (f x).filter p
  | [] => rfl
  | x :: t => by rw [List.flatMap_cons, List.flatMap_cons, List.filter_append, filter_flatMap' p f t]
theorem flatMap_congr' {α β : Type} {f g : α → List β} : ∀ {xs : List α}, (∀ x ∈ xs, f x = g x) → xs.flatMap f = xs.flatMap g
  | [], _ => rfl
  | x :: t, h => by rw [List.flatMap_cons, List.flatMap_cons, h x (List.mem_cons_self ..), flatMap_congr' fun y m => h y (List.mem_cons_of_mem _ m)]
theorem unr_perm {L : LP} {age : Int} {n : Nat} (hp : ∀ r ∈ lpCycle L, 0 < lpPer L) (h : ∀ r ∈ lpCycle L, (roundsU (lpPer L) r.1 age).toNat ≤ n) : ((unrL L n).filter fun r => decide (r.1 ≤ age)).Perm (rawU L age) := by
  unfold unrL rawU
  rw [List.filter_append]
  refine (List.Perm.refl _).append ?_
  refine ((flatMap_swap (fun k r => sft L k r) (lpCycle L) (List.range n)).filter _).trans ?_
  rw [filter_flatMap', flatMap_congr' fun r m => one_round (hp r m) (h r m)]
theorem unr_rise {L : LP} (hL : LpOk L) (hI : LpIn L) : ∀ n : Nat, (unrL L n).Pairwise (fun a b => a.1 < b.1) ∧ ∀ a ∈ unrL L n, (a ∈ lpHead L) ∨ ∃ k r, k < n ∧ r ∈ lpCycle L ∧ a = sft L k r
  | 0 => by
    have e : unrL L 0 = lpHead L := by unfold unrL; simp
    rw [e]
    exact ⟨head_riseU hL, fun a m => .inl m⟩
  | n + 1 => by
    obtain ⟨h1, h2⟩ := unr_rise hL hI n
    rw [unrL_succ]
    refine ⟨List.pairwise_append.mpr ⟨h1, ?_, fun a ma b mb => ?_⟩, fun a ma => ?_⟩
    · rw [List.pairwise_map]
      refine (cycle_riseU hL).imp fun {x y} hxy => ?_
      show x.1 + (n : Nat) * lpPer L < y.1 + (n : Nat) * lpPer L
      omega
    · obtain ⟨q, mq, rfl⟩ := List.mem_map.mp mb
      have hper := hL.per (fun z => by rw [z] at mq; cases mq)
      rcases h2 a ma with ha | ⟨k, r, hk, mr, rfl⟩
      · have := head_cycleU ha mq
        have h3 : (0 : Int) ≤ (n : Nat) * lpPer L := Int.mul_nonneg (Int.natCast_nonneg _) hL.per0
        show a.1 < q.1 + (n : Nat) * lpPer L
        omega
      · have h3 := hI r mr q mq
        have h4 : ((k : Nat) + 1 : Int) * lpPer L ≤ (n : Nat) * lpPer L := Int.mul_le_mul_of_nonneg_right (by omega) hL.per0
        rw [Int.add_mul] at h4
        show r.1 + (k : Nat) * lpPer L < q.1 + (n : Nat) * lpPer L
        omega
    · rcases List.mem_append.mp ma with ma | ma
      · rcases h2 a ma with ha | ⟨k, r, hk, mr, e⟩
        · exact .inl ha
        · exact .inr ⟨k, r, by omega, mr, e⟩
      · obtain ⟨q, mq, rfl⟩ := List.mem_map.mp ma
        exact .inr ⟨n, q, by omega, mq, rfl⟩
/-- no row has two rounds more than another -/
theorem rounds_near {L : LP} (hL : LpOk L) (hI : LpIn L) {age : Int} {r q : Int × Int} (mr : r ∈ lpCycle L) (mq : q ∈ lpCycle L) : roundsU (lpPer L) r.1 age ≤ roundsU (lpPer L) q.1 age + 1 := by
  have hper := hL.per (fun z => by rw [z] at mq; cases mq)
  have h1 := hI q mq r mr
  unfold roundsU
  by_cases c : age < r.1
  · rw [if_pos c]
    have := roundsU_nn (step := q.1) (age := age) hper
    unfold roundsU at this
    omega
  · rw [if_neg c]
    by_cases d : age < q.1
    · rw [if_pos d]
      have : (age - r.1) / lpPer L < 1 := Int.ediv_lt_of_lt_mul hper (by omega)
      omega
    · rw [if_neg d]
      have h2 : (age - r.1) / lpPer L < (age - q.1) / lpPer L + 2 := by
        refine Int.ediv_lt_of_lt_mul hper ?_
        have h3 := Int.lt_mul_ediv_self_add (x := age - q.1) hper
        rw [Int.add_mul]
        have e : lpPer L * ((age - q.1) / lpPer L) = (age - q.1) / lpPer L * lpPer L := Int.mul_comm _ _
        omega
      omega
theorem sum_ge {f : Int × Int → Int} {m : Int} : ∀ rs : List (Int × Int), (∀ r ∈ rs, m ≤ f r) → m * (rs.length : Nat) ≤ (rs.map f).sum
  | [], _ => by simp
  | r :: t, h => by
    rw [List.map_cons, List.sum_cons, List.length_cons]
    have h1 := h r (List.mem_cons_self ..)
    have h2 := sum_ge t fun x mx => h x (List.mem_cons_of_mem _ mx)
    rw [Int.natCast_add, Int.mul_add]
    omega
theorem rounds_le {L : LP} (hL : LpOk L) (hI : LpIn L) {age : Int} {r : Int × Int} (mr : r ∈ lpCycle L) : (roundsU (lpPer L) r.1 age).toNat ≤ (rndsW L (cntU L age)).toNat := by
  have hne : lpCycle L ≠ [] := fun z => by rw [z] at mr; cases mr
  have hper := hL.per hne
  have hcp : 0 < (lpCycle L).length := List.length_pos_iff.mpr hne
  have h1 := sum_ge (f := fun q => roundsU (lpPer L) q.1 age) (m := roundsU (lpPer L) r.1 age - 1) (lpCycle L) fun q mq => by
    have := rounds_near hL hI (age := age) mr mq
    omega
  have h2 : (roundsU (lpPer L) r.1 age - 1) * ((lpCycle L).length : Nat) ≤ cntU L age := by
    unfold cntU
    omega
  have h3 : roundsU (lpPer L) r.1 age - 1 ≤ cntU L age / ((lpCycle L).length : Nat) := (Int.le_ediv_iff_mul_le (by omega)).mpr h2
  have h0 := roundsU_nn (step := r.1) (age := age) hper
  unfold rndsW
  rw [if_neg hne]
  omega
theorem until_is {L : LP} (hL : LpOk L) (hI : LpIn L) {age : Int} {rows : List (Int × Int)} (hp : rows.Perm (rawU L age)) (hs : srtP rows) : rows = (unrL L (rndsW L (cntU L age)).toNat).filter fun r => decide (r.1 ≤ age) := by
  refine List.Perm.eq_of_pairwise (le := fun x y => SrtO.lexB y x = false) (fun a b _ _ h1 h2 => lexB_anti h1 h2) hs ?_ (hp.trans (unr_perm (fun r m => hL.per (fun z => by rw [z] at m; cases m)) (fun r m => rounds_le hL hI m)).symm)
  exact ((unr_rise hL hI _).1.sublist List.filter_sublist).imp fun h => lexB_lt h
/-! ### a plain walk of a collector, without a look at states -/
structure WS where
  s : S3
  t : Int
  ct : Int
  rows : List (Int × Int)
def rwS (code : List Ins) (x : WS) : List (Int × Int) := match code[x.s.pc]? with
  | none => []
  | some i => rowsOf x.t x.ct x.s i
def wStep (code : List Ins) (x : WS) : WS := match code[x.s.pc]? with
  | none => x
  | some i => ⟨nextL x.s i, x.t + i.cost, x.ct + i.grown x.s.a x.s.b, x.rows ++ rowsOf x.t x.ct x.s i⟩
def wk (code : List Ins) : Nat → WS
  | 0 => ⟨⟨0, 0, 0⟩, 0, 0, []⟩
  | n + 1 => wStep code (wk code n)
theorem wk_succ (code : List Ins) (n : Nat) : wk code (n + 1) = wStep code (wk code n) := rfl
theorem wStep_some {code : List Ins} {x : WS} {i : Ins} (h : code[x.s.pc]? = some i) : wStep code x = ⟨nextL x.s i, x.t + i.cost, x.ct + i.grown x.s.a x.s.b, x.rows ++ rowsOf x.t x.ct x.s i⟩ := by
  unfold wStep
  rw [h]
theorem wStep_none {code : List Ins} {x : WS} (h : code[x.s.pc]? = none) : wStep code x = x := by
  unfold wStep
  rw [h]
theorem wk_rows (code : List Ins) (n : Nat) : (wk code (n + 1)).rows = (wk code n).rows ++ rwS code (wk code n) := by
  rw [wk_succ]
  unfold rwS
  cases h : code[(wk code n).s.pc]? with
  | none => rw [wStep_none h]; simp
  | some i => rw [wStep_some h]
theorem wk_stuck {code : List Ins} {n : Nat} (h : code[(wk code n).s.pc]? = none) : ∀ m, wk code (n + m) = wk code n
  | 0 => rfl
  | m + 1 => by
    rw [← Nat.add_assoc, wk_succ, wk_stuck h m, wStep_none h]
theorem rwS_len (code : List Ins) (x : WS) : (rwS code x).length ≤ 1 := by
  unfold rwS
  split
  · exact Nat.zero_le _
  · rename_i i _
    cases i <;> first | exact Nat.le_refl 1 | exact Nat.zero_le 1
theorem wk_len (code : List Ins) : ∀ n, (wk code n).rows.length ≤ n
  | 0 => Nat.le_refl 0
  | n + 1 => by
    rw [wk_rows, List.length_append]
    have := wk_len code n
    have := rwS_len code (wk code n)
    omega
theorem wk_mono (code : List Ins) (n : Nat) : ∀ m, ∃ more, (wk code (n + m)).rows = (wk code n).rows ++ more
  | 0 => ⟨[], by simp⟩
  | m + 1 => by
    obtain ⟨more, h⟩ := wk_mono code n m
    exact ⟨more ++ rwS code (wk code (n + m)), by rw [← Nat.add_assoc, wk_rows, h, List.append_assoc]⟩
section
variable {code : List Ins} (hok : ∀ i ∈ code, i.ok "collector")
include hok
theorem wk_16 : ∀ n, in16 (wk code n).s.a (wk code n).s.b
  | 0 => ⟨⟨by show (0 : Int) ≤ 0; decide, by show (0 : Int) ≤ 15; decide⟩, by show (0 : Int) ≤ 0; decide, by show (0 : Int) ≤ 15; decide⟩
  | n + 1 => by
    rw [wk_succ]
    cases h : code[(wk code n).s.pc]? with
    | none => rw [wStep_none h]; exact wk_16 n
    | some i => rw [wStep_some h]; exact held16 (hok i (List.mem_of_getElem? h)) (wk_16 n)
theorem wk_t (n : Nat) : (wk code n).t ≤ (wk code (n + 1)).t := by
  rw [wk_succ]
  cases h : code[(wk code n).s.pc]? with
  | none => rw [wStep_none h]; exact Int.le_refl _
  | some i =>
    rw [wStep_some h]
    have := (cost_pos (hok i (List.mem_of_getElem? h))).1
    show (wk code n).t ≤ (wk code n).t + i.cost
    omega
theorem wk_tm (n : Nat) : ∀ m, (wk code n).t ≤ (wk code (n + m)).t
  | 0 => Int.le_refl _
  | m + 1 => Int.le_trans (wk_tm n m) (wk_t hok (n + m))
theorem rwS_t (n : Nat) : ∀ r ∈ rwS code (wk code n), (wk code n).t < r.1 ∧ r.1 ≤ (wk code (n + 1)).t := by
  intro r m
  unfold rwS at m
  rw [wk_succ]
  cases h : code[(wk code n).s.pc]? with
  | none => rw [h] at m; cases m
  | some i =>
    rw [h] at m
    rw [wStep_some h]
    cases i with
    | lst d =>
      have e : r = ((wk code n).t + 1, (wk code n).ct + tval (wk code n).s.a (wk code n).s.b d) := List.mem_singleton.mp m
      rw [e]
      exact ⟨by show (wk code n).t < (wk code n).t + 1; omega, Int.le_refl _⟩
    | _ => cases m
theorem wk_le : ∀ n, ∀ r ∈ (wk code n).rows, r.1 ≤ (wk code n).t
  | 0 => fun r m => nomatch m
  | n + 1 => fun r m => by
    rw [wk_rows] at m
    rcases List.mem_append.mp m with m | m
    · exact Int.le_trans (wk_le n r m) (wk_t hok n)
    · exact (rwS_t hok n r m).2
end
/-- the rows of n instructions from the a-th on -/
def segW (code : List Ins) (a n : Nat) : List (Int × Int) := (List.range n).flatMap fun k => rwS code (wk code (a + k))
theorem segW_succ (code : List Ins) (a n : Nat) : segW code a (n + 1) = segW code a n ++ rwS code (wk code (a + n)) := by
  unfold segW
  rw [List.range_succ, List.flatMap_append]
  simp
theorem wk_seg (code : List Ins) (a : Nat) : ∀ n, (wk code (a + n)).rows = (wk code a).rows ++ segW code a n
  | 0 => by unfold segW; simp
  | n + 1 => by rw [← Nat.add_assoc, wk_rows, wk_seg code a n, segW_succ, List.append_assoc]
theorem segW_t {code : List Ins} (hok : ∀ i ∈ code, i.ok "collector") (a : Nat) : ∀ n, ∀ r ∈ segW code a n, (wk code a).t < r.1
  | 0 => fun r m => by unfold segW at m; simp at m
  | n + 1 => fun r m => by
    rw [segW_succ] at m
    rcases List.mem_append.mp m with m | m
    · exact segW_t hok a n r m
    · exact Int.lt_of_le_of_lt (wk_tm hok a n) (rwS_t hok (a + n) r m).1
/-! ### what loopL finds -/
def seenW (code : List Ins) (m : Nat) : List (S3 × (Int × Int)) := (List.range m).map fun k => ((wk code k).s, ((wk code k).t, (wk code k).ct))
def FinW (code : List Ins) (L : LP) : Prop := ∃ k, L = .fin (wk code k).rows ∧ code[(wk code k).s.pc]? = none
def CycW (code : List Ins) (L : LP) : Prop := ∃ i j, i < j ∧ (wk code i).s = (wk code j).s ∧ L = .cyc (wk code i).t (wk code i).ct (wk code j).t (wk code j).ct (wk code j).rows ∧ ∀ k, k < j → (wk code k).s.pc < code.length
theorem loop_wk {code : List Ins} (hok : ∀ i ∈ code, i.ok "collector") : ∀ n m, m + n = fuel code → (∀ k, k < m → (wk code k).s.pc < code.length) → ((seenW code m).map (·.1)).Nodup →
    FinW code (loopL code n (wk code m).s (wk code m).t (wk code m).ct (seenW code m) (wk code m).rows) ∨ CycW code (loopL code n (wk code m).s (wk code m).t (wk code m).ct (seenW code m) (wk code m).rows)
  | 0, m => fun hf hv nd => by
    exfalso
    have := few_states (code := code) nd (fun x mx => by
      obtain ⟨e, me, rfl⟩ := List.mem_map.mp mx
      obtain ⟨k, mk, rfl⟩ := List.mem_map.mp me
      exact ⟨hv k (List.mem_range.mp mk), wk_16 hok k⟩)
    unfold seenW at this
    rw [List.length_map, List.length_map, List.length_range] at this
    unfold fuel at hf
    omega
  | n + 1, m => fun hf hv nd => by
    rw [loopL_eq]
    cases el : lookL (wk code m).s (seenW code m) with
    | some fc =>
      have hm : ∃ e ∈ seenW code m, e.1 = (wk code m).s ∧ e.2 = fc := by
        unfold lookL at el
        rw [Option.map_eq_some_iff] at el
        obtain ⟨e, he, hf⟩ := el
        exact ⟨e, List.mem_of_find?_eq_some he, by simpa using List.find?_some he, hf⟩
      obtain ⟨e, me, e1, rfl⟩ := hm
      obtain ⟨k, mk, rfl⟩ := List.mem_map.mp me
      exact .inr ⟨k, m, List.mem_range.mp mk, e1, rfl, hv⟩
    | none =>
      dsimp only
      cases ec : code[(wk code m).s.pc]? with
      | none => exact .inl ⟨m, rfl, ec⟩
      | some i =>
        have hw : wk code (m + 1) = ⟨nextL (wk code m).s i, (wk code m).t + i.cost, (wk code m).ct + i.grown (wk code m).s.a (wk code m).s.b, (wk code m).rows ++ rowsOf (wk code m).t (wk code m).ct (wk code m).s i⟩ := by rw [wk_succ, wStep_some ec]
        have hs : seenW code (m + 1) = seenW code m ++ [((wk code m).s, ((wk code m).t, (wk code m).ct))] := by
          unfold seenW
          rw [List.range_succ, List.map_append]
          rfl
        have ih := loop_wk hok n (m + 1) (by omega) (fun k hk => by
          by_cases c : k = m
          · rw [c]; exact (List.getElem?_eq_some_iff.mp ec).1
          · exact hv k (by omega)) (by
          rw [hs, List.map_append]
          refine List.nodup_append.mpr ⟨nd, by simp, fun a ma b mb => ?_⟩
          rw [List.map_singleton, List.mem_singleton] at mb
          rintro rfl
          rw [mb] at ma
          exact lookL_none el ma)
        rw [hs, hw] at ih
        exact ih
theorem run_wk {code : List Ins} (hok : ∀ i ∈ code, i.ok "collector") : FinW code (runL code) ∨ CycW code (runL code) :=
  loop_wk hok (fuel code) 0 (by simp) (fun k hk => by omega) (by unfold seenW; simp)
/-! ### round after round -/
def sh1 (per sh : Int) (r : Int × Int) : Int × Int := (r.1 + per, r.2 + sh)
theorem rowsOf_sh (t ct per sh : Int) (s : S3) (i : Ins) : rowsOf (t + per) (ct + sh) s i = (rowsOf t ct s i).map (sh1 per sh) := by
  cases i with
  | lst d =>
    show [((t + per) + 1, (ct + sh) + tval s.a s.b d)] = [(t + 1 + per, ct + tval s.a s.b d + sh)]
    rw [show t + per + 1 = t + 1 + per by omega, show ct + sh + tval s.a s.b d = ct + tval s.a s.b d + sh by omega]
  | _ => rfl
theorem wk_per {code : List Ins} {i j : Nat} (e : (wk code i).s = (wk code j).s) : ∀ k, (wk code (j + k)).s = (wk code (i + k)).s ∧ (wk code (j + k)).t = (wk code (i + k)).t + ((wk code j).t - (wk code i).t) ∧ (wk code (j + k)).ct = (wk code (i + k)).ct + ((wk code j).ct - (wk code i).ct)
  | 0 => ⟨e.symm, by show (wk code j).t = (wk code i).t + _; omega, by show (wk code j).ct = (wk code i).ct + _; omega⟩
  | k + 1 => by
    obtain ⟨h1, h2, h3⟩ := wk_per e k
    rw [← Nat.add_assoc, ← Nat.add_assoc, wk_succ, wk_succ]
    cases h : code[(wk code (i + k)).s.pc]? with
    | none =>
      rw [wStep_none h, wStep_none (by rw [h1]; exact h)]
      exact ⟨h1, h2, h3⟩
    | some x =>
      rw [wStep_some h, wStep_some (x := wk code (j + k)) (by rw [h1]; exact h)]
      refine ⟨by show nextL _ x = nextL _ x; rw [h1], ?_, ?_⟩
      · show (wk code (j + k)).t + x.cost = (wk code (i + k)).t + x.cost + _
        omega
      · show (wk code (j + k)).ct + x.grown (wk code (j + k)).s.a (wk code (j + k)).s.b = (wk code (i + k)).ct + x.grown (wk code (i + k)).s.a (wk code (i + k)).s.b + _
        rw [h1]
        omega
theorem rwS_per {code : List Ins} {i j : Nat} (e : (wk code i).s = (wk code j).s) (k : Nat) : rwS code (wk code (j + k)) = (rwS code (wk code (i + k))).map (sh1 ((wk code j).t - (wk code i).t) ((wk code j).ct - (wk code i).ct)) := by
  obtain ⟨h1, h2, h3⟩ := wk_per e k
  unfold rwS
  rw [h1, h2, h3]
  cases code[(wk code (i + k)).s.pc]? with
  | none => rfl
  | some x => exact rowsOf_sh _ _ _ _ _ _
theorem seg_per {code : List Ins} {i j : Nat} (e : (wk code i).s = (wk code j).s) (a n : Nat) : segW code (j + a) n = (segW code (i + a) n).map (sh1 ((wk code j).t - (wk code i).t) ((wk code j).ct - (wk code i).ct)) := by
  unfold segW
  rw [List.map_flatMap]
  congr 1
  funext k
  rw [Nat.add_assoc, Nat.add_assoc]
  exact rwS_per e (a + k)
theorem sft_sh1 (L : LP) (q : Nat) (r : Int × Int) : sh1 (lpPer L) (lpShift L) (sft L q r) = sft L (q + 1) r := by
  unfold sh1 sft
  have h : ∀ y : Int, ((q + 1 : Nat) : Int) * y = (q : Int) * y + y := fun y => by rw [Int.natCast_add, Int.add_mul]; simp
  rw [h, h]
  show (r.1 + (q : Nat) * lpPer L + lpPer L, r.2 + (q : Nat) * lpShift L + lpShift L) = _
  rw [Int.add_assoc, Int.add_assoc]
section
variable {code : List Ins} (hok : ∀ i ∈ code, i.ok "collector") {i j : Nat} (hij : i < j) (e : (wk code i).s = (wk code j).s) {L : LP} (hL : L = .cyc (wk code i).t (wk code i).ct (wk code j).t (wk code j).ct (wk code j).rows)
include hok hij e hL
theorem cyc_parts : lpHead L = (wk code i).rows ∧ lpCycle L = segW code i (j - i) := by
  have hr : (wk code j).rows = (wk code i).rows ++ segW code i (j - i) := by
    have := wk_seg code i (j - i)
    rwa [show i + (j - i) = j by omega] at this
  rw [hL]
  constructor
  · show (wk code j).rows.filter _ = _
    rw [hr, List.filter_append]
    have e1 : ((wk code i).rows.filter fun r => decide (r.1 ≤ (wk code i).t)) = (wk code i).rows := List.filter_eq_self.mpr fun r m => decide_eq_true (wk_le hok i r m)
    have e2 : ((segW code i (j - i)).filter fun r => decide (r.1 ≤ (wk code i).t)) = [] := List.filter_eq_nil_iff.mpr fun r m z => by
      have := segW_t hok i (j - i) r m
      have := of_decide_eq_true z
      omega
    rw [e1, e2, List.append_nil]
  · show (wk code j).rows.filter _ = _
    rw [hr, List.filter_append]
    have e1 : ((wk code i).rows.filter fun r => decide ((wk code i).t < r.1)) = [] := List.filter_eq_nil_iff.mpr fun r m z => by
      have := wk_le hok i r m
      have := of_decide_eq_true z
      omega
    have e2 : ((segW code i (j - i)).filter fun r => decide ((wk code i).t < r.1)) = segW code i (j - i) := List.filter_eq_self.mpr fun r m => decide_eq_true (segW_t hok i (j - i) r m)
    rw [e1, e2, List.nil_append]
theorem cyc_unr : ∀ q, segW code (i + q * (j - i)) (j - i) = (lpCycle L).map (sft L q) ∧ (wk code (i + q * (j - i))).rows = unrL L q
  | 0 => by
    obtain ⟨h1, h2⟩ := cyc_parts hok hij e hL
    rw [Nat.zero_mul, Nat.add_zero]
    refine ⟨?_, ?_⟩
    · have : sft L 0 = id := by funext r; simp [sft]
      rw [this, List.map_id, h2]
    · unfold unrL
      simp
      exact h1.symm
  | q + 1 => by
    obtain ⟨h1, h2⟩ := cyc_unr q
    have ea : i + (q + 1) * (j - i) = j + q * (j - i) := by rw [Nat.succ_mul]; omega
    have eb : i + (q + 1) * (j - i) = i + q * (j - i) + (j - i) := by rw [Nat.succ_mul]; omega
    refine ⟨?_, ?_⟩
    · rw [ea, seg_per e, h1, List.map_map]
      congr 1
      funext r
      have hp : lpPer L = (wk code j).t - (wk code i).t := by rw [hL]; rfl
      have hs : lpShift L = (wk code j).ct - (wk code i).ct := by rw [hL]; rfl
      show sh1 _ _ (sft L q r) = _
      rw [← hp, ← hs]
      exact sft_sh1 L q r
    · rw [eb, wk_seg, h2, h1, unrL_succ]
end
theorem valid_all {code : List Ins} {i j : Nat} (hij : i < j) (e : (wk code i).s = (wk code j).s) (hv : ∀ k, k < j → (wk code k).s.pc < code.length) : ∀ k, (wk code k).s.pc < code.length := by
  have h : ∀ n k, k ≤ n → (wk code k).s.pc < code.length := by
    intro n
    induction n with
    | zero => intro k hk; exact hv k (by omega)
    | succ n ih =>
      intro k hk
      by_cases c : k < j
      · exact hv k c
      · have := (wk_per e (k - j)).1
        rw [show j + (k - j) = k by omega] at this
        rw [this]
        exact ih _ (by omega)
  exact fun k => h k k (Nat.le_refl _)
/-- what is walked is a beginning of the rounds -/
theorem walk_pre {code : List Ins} (hok : ∀ i ∈ code, i.ok "collector") (n : Nat) : ∃ q, ∀ m, ∃ more, unrL (runL code) (q + m) = (wk code n).rows ++ more := by
  have grow : ∀ (L : LP) (q : Nat) (rows more : List (Int × Int)), unrL L q = rows ++ more → ∀ m, ∃ more', unrL L (q + m) = rows ++ more' := by
    intro L q rows more h m
    induction m with
    | zero => exact ⟨more, h⟩
    | succ m ih =>
      obtain ⟨x, hx⟩ := ih
      exact ⟨x ++ (lpCycle L).map (sft L (q + m)), by rw [← Nat.add_assoc, unrL_succ, hx, List.append_assoc]⟩
  rcases run_wk hok with ⟨k, hL, hk⟩ | ⟨i, j, hij, e, hL, hv⟩
  · refine ⟨0, ?_⟩
    have h0 : unrL (runL code) 0 = (wk code k).rows := by rw [hL]; unfold unrL; simp [lpHead]
    have hp : ∃ more, (wk code k).rows = (wk code n).rows ++ more := by
      by_cases c : n ≤ k
      · have := wk_mono code n (k - n)
        rwa [show n + (k - n) = k by omega] at this
      · have := wk_stuck hk (n - k)
        rw [show k + (n - k) = n by omega] at this
        exact ⟨[], by rw [this]; simp⟩
    obtain ⟨more, hm⟩ := hp
    exact grow _ 0 _ more (by rw [h0]; exact hm)
  · refine ⟨n, ?_⟩
    have h1 := (cyc_unr hok hij e hL n).2
    have hle : n ≤ i + n * (j - i) := by
      have : n * 1 ≤ n * (j - i) := Nat.mul_le_mul_left n (by omega)
      omega
    obtain ⟨more, hm⟩ := wk_mono code n (i + n * (j - i) - n)
    rw [show n + (i + n * (j - i) - n) = i + n * (j - i) by omega, h1] at hm
    exact grow _ n _ more hm
theorem walk_end {code : List Ins} (hok : ∀ i ∈ code, i.ok "collector") {n : Nat} (h : code[(wk code n).s.pc]? = none) : runL code = .fin (wk code n).rows := by
  rcases run_wk hok with ⟨k, hL, hk⟩ | ⟨i, j, hij, e, hL, hv⟩
  · rw [hL]
    by_cases c : n ≤ k
    · have := wk_stuck h (k - n)
      rw [show n + (k - n) = k by omega] at this
      rw [this]
    · have := wk_stuck hk (n - k)
      rw [show k + (n - k) = n by omega] at this
      rw [this]
  · have := valid_all hij e hv n
    rw [List.getElem?_eq_getElem this] at h
    cases h
/-! ### a beginning of a rising list, by its steps -/
theorem rise_le : ∀ {l : List (Int × Int)} {m : Nat} {r : Int × Int}, l.Pairwise (fun a b => a.1 < b.1) → l[m]? = some r → l.filter (fun x => decide (x.1 ≤ r.1)) = l.take (m + 1)
  | [], m, r, _, h => by cases h
  | x :: t, 0, r, hp, h => by
    have e : x = r := by injection h
    subst e
    obtain ⟨h1, h2⟩ := List.pairwise_cons.mp hp
    rw [List.filter_cons, if_pos (decide_eq_true (Int.le_refl _))]
    have e2 : t.filter (fun y => decide (y.1 ≤ x.1)) = [] := List.filter_eq_nil_iff.mpr fun y my z => by
      have := h1 y my
      have := of_decide_eq_true z
      omega
    rw [e2]
    rfl
  | x :: t, m + 1, r, hp, h => by
    obtain ⟨h1, h2⟩ := List.pairwise_cons.mp hp
    have h' : t[m]? = some r := h
    have := h1 r (List.mem_of_getElem? h')
    rw [List.filter_cons, if_pos (decide_eq_true (by omega)), rise_le h2 h']
    rfl
theorem rise_lt : ∀ {l : List (Int × Int)} {m : Nat} {r : Int × Int}, l.Pairwise (fun a b => a.1 < b.1) → l[m]? = some r → l.filter (fun x => decide (x.1 ≤ r.1 - 1)) = l.take m
  | [], m, r, _, h => by cases h
  | x :: t, 0, r, hp, h => by
    have e : x = r := by injection h
    subst e
    obtain ⟨h1, h2⟩ := List.pairwise_cons.mp hp
    refine List.filter_eq_nil_iff.mpr fun y my z => ?_
    have z' := of_decide_eq_true z
    rcases List.mem_cons.mp my with rfl | my
    · omega
    · have := h1 y my
      omega
  | x :: t, m + 1, r, hp, h => by
    obtain ⟨h1, h2⟩ := List.pairwise_cons.mp hp
    have h' : t[m]? = some r := h
    have := h1 r (List.mem_of_getElem? h')
    rw [List.filter_cons, if_pos (decide_eq_true (by omega)), rise_lt h2 h']
    rfl
theorem until_isN {L : LP} (hL : LpOk L) (hI : LpIn L) {age : Int} {rows : List (Int × Int)} (hp : rows.Perm (rawU L age)) (hs : srtP rows) {n : Nat} (hn : (rndsW L (cntU L age)).toNat ≤ n) : rows = (unrL L n).filter fun r => decide (r.1 ≤ age) := by
  refine List.Perm.eq_of_pairwise (le := fun x y => SrtO.lexB y x = false) (fun a b _ _ h1 h2 => lexB_anti h1 h2) hs ?_ (hp.trans (unr_perm (fun r m => hL.per (fun z => by rw [z] at m; cases m)) (fun r m => Nat.le_trans (rounds_le hL hI m) hn)).symm)
  exact ((unr_rise hL hI _).1.sublist List.filter_sublist).imp fun h => lexB_lt h
/-- until at a step of what was walked, and at one step less -/
theorem until_walk {code : List Ins} (hok : ∀ i ∈ code, i.ok "collector") (hL : LpOk (runL code)) {n m : Nat} {r : Int × Int} (h : (wk code n).rows[m]? = some r) :
    (cntU (runL code) r.1 = (m + 1 : Nat) ∧ ∀ rows, rows.Perm (rawU (runL code) r.1) → srtP rows → rows = (wk code n).rows.take (m + 1)) ∧
    (cntU (runL code) (r.1 - 1) = (m : Nat) ∧ ∀ rows, rows.Perm (rawU (runL code) (r.1 - 1)) → srtP rows → rows = (wk code n).rows.take m) := by
  have hI := runL_in hok
  have hm : m < (wk code n).rows.length := (List.getElem?_eq_some_iff.mp h).1
  obtain ⟨q, hq⟩ := walk_pre hok n
  have key : ∀ (age : Int) (k : Nat), k ≤ (wk code n).rows.length → (∀ l : List (Int × Int), l.Pairwise (fun a b => a.1 < b.1) → l[m]? = some r → l.filter (fun x => decide (x.1 ≤ age)) = l.take k) →
      cntU (runL code) age = (k : Nat) ∧ ∀ rows, rows.Perm (rawU (runL code) age) → srtP rows → rows = (wk code n).rows.take k := by
    intro age k hk hf
    obtain ⟨more, hmore⟩ := hq (rndsW (runL code) (cntU (runL code) age)).toNat
    have hri := (unr_rise hL hI (q + (rndsW (runL code) (cntU (runL code) age)).toNat)).1
    have hF : (unrL (runL code) (q + (rndsW (runL code) (cntU (runL code) age)).toNat)).filter (fun x => decide (x.1 ≤ age)) = (wk code n).rows.take k := by
      rw [hf _ hri (by rw [hmore, List.getElem?_append_left hm]; exact h), hmore, List.take_append_of_le_length hk]
    refine ⟨?_, fun rows hp hs => by rw [← hF]; exact until_isN hL hI hp hs (Nat.le_add_left _ _)⟩
    have hp := unr_perm (L := runL code) (age := age) (n := q + (rndsW (runL code) (cntU (runL code) age)).toNat) (fun r m => hL.per (fun z => by rw [z] at m; cases m)) (fun r m => Nat.le_trans (rounds_le hL hI m) (Nat.le_add_left _ _))
    have := hp.length_eq
    rw [hF, List.length_take, Nat.min_eq_left hk] at this
    rw [← rawU_len hL age, ← this]
  exact ⟨key r.1 (m + 1) hm (fun l hl hr => rise_le hl hr), key (r.1 - 1) m (by omega) (fun l hl hr => rise_lt hl hr)⟩
/-! ### the law's plain walk -/
abbrev sWkd : Stmt := top 60
abbrev nsWkd : List Str := ["_law_program_here", "_law_many", "_law_code_here", "_law_state", "_law_steps_here", "_law_counter", "_law_listed", "_law_turn", "_law_step"]
def EndW (code : List Ins) (many : Nat) (o : V) (rows : List (Int × Int)) : Prop := (o = .non ∧ ∃ k, k ≤ many ∧ rows = (wk code k).rows ∧ code[(wk code k).s.pc]? = none) ∨ ((∃ z, o = .int z) ∧ rows = (wk code many).rows)
def spWkd (K : PySem.W.Frag) : Sp := fun vs H Q _ => ∃ (v : V) (d : PyData) (code : List Ins) (n : Int), vs = [v, .int n] ∧ 0 ≤ n ∧ n ≤ 1000 ∧ Dp K H v (.tuple [.str "collector", d]) ∧ Lay (.tuple [.str "collector", d]) ∧ noL d = true ∧ isProg (.tuple [.str "collector", d]) = true ∧ bodyC 4 0 d = code.map Ins.toD ∧ (∀ i ∈ code, i.ok "collector") ∧ (∀ i ∈ code, i.tgt ≤ code.length) ∧
  ∀ H' t li xs o rows, Same H H' → H' t = some (.tup [.ref li, o]) → H' li = some (.lst xs) → RowsAt H' xs rows → EndW code n.toNat o rows → Q (.ref t) H'
theorem last_at {x : V} : ∀ xr : List V, ∃ y, atI (x :: xr) (-1) = some y := fun xr => by
  rcases List.eq_nil_or_concat xr with rfl | ⟨ys, y, rfl⟩
  · exact ⟨x, atI_last [] x⟩
  · exact ⟨y, by rw [List.concat_eq_append]; exact atI_last (x :: ys) y⟩
section
variable {P : Program} {w : World} {K : PySem.W.Frag} {mg : Str → Option Value} {base : Heap}
theorem scWkd : FnScope nsWkd ["_law_program_here", "_law_many"] (defScope sWkd) := ⟨rfl, rfl, rfl, by decide +kernel, rfl, by decide +kernel, by decide +kernel⟩
theorem ok_Wkd {f : Addr} {fd : FuncData} (F : Fun K "_law_walked" "_law_walked" sWkd f fd) (T : Gs K mg) (T2 : G2 mg) (CC : Cal P w K mg base 6 "_law_code" ["_law_body_here", "_law_code_here"] (spLC K 4)) (CTO : Cal P w K mg base 1 "_law_term_of" ["_law_term_here", "_law_state"] (spTO K))
    (CTr : Cal P w K mg base 2 "_law_true" ["_law_condition_here", "_law_state"] (spTr K)) (CNx : Cal P w K mg base 2 "_law_next" ["_law_step", "_law_state", "_law_answer"] (spNx K)) :
    FnOk P w K mg base CX0 7 f fd ["_law_program_here", "_law_many"] (spWkd K) := by
  refine F.ok scWkd (fun vs H Q E h => ?_) (fun cdv A outer s H vs Q E hr h => ?_)
  · obtain ⟨v, d, code, n, rfl, _⟩ := h
    rfl
  obtain ⟨v, d, code, many, rfl, hm0, hm1, hd, ld, nd, hp, hcode, hok, htg, q⟩ := h
  have hr1 : Room 1 _ := hr.mono (by decide)
  have hr2 : Room 2 _ := hr.mono (by decide)
  refine ⟨_, (pss_cons (ps_set (i := 2) scWkd.nd rfl (.inl rfl) (pe_call CC.G hr rfl CC.m CC.kp CC.b .nil pass0 (pa_cons (pe_ix ix_tup (pv 0) pe_int (fun _ _ => rfl)) (pa_cons (pe_lst pa_nil) pa_nil))))
    (pss_cons (ps_set (i := 3) scWkd.nd rfl (.inl rfl) (pe_tup (pa_cons pe_int (pa_cons pe_int (pa_cons pe_int pa_nil)))))
    (pss_cons (ps_set (i := 4) scWkd.nd rfl (.inl rfl) pe_int)
    (pss_cons (ps_set (i := 5) scWkd.nd rfl (.inl rfl) pe_int)
    (pss_cons (ps_set (i := 6) scWkd.nd rfl (.inl rfl) (pe_lst pa_nil))
    (pss_cons (ps_for PassesOwn.never rfl (pi_range1 (by rfl) T2.range (pa_cons (pv 1) pa_nil)) (pg_name (i := 7) scWkd.nd rfl (.inl rfl))
      (pss_cons (ps_if (pt_cmpR op_eq (pe_ix ix_tup (pv 3) pe_int (fun _ _ => rfl)) (pe_callB call_len_seq (by rfl) T.len PySem.boot_len (pa_cons (pv 2) pa_nil)) (nomark _))
        (pss_one (ps_ret (pe_tup (pa_cons (pv 6) (pa_cons pe_non pa_nil)))))
        pss_nil)
      (pss_cons (ps_set (i := 8) scWkd.nd rfl (.inl rfl) (pe_ix ix_list (pv 2) (pe_ix ix_tup (pv 3) pe_int (fun _ _ => rfl)) (fun _ _ => rfl)))
      (pss_cons (ps_set (i := 4) scWkd.nd rfl (.inl rfl) (pe_op op_add (pv 4) (pe_ix ix_list (pe_lst (pa_cons pe_int (pa_cons (pe_ix ix_tup (pv 8) (pe_un un_neg pe_int) (fun _ _ => rfl)) pa_nil))) (pe_callTy call_int1 (by rfl) T.int (by decide +kernel) (pa_cons (pe_cmpR op_eq (pe_ix ix_tup (pv 8) pe_int (fun _ _ => rfl)) pe_str (nomark _)) pa_nil)) (fun _ _ => rfl))))
      (pss_cons (ps_if (pt_cmpR op_eq (pe_ix ix_tup (pv 8) pe_int (fun _ _ => rfl)) pe_str (nomark _))
        (pss_one (ps_set (i := 5) scWkd.nd rfl (.inl rfl) (pe_op op_add (pv 5) (pe_call CTO.G hr1 rfl CTO.m CTO.kp CTO.b .nil pass0 (pa_cons (pe_ix ix_tup (pv 8) pe_int (fun _ _ => rfl)) (pa_cons (pv 3) pa_nil))))))
        pss_nil)
      (pss_cons (ps_if (pt_cmpR op_eq (pe_ix ix_tup (pv 8) pe_int (fun _ _ => rfl)) pe_str (nomark _))
        (pss_one (ps_expr (pe_bm PySem.F.plainAttrs_list PySem.F.slot_list_append PySem.F.type_list_append mt_append (pv 6) (pa_cons (pe_tup (pa_cons (pv 4) (pa_cons (pe_op op_add (pv 5) (pe_call CTO.G hr1 rfl CTO.m CTO.kp CTO.b .nil pass0 (pa_cons (pe_ix ix_tup (pv 8) pe_int (fun _ _ => rfl)) (pa_cons (pv 3) pa_nil)))) pa_nil))) pa_nil))))
        pss_nil)
      (pss_one (ps_if (pt_cmpR op_eq (pe_ix ix_tup (pv 8) pe_int (fun _ _ => rfl)) pe_str (nomark _))
        (pss_one (ps_set (i := 3) scWkd.nd rfl (.inl rfl) (pe_tup (pa_cons (pe_ix ix_tup (pv 8) pe_int (fun _ _ => rfl)) (pa_cons (pe_ix ix_tup (pv 3) pe_int (fun _ _ => rfl)) (pa_cons (pe_ix ix_tup (pv 3) pe_int (fun _ _ => rfl)) pa_nil))))))
        (pss_one (ps_if (pt_cmpR op_eq (pe_ix ix_tup (pv 8) pe_int (fun _ _ => rfl)) pe_str (nomark _))
          (pss_one (ps_set (i := 3) scWkd.nd rfl (.inl rfl) (pe_tup (pa_cons (pe_ix ix_list (pe_lst (pa_cons (pe_ix ix_tup (pv 8) pe_int (fun _ _ => rfl)) (pa_cons (pe_op op_add (pe_ix ix_tup (pv 3) pe_int (fun _ _ => rfl)) pe_int) pa_nil))) (pe_callTy call_int1 (by rfl) T.int (by decide +kernel) (pa_cons (pe_call CTr.G hr2 rfl CTr.m CTr.kp CTr.b .nil pass0 (pa_cons (pe_ix ix_tup (pv 8) pe_int (fun _ _ => rfl)) (pa_cons (pv 3) pa_nil))) pa_nil)) (fun _ _ => rfl)) (pa_cons (pe_ix ix_tup (pv 3) pe_int (fun _ _ => rfl)) (pa_cons (pe_ix ix_tup (pv 3) pe_int (fun _ _ => rfl)) pa_nil))))))
          (pss_one (ps_set (i := 3) scWkd.nd rfl (.inl rfl) (pe_call CNx.G hr2 rfl CNx.m CNx.kp CNx.b .nil pass0 (pa_cons (pv 8) (pa_cons (pv 3) (pa_cons pe_int pa_nil))))))))))))))))
    (pss_one (ps_ret (pe_tup (pa_cons (pv 6) (pa_cons (pv 4) pa_nil))))))))))), ?_⟩
  obtain ⟨c, hbc, hc⟩ := prog_bodyC hp
  have ldd := lay_mem (lay_tup ld) d (by simp)
  obtain ⟨_, hcl⟩ := body_code_ok 0 ldd hbc
  rw [hcode, List.length_map] at hcl
  obtain ⟨a, xs0, rfl, hs, ha⟩ := dp_tup_inv hd
  obtain ⟨x0, x1, rfl, hx0, hx1⟩ := dp_pair ha
  cases hx0
  refine ⟨_, rfl, a, _, _, _, rfl, rfl, hs, atI_nat (j := 1) rfl, (by show 0 ≤ sizeLine; decide), fun l0 nl0 => ?_⟩
  have s0 := same_new nl0 (.lst [])
  refine ⟨x1, l0, d, "collector", c, [], [], rfl, by decide, dp_mono s0 _ _ hx1, ldd, nd, hbc, hc, upd_same, .nil, rfl, (by show 0 + (bodyC 4 0 d).length ≤ 1000; rw [hcode, List.length_map]; omega), fun H1 cd xs s1' _ ecd hxs' => ?_⟩
  have s1 := s0.trans s1'
  have hxs : DpAll K H1 xs (code.map Ins.toD) := by
    rw [← hcode]
    exact hxs'
  refine ⟨(by show 3 ≤ sizeLine; decide), fun st nst => ?_⟩
  have s2 := same_new nst (.tup [.int 0, .int 0, .int 0])
  have e2 : (upd H1 st (.tup [.int 0, .int 0, .int 0])) st = some (.tup [.int 0, .int 0, .int 0]) := upd_same
  generalize upd H1 st (.tup [.int 0, .int 0, .int 0]) = H2 at s2 e2 ⊢
  refine ⟨(by show 0 ≤ sizeLine; decide), fun li nli => ?_⟩
  have s4 := same_new nli (.lst [])
  have e4 : (upd H2 li (.lst [])) li = some (.lst []) := upd_same
  generalize upd H2 li (.lst []) = H4 at s4 e4 ⊢
  have n1li : H1 li = none := s2.free nli
  have xl : xs.length = code.length := by
    have := dpAll_len hxs
    rwa [List.length_map] at this
  dsimp only [List.set_cons_succ, List.set_cons_zero]
  refine ⟨_, rfl, many, rfl, Int.le_trans (by decide) hm0, Int.lt_of_le_of_lt hm1 (by decide), ?_⟩
  refine for_range (lo := 0) (n := many.toNat) (fun k σ H' => ∃ (st : Addr) (s7 s8 : Option V) (rs : List V), σ = [some (.ref a), some (.int many), some (.ref cd), some (.ref st), some (.int (wk code k).t), some (.int (wk code k).ct), some (.ref li), s7, s8] ∧ Same H1 H' ∧ H' st = some (.tup ((keyOf (wk code k).s).map kV)) ∧ H' li = some (.lst rs) ∧ RowsAt H' rs (wk code k).rows ∧ (wk code k).s.pc ≤ code.length)
    ⟨st, none, none, [], rfl, s2.trans s4, s4 _ _ e2, e4, .nil, Nat.zero_le _⟩ ?turn ?fin
  case fin =>
    rintro σ H' ⟨st, s7, s8, rs, rfl, sm, est, eli, hrs, hle⟩
    refine ⟨_, rfl, _, rfl, (by show 2 ≤ sizeLine; decide), fun t nt => ?_⟩
    have u := same_new nt (.tup [.ref li, .int (wk code many.toNat).t])
    exact q _ t li rs _ _ (s1.trans (sm.trans u)) upd_same (u _ _ eli) (hrs.keep (KeepT.of u)) (.inr ⟨⟨_, rfl⟩, rfl⟩)
  case turn =>
  rintro k σ H' hk ⟨st, s7, s8, rs, rfl, sm, est, eli, hrs, hle⟩
  have hcd := sm _ _ ecd
  refine ⟨_, rfl, st, _, _, _, rfl, rfl, SqT.of est, atI_nat (j := 0) rfl, _, rfl, cd, xs, rfl, .inl (SqL.of hcd), rfl, _, rfl, ?_⟩
  obtain ⟨x, hx⟩ : ∃ x, x = wk code k := ⟨_, rfl⟩
  have hw1 : wk code (k + 1) = wStep code x := by rw [hx]; rfl
  have h16 : in16 x.s.a x.s.b := by rw [hx]; exact wk_16 hok k
  have hlen : x.rows.length ≤ k := by rw [hx]; exact wk_len code k
  have hrb : x.rows.length ≤ 100000 := by omega
  rw [hw1]
  have hend : code[x.s.pc]? = none → EndW code many.toNat .non x.rows := fun z => .inl ⟨rfl, k, by omega, by rw [hx], by rw [← hx]; exact z⟩
  rw [← hx] at est hrs hle ⊢
  clear hw1 hx
  obtain ⟨s, t, ct, rows⟩ := x
  dsimp only at est hrs hle h16 hlen hend hrb ⊢
  by_cases hlt : s.pc < code.length
  · refine ite2 (fun c => absurd (of_decide_eq_true c) (fun z => by have z' : ((s.pc : Nat) : Int) = (xs.length : Nat) := (by injection z); omega)) (fun _ => ?_)
    rcases dpAll_atC hxs s.pc with ⟨ec, _⟩ | ⟨i, v, ec, ex, hdv⟩
    · rw [List.getElem?_eq_getElem hlt] at ec; cases ec
    rw [wStep_some (x := ⟨s, t, ct, rows⟩) ec]
    dsimp only
    have hi := hok i (List.mem_of_getElem? ec)
    have hti := htg i (List.mem_of_getElem? ec)
    obtain ⟨p, xr, rfl, hsp1, hap⟩ := ins_inv hdv
    have hsp6 := Same.tup sm hsp1
    refine ⟨_, rfl, _, rfl, st, _, _, _, rfl, rfl, SqT.of est, atI_nat (j := 0) rfl, cd, _, _, _, rfl, rfl, SqL.of hcd, atI_nat ex, ?_⟩
    dsimp only [List.set_cons_succ, List.set_cons_zero]
    -- the steps
    have hcase1 : (i.word = "wait" ∧ ∃ n, xr = [.int n] ∧ i.cost = n) ∨ (¬ i.word = "wait" ∧ i.cost = 1) := by
      cases i with
      | wait n =>
        obtain ⟨y, rfl, hy⟩ := dp_solo hap
        cases hy
        exact .inl ⟨rfl, n, rfl, rfl⟩
      | _ => exact .inr ⟨by simp only [Ins.word]; decide +kernel, rfl⟩
    obtain ⟨yl, hyl⟩ := last_at (x := V.str i.word) xr
    have hpick : ∃ z : Int, z = i.cost ∧ atI [V.int 1, yl] (if decide (V.str i.word = V.str "wait") = true then 1 else 0) = some (V.int z) := by
      rcases hcase1 with ⟨hw, n, hx, hn⟩ | ⟨hw, hn⟩
      · refine ⟨n, hn.symm, ?_⟩
        rw [if_pos (decide_eq_true (by rw [hw]))]
        rw [hx, show [V.str i.word, V.int n] = [V.str i.word] ++ [V.int n] from rfl, atI_last] at hyl
        have : yl = .int n := by injection hyl with hyl; exact hyl.symm
        rw [this]
        exact atI_nat (j := 1) rfl
      · refine ⟨1, hn.symm, ?_⟩
        rw [if_neg (by rw [decide_eq_false (fun z => hw (by injection z))]; decide)]
        exact atI_nat (j := 0) rfl
    obtain ⟨z, hz, hat⟩ := hpick
    refine ⟨_, rfl, _, rfl, _, rfl, p, _, _, yl, rfl, rfl, hsp6, hyl, (by show 2 ≤ sizeLine; decide), fun l1 nl1 => ?_⟩
    have u5 := same_new nl1 (.lst [.int 1, yl])
    have e5 : (upd H' l1 (.lst [.int 1, yl])) l1 = some (.lst [.int 1, yl]) := upd_same
    generalize upd H' l1 (.lst [.int 1, yl]) = H6 at u5 e5 ⊢
    have sm6 := sm.trans u5
    have est6 := u5 _ _ est
    have eli6 := u5 _ _ eli
    have hrs6 := hrs.keep (KeepT.of u5)
    have hsp6' := Same.tup sm6 hsp1
    refine ⟨_, rfl, p, _, _, _, rfl, rfl, hsp6', atI_nat (j := 0) rfl, rfl, .inr ⟨_, rfl, l1, _, _, .int z, rfl, rfl, SqL.of e5, hat, _, _, rfl, rfl, ?_⟩⟩
    dsimp only [List.set_cons_succ, List.set_cons_zero]
    rw [hz]
    obtain ⟨t', ht'⟩ : ∃ t', t' = t + i.cost := ⟨_, rfl⟩
    rw [← ht']
    -- the counter
    refine ⟨_, rfl, p, _, _, _, rfl, rfl, hsp6', atI_nat (j := 0) rfl, rfl, _, rfl, ?_⟩
    have hcase2 : (i.word = "grow" ∧ ∃ x d, xr = [x] ∧ Dp K H1 x d ∧ isTerm d = true ∧ i.grown s.a s.b = tval s.a s.b d) ∨ (¬ i.word = "grow" ∧ i.grown s.a s.b = 0) := by
      cases i with
      | grow d =>
        obtain ⟨y, rfl, hy⟩ := dp_solo hap
        exact .inl ⟨rfl, y, d, rfl, hy, hi.2, rfl⟩
      | _ => exact .inr ⟨by simp only [Ins.word]; decide +kernel, rfl⟩
    refine imp_ofI (P := ?P2) (G := fun z => z = ct + i.grown s.a s.b) ?f2 ?r2
    case f2 =>
      intro rr
      rcases hcase2 with ⟨hw, x, dd, hx, hdx, htx, hn⟩ | ⟨hw, hn⟩
      · refine ite2 (fun _ => ?_) (fun c => absurd (decide_eq_true (by rw [hw])) c)
        refine ⟨_, rfl, _, rfl, p, _, _, x, rfl, rfl, hsp6', atI_nat (j := 1) (by rw [hx]; rfl), _, rfl, x, st, dd, s, rfl, dp_mono sm6 _ _ hdx, htx, SqT.of est6, _, _, rfl, rfl, ?_⟩
        have hz : ct + tval s.a s.b dd = ct + i.grown s.a s.b := by omega
        dsimp only
        generalize ct + tval s.a s.b dd = z at hz ⊢
        exact rr z hz
      · refine strF hw ?_
        have hz : ct = ct + i.grown s.a s.b := by omega
        exact rr ct hz
    case r2 =>
    intro ct' hct'
    -- the rows
    refine ⟨_, rfl, p, _, _, _, rfl, rfl, hsp6', atI_nat (j := 0) rfl, rfl, _, rfl, ?_⟩
    have hcase3 : (i.word = "list" ∧ ∃ x d, xr = [x] ∧ Dp K H1 x d ∧ isTerm d = true ∧ rowsOf t ct s i = [(t', ct' + tval s.a s.b d)]) ∨ (¬ i.word = "list" ∧ rowsOf t ct s i = []) := by
      cases i with
      | lst d =>
        obtain ⟨y, rfl, hy⟩ := dp_solo hap
        refine .inl ⟨rfl, y, d, rfl, hy, hi.2, ?_⟩
        have e1 : t' = t + 1 := ht'
        have e2 : ct' = ct := by rw [hct']; exact Int.add_zero ct
        rw [e1, e2]
        rfl
      | _ => exact .inr ⟨by simp only [Ins.word]; decide +kernel, rfl⟩
    refine imp_ofH (P := ?P3) (G := fun Hx => Fx [li] H6 Hx ∧ ∃ rs', Hx li = some (.lst rs') ∧ RowsAt Hx rs' (rows ++ rowsOf t ct s i)) ?f3 ?r3
    case f3 =>
      intro rr
      rcases hcase3 with ⟨hw, x, dd, hx, hdx, htx, hn⟩ | ⟨hw, hn⟩
      · refine ite2 (fun _ => ?_) (fun c => absurd (decide_eq_true (by rw [hw])) c)
        refine ⟨_, rfl, .inl ⟨rfl, _, SqL.of eli6⟩, _, rfl, _, rfl, _, rfl, p, _, _, x, rfl, rfl, hsp6', atI_nat (j := 1) (by rw [hx]; rfl), _, rfl, x, st, dd, s, rfl, dp_mono sm6 _ _ hdx, htx, SqT.of est6, _, _, rfl, rfl, (by show 2 ≤ sizeLine; decide), fun rp nrp => ?_⟩
        have dr : (upd H6 rp (.tup [.int t', .int (ct' + tval s.a s.b dd)])) rp = some (.tup [.int t', .int (ct' + tval s.a s.b dd)]) := upd_same
        have u7 := same_new nrp (.tup [.int t', .int (ct' + tval s.a s.b dd)])
        generalize upd H6 rp (.tup [.int t', .int (ct' + tval s.a s.b dd)]) = H7 at dr u7 ⊢
        have eli7 := u7 _ _ eli6
        have hrl := hrs.len
        refine ⟨li, _, _, rfl, rfl, eli7, ?_, ?_⟩
        · rw [hrl]; exact Nat.lt_of_le_of_lt hrb (by decide)
        have k8 : KeepT H7 (upd H7 li (.lst (rs ++ [.ref rp]))) := KeepT.upd ⟨_, eli7⟩
        have hG : Fx [li] H6 (upd H7 li (.lst (rs ++ [.ref rp]))) ∧ ∃ rs', (upd H7 li (.lst (rs ++ [.ref rp]))) li = some (.lst rs') ∧ RowsAt (upd H7 li (.lst (rs ++ [.ref rp]))) rs' (rows ++ rowsOf t ct s i) := by
          refine ⟨(Fx.of u7).trans (Fx.upd (by simp)), rs ++ [.ref rp], upd_same, ?_⟩
          rw [hn]
          exact (hrs6.keep ((KeepT.of u7).trans k8)).app (.one (r := (t', ct' + tval s.a s.b dd)) (k8.1 _ _ dr))
        generalize upd H7 li (.lst (rs ++ [.ref rp])) = H8 at hG ⊢
        exact rr H8 hG
      · refine strF hw ?_
        exact rr H6 ⟨fun q o _ e => e, rs, eli6, by rw [hn, List.append_nil]; exact hrs6⟩
    case r3 =>
    rintro H8 ⟨fx8, rs8, eli8, dp8⟩
    subst ht'
    subst hct'
    have no1 : ∀ {q : Addr}, q ≠ li → q ∉ [li] := fun h m => h (List.mem_singleton.mp m)
    have est8 := fx8 _ _ (no1 (fun z => by rw [z, eli6] at est6; cases est6)) est6
    have sm8 : Same H1 H8 := fx8.same sm6 (fun q m => by rw [List.mem_singleton.mp m]; exact n1li)
    have hsp8 := Same.tup sm8 hsp1
    have hdv8 := dp_mono sm8 _ _ hdv
    have three : 3 ≤ sizeLine := by decide
    have hle' : i.next s.pc s.a s.b ≤ code.length := next_le (x := 0) (mem := fun _ => false) (s := s) hlt hti
    have nxt : ∀ (J : Hp) (st' : Addr) (s7 s8 : Option V), Same H8 J → J st' = some (.tup ((keyOf (nextL s i)).map kV)) →
        ∃ (st0 : Addr) (r7 r8 : Option V) (rs0 : List V), [some (V.ref a), some (.int many), some (.ref cd), some (.ref st'), some (.int (t + i.cost)), some (.int (ct + i.grown s.a s.b)), some (.ref li), s7, s8] = [some (V.ref a), some (.int many), some (.ref cd), some (.ref st0), some (.int (t + i.cost)), some (.int (ct + i.grown s.a s.b)), some (.ref li), r7, r8] ∧ Same H1 J ∧ J st0 = some (.tup ((keyOf (nextL s i)).map kV)) ∧ J li = some (.lst rs0) ∧ RowsAt J rs0 (rows ++ rowsOf t ct s i) ∧ (nextL s i).pc ≤ code.length := by
      intro J st' s7 s8 sJ est
      exact ⟨st', _, _, rs8, rfl, sm8.trans sJ, est, sJ _ _ eli8, dp8.keep (KeepT.of sJ), hle'⟩
    refine ⟨_, rfl, p, _, _, _, rfl, rfl, hsp8, atI_nat (j := 0) rfl, rfl, _, rfl, ?_⟩
    cases i with
    | jump n =>
      obtain ⟨y, rfl, hy⟩ := dp_solo hap
      cases hy
      refine strT ⟨_, rfl, p, _, _, _, rfl, rfl, hsp8, atI_nat (j := 1) rfl, _, rfl, st, _, _, _, rfl, rfl, SqT.of est8, atI_nat (j := 1) rfl, _, rfl, st, _, _, _, rfl, rfl, SqT.of est8, atI_nat (j := 2) rfl, three, fun st' nst' => ?_⟩
      exact nxt _ st' _ _ (same_new nst' _) upd_same
    | test c0 n =>
      obtain ⟨y, y2, rfl, hy, hy2⟩ := dp_pair hap
      cases hy2
      refine strF (by simp only [Ins.word]; decide +kernel) ⟨_, rfl, p, _, _, _, rfl, rfl, hsp8, atI_nat (j := 0) rfl, rfl, _, rfl, strT ?_⟩
      refine ⟨_, rfl, p, _, _, _, rfl, rfl, hsp8, atI_nat (j := 2) rfl, _, rfl, st, _, _, _, rfl, rfl, SqT.of est8, atI_nat (j := 0) rfl, _, _, rfl, rfl, (by show 2 ≤ sizeLine; decide), fun l nl => ?_⟩
      have sl : Same H8 (upd H8 l (.lst [.int (n : Nat), .int ((s.pc : Nat) + 1)])) := same_new nl _
      have el : (upd H8 l (.lst [.int (n : Nat), .int ((s.pc : Nat) + 1)])) l = some (.lst [.int (n : Nat), .int ((s.pc : Nat) + 1)]) := upd_same
      refine ⟨_, rfl, p, _, _, _, rfl, rfl, Same.tup sl hsp8, atI_nat (j := 1) rfl, _, rfl, ?_⟩
      refine ⟨y, st, c0, s, rfl, dp_mono (sm8.trans sl) _ _ hy, hi, SqT.of (sl _ _ est8), .inr ⟨_, rfl, ?_⟩⟩
      refine ⟨l, _, _, .int ((if cval s.a s.b c0 = true then s.pc + 1 else n : Nat) : Int), rfl, rfl, SqL.of el, ?_, ?_⟩
      · cases cval s.a s.b c0 with
        | true => exact atI_nat (j := 1) rfl
        | false => exact atI_nat (j := 0) rfl
      refine ⟨_, rfl, st, _, _, _, rfl, rfl, SqT.of (sl _ _ est8), atI_nat (j := 1) rfl, _, rfl, st, _, _, _, rfl, rfl, SqT.of (sl _ _ est8), atI_nat (j := 2) rfl, three, fun st' nst' => ?_⟩
      exact nxt _ st' _ _ (sl.trans (same_new nst' _)) upd_same
    | ask g d z => exact absurd hi.1 (by decide +kernel)
    | ans n => exact absurd hi.1 (by decide +kernel)
    | set z n =>
      refine strF (by simp only [Ins.word]; decide +kernel) ⟨_, rfl, p, _, _, _, rfl, rfl, hsp8, atI_nat (j := 0) rfl, rfl, _, rfl, strF (by simp only [Ins.word]; decide +kernel) ?_⟩
      exact ⟨_, rfl, _, rfl, .ref p, st, _, _, s, "collector", rfl, hdv8, hi, SqT.of est8, fun J r' sJ nr' er' => nxt J r' _ _ sJ er'⟩
    | add z n =>
      refine strF (by simp only [Ins.word]; decide +kernel) ⟨_, rfl, p, _, _, _, rfl, rfl, hsp8, atI_nat (j := 0) rfl, rfl, _, rfl, strF (by simp only [Ins.word]; decide +kernel) ?_⟩
      exact ⟨_, rfl, _, rfl, .ref p, st, _, _, s, "collector", rfl, hdv8, hi, SqT.of est8, fun J r' sJ nr' er' => nxt J r' _ _ sJ er'⟩
    | wait n =>
      refine strF (by simp only [Ins.word]; decide +kernel) ⟨_, rfl, p, _, _, _, rfl, rfl, hsp8, atI_nat (j := 0) rfl, rfl, _, rfl, strF (by simp only [Ins.word]; decide +kernel) ?_⟩
      exact ⟨_, rfl, _, rfl, .ref p, st, _, _, s, "collector", rfl, hdv8, hi, SqT.of est8, fun J r' sJ nr' er' => nxt J r' _ _ sJ er'⟩
    | grow n =>
      refine strF (by simp only [Ins.word]; decide +kernel) ⟨_, rfl, p, _, _, _, rfl, rfl, hsp8, atI_nat (j := 0) rfl, rfl, _, rfl, strF (by simp only [Ins.word]; decide +kernel) ?_⟩
      exact ⟨_, rfl, _, rfl, .ref p, st, _, _, s, "collector", rfl, hdv8, hi, SqT.of est8, fun J r' sJ nr' er' => nxt J r' _ _ sJ er'⟩
    | lst n =>
      refine strF (by simp only [Ins.word]; decide +kernel) ⟨_, rfl, p, _, _, _, rfl, rfl, hsp8, atI_nat (j := 0) rfl, rfl, _, rfl, strF (by simp only [Ins.word]; decide +kernel) ?_⟩
      exact ⟨_, rfl, _, rfl, .ref p, st, _, _, s, "collector", rfl, hdv8, hi, SqT.of est8, fun J r' sJ nr' er' => nxt J r' _ _ sJ er'⟩
  · have hpc : s.pc = code.length := by omega
    refine ite2 (fun _ => ?_) (fun c => absurd (decide_eq_true (by show V.int (s.pc : Nat) = V.int (xs.length : Nat); rw [hpc, xl])) c)
    refine ⟨_, rfl, (by show 2 ≤ sizeLine; decide), fun t nt => ?_⟩
    have u := same_new nt (.tup [.ref li, .non])
    exact q _ t li rs _ _ (s1.trans (sm.trans u)) upd_same (u _ _ eli) (hrs.keep (KeepT.of u)) (hend (List.getElem?_eq_none (by omega)))
end
abbrev nsLaw : List Str := ["_law_script", "_law_k", "_law_bag_here", "_law_program_here", "_law_listed", "_law_steps_here", "_law_found", "_law_chosen", "_law_at", "_law_told", "_law_number", "_law_more", "_law_turn", "_law_step", "_law_one"]
theorem ints_get {ns : List Int} {i : Nat} {x : V} (h : (ns.map V.int)[i]? = some x) : ∃ n, ns[i]? = some n ∧ x = .int n := by
  rw [List.getElem?_map] at h
  cases e : ns[i]? with
  | none => rw [e] at h; cases h
  | some n => rw [e] at h; exact ⟨n, rfl, by injection h with h; exact h.symm⟩
theorem unr_more (L : LP) (a : Nat) : ∀ m, ∃ more, unrL L (a + m) = unrL L a ++ more
  | 0 => ⟨[], by simp⟩
  | m + 1 => by
    obtain ⟨x, hx⟩ := unr_more L a m
    exact ⟨x ++ (lpCycle L).map (sft L (a + m)), by rw [← Nat.add_assoc, unrL_succ, hx, List.append_assoc]⟩
theorem unr_flat {L : LP} (h : lpCycle L = []) (n : Nat) : unrL L n = lpHead L := by
  unfold unrL
  rw [h]
  simp
/-- as many of the rounds as were walked are what was walked -/
theorem unr_take {code : List Ins} (hok : ∀ i ∈ code, i.ok "collector") {n k : Nat} (h : (wk code n).rows.length ≤ (unrL (runL code) k).length ∨ lpCycle (runL code) = []) : (unrL (runL code) k).take (wk code n).rows.length = (wk code n).rows := by
  obtain ⟨q, hq⟩ := walk_pre hok n
  obtain ⟨more, hm⟩ := hq k
  rcases h with h | h
  · obtain ⟨x, hx⟩ := unr_more (runL code) k q
    rw [Nat.add_comm k q, hm] at hx
    have e1 : ((wk code n).rows ++ more).take (wk code n).rows.length = (wk code n).rows := by simp
    rw [hx, List.take_append_of_le_length h] at e1
    exact e1
  · rw [unr_flat h] at hm ⊢
    rw [hm]
    simp
theorem take_rows {H : Hp} {zs : List V} {rows : List (Int × Int)} (h : RowsAt H zs rows) (k : Nat) : RowsAt H (zs.take k) (rows.take k) := h.take k
theorem cut_int (xs : List V) {z : Int} (h : 0 ≤ z) : cutV xs none (some z) = xs.take z.toNat := by
  rw [← Int.toNat_of_nonneg h]
  exact cut_take xs _
def rLenS (K : PySem.W.Frag) : List V → Hp → VK → Prop := fun xs H Q => ∃ (p : Addr) (ys : List V), xs = [V.ref p] ∧ (SqL K H p ys ∨ SqT K H p ys) ∧ Q (V.int (ys.length : Nat)) H
section
variable {P : Program} {w : World} {K : PySem.W.Frag} {mg : Str → Option Value} {base : Heap}
theorem scLaw : FnScope nsLaw ["_law_script"] (defScope sLaw) := ⟨rfl, rfl, rfl, by decide +kernel, rfl, by decide +kernel, by decide +kernel⟩
theorem ok_law {f C : Addr} {fd : FuncData} (F : Fun K "law" "law" sLaw f fd) (T : Gs K mg) (T2 : G2 mg) (ml : mg "list" = none) (N : LNo K C) (LC : LCl P w K mg base C)
    (CB : Cal P w K mg base 1 "_law_bag" ["_law_script", "_law_k"] (spBag K)) (CD : Cal P w K mg base 1 "_law_draw" ["_law_bag_here", "_law_many"] spDraw) (CC : Cal P w K mg base 15 "_law_collector" ["_law_bag_here", "_law_most"] (spColl K)) (CW : Cal P w K mg base 7 "_law_walked" ["_law_program_here", "_law_many"] (spWkd K)) (MU : MCal P w K mg base 2 C "until" ["self", "age"] (spUnt K C)) :
    FnOk P w K mg base CX0 18 f fd ["_law_script"] (spLaw K) := by
  refine F.ok scLaw (fun vs H Q E h => ?_) (fun cdv A outer s H vs Q E hr h => ?_)
  · obtain ⟨a, ns, rfl, _⟩ := h
    rfl
  obtain ⟨a, ns, rfl, hS, h63, q⟩ := h
  have hr1 : Room 1 _ := hr.mono (by decide)
  have hr2 : Room 2 _ := hr.mono (by decide)
  have hr7 : Room 7 _ := hr.mono (by decide)
  have hr15 : Room 15 _ := hr.mono (by decide)
  have hun := hr.units
  refine ⟨_, (pss_cons (ps_for PassesOwn.never rfl (pi_range1 (by rfl) T2.range (pa_cons (pe_callB (call_max2 rfl) (by rfl) T2.max (by decide +kernel) (pa_cons pe_int (pa_cons (pe_callB (call_min2 rfl) (by rfl) T2.min (by decide +kernel) (pa_cons pe_int (pa_cons (pe_callB call_len_seq (by rfl) T.len PySem.boot_len (pa_cons (pv 0) pa_nil)) pa_nil))) pa_nil))) pa_nil)) (pg_name (i := 1) scLaw.nd rfl (.inl rfl))
      (pss_cons (ps_set (i := 2) scLaw.nd rfl (.inr rfl) (pe_call CB.G hr1 rfl CB.m CB.kp CB.b .nil pass0 (pa_cons (pv 0) (pa_cons (pv 1) pa_nil))))
      (pss_cons (ps_set (i := 3) scLaw.nd rfl (.inl rfl) (pe_call CC.G hr15 rfl CC.m CC.kp CC.b .nil pass0 (pa_cons (pv 2) (pa_cons pe_int pa_nil))))
      (pss_cons (ps_asg (pe_call CW.G hr7 rfl CW.m CW.kp CW.b .nil pass0 (pa_cons (pv 3) (pa_cons (pe_op op_add pe_int (pe_call CD.G hr1 rfl CD.m CD.kp CD.b .nil pass0 (pa_cons (pv 2) (pa_cons pe_int pa_nil)))) pa_nil))) (pg_tup (by rfl) (pgs_cons (pg_name (i := 4) scLaw.nd rfl (.inr rfl)) (pgs_cons (pg_name (i := 5) scLaw.nd rfl (.inl rfl)) pgs_nil))))
      (pss_cons (ps_set (i := 6) scLaw.nd rfl (.inr rfl) (pe_make LC.M LC.G hr rfl LC.g LC.b .nil pass0 (pa_cons (pv 3) pa_nil)))
      (pss_cons (ps_setLc (i := 7) (own := [("_law_turn", 12)]) (g := gName 12) (tt := tYes) rfl scLaw.nd rfl rfl (sw_true rfl rfl rfl (by decide +kernel)) (pi_range1 (by rfl) T2.range (pa_cons (pe_op op_mul pe_int (pe_callTy call_int1 (by rfl) T.int (by decide +kernel) (pa_cons (pe_cmpR (op_neD hun) (pv 4) (pe_lst pa_nil) (nomark _)) pa_nil))) pa_nil)) (blkOk_by (N := nsLaw) (sc := defScope sLaw) (by decide +kernel)) (fun _ _ _ _ _ => pg_name (i := 12) scLaw.nd rfl (.inl rfl)) (fun _ _ _ _ _ => pts_nil) (fun _ _ _ _ _ => pe_call CD.G hr1 rfl CD.m CD.kp CD.b .nil pass0 (pa_cons (pv 2) (pa_cons (pe_callB (show CallR _ _ (rLenS K) from call_len_seq) (by rfl) T.len PySem.boot_len (pa_cons (pv 4) pa_nil)) pa_nil))))
      (pss_cons (ps_for PassesOwn.never rfl (pi_list (pv 7)) (pg_name (i := 8) scLaw.nd rfl (.inl rfl))
        (pss_one (ps_if (PW.pt (pw_or (pt_cmpR (op_neD hun) (pe_meth (pv 6) N.cl MU.m MU.G hr2 MU.b .nil pass0 (pa_cons (pe_ix ix_tup (pe_ix ix_list (pv 4) (pv 8) (fun _ _ => rfl)) pe_int (fun _ _ => rfl)) pa_nil)) (pe_slice sl_list (pv 4) po_none (po_some (pe_op op_add (pv 8) pe_int))) (nomark _)) (pw_or1 (pt_cmpR (op_neD hun) (pe_meth (pv 6) N.cl MU.m MU.G hr2 MU.b .nil pass0 (pa_cons (pe_op op_sub (pe_ix ix_tup (pe_ix ix_list (pv 4) (pv 8) (fun _ _ => rfl)) pe_int (fun _ _ => rfl)) pe_int) pa_nil)) (pe_slice sl_list (pv 4) po_none (po_some (pv 8))) (nomark _)))))
          (pss_one (ps_ret pe_bl))
          pss_nil)))
      (pss_cons (ps_if (PW.pt (pw_and (pt_cmpR op_isN (pv 5) pe_non (nomark _)) (pw_and1 (PW.pt (pw_or (pt_cmpR (op_neD hun) (pe_fld (pv 6) rfl) (pv 4) (nomark _)) (pw_or (pt_cmpR (op_neD hun) (pe_fld (pv 6) rfl) (pe_lst pa_nil) (nomark _)) (pw_or1 (pt_cmpR op_ne (pe_fld (pv 6) rfl) pe_int (nomark _)))))))))
        (pss_one (ps_ret pe_bl))
        pss_nil)
      (pss_cons (ps_set (i := 9) scLaw.nd rfl (.inl rfl) (pe_callTy call_list_of (by rfl) ml (by decide +kernel) (pa_cons (pe_fld (pv 6) rfl) pa_nil)))
      (pss_cons (ps_set (i := 10) scLaw.nd rfl (.inr rfl) pe_int)
      (pss_cons (ps_while PassesOwn.never (PW.pt (pw_and (pt_cmpR op_notN (pv 5) pe_non (nomark _)) (pw_and (pt_cmpR op_lt (pe_callB call_len_seq (by rfl) T.len PySem.boot_len (pa_cons (pv 9) pa_nil)) (pe_callB call_len_seq (by rfl) T.len PySem.boot_len (pa_cons (pv 4) pa_nil)) (nomark _)) (pw_and1 (pt_cmpR (op_neD hun) (pe_fld (pv 6) rfl) (pe_lst pa_nil) (nomark _))))))
        (pss_cons (ps_setLc (i := 11) (own := [("_law_step", 13), ("_law_one", 14)]) (g := (gTup K 2 (gCons (gName 13) (gCons (gName 14) gNil)))) (tt := tYes) rfl scLaw.nd rfl rfl (sw_true rfl rfl rfl (by decide +kernel)) (pi_list (pe_fld (pv 6) rfl)) (blkOk_by (N := nsLaw) (sc := defScope sLaw) (by decide +kernel)) (fun _ _ _ _ _ => pg_tup (by rfl) (pgs_cons (pg_name (i := 13) scLaw.nd rfl (.inl rfl)) (pgs_cons (pg_name (i := 14) scLaw.nd rfl (.inl rfl)) pgs_nil))) (fun _ _ _ _ _ => pts_nil) (fun _ _ _ _ _ => pe_tup (pa_cons (pe_op op_add (pv 13) (pe_op op_mul (pv 10) (show PE _ _ (tFld K (tVar 6) "period") from pe_fld (pv 6) rfl))) (pa_cons (pe_op op_add (pv 14) (pe_op op_mul (pv 10) (show PE _ _ (tFld K (tVar 6) "shift") from pe_fld (pv 6) rfl))) pa_nil))))
        (pss_cons (ps_set (i := 9) scLaw.nd rfl (.inl rfl) (pe_op op_cat (pv 9) (pv 11)))
        (pss_one (ps_set (i := 10) scLaw.nd rfl (.inr rfl) (pe_op op_add (pv 10) pe_int))))))
      (pss_one (ps_if (pt_cmpR (op_neD hun) (pe_slice sl_list (pv 9) po_none (po_some (pe_callB call_len_seq (by rfl) T.len PySem.boot_len (pa_cons (pv 4) pa_nil)))) (pv 4) (nomark _))
        (pss_one (ps_ret pe_bl))
        pss_nil)))))))))))))
    (pss_one (ps_ret pe_bl))), ?_⟩
  refine ⟨_, rfl, a, _, rfl, .inl hS, _, _, rfl, _, _, rfl, _, rfl, ?_, ?_, ?_⟩
  · split <;> split <;> omega
  · split <;> split <;> omega
  rw [show (ns.map V.int).length = ns.length from List.length_map _]
  have h12 : (if (if ((ns.length : Nat) : Int) < 5 then ((ns.length : Nat) : Int) else 5) > 2 then (if ((ns.length : Nat) : Int) < 5 then ((ns.length : Nat) : Int) else 5) else 2).toNat ≤ 12 := by
    split <;> split <;> omega
  generalize (if (if ((ns.length : Nat) : Int) < 5 then ((ns.length : Nat) : Int) else 5) > 2 then (if ((ns.length : Nat) : Int) < 5 then ((ns.length : Nat) : Int) else 5) else 2).toNat = turns at h12 ⊢
  refine for_range (lo := 0) (n := turns) (fun i σ H' => ∃ (s1 s2 s3 s4 s5 s6 s7 s8 s9 s10 s11 : Option V), σ = [some (.ref a), s1, s2, s3, s4, s5, s6, s7, s8, s9, s10, s11, none, none, none] ∧ Same H H') ⟨none, none, none, none, none, none, none, none, none, none, none, rfl, Same.refl H⟩ ?turn ?fin
  case fin =>
    rintro σ H1 ⟨s1, s2, s3, s4, s5, s6, s7, s8, s9, s10, s11, rfl, sH1⟩
    exact q _
  case turn =>
  rintro i σ H2 hi ⟨s1, s2, s3, s4, s5, s6, s7, s8, s9, s10, s11, rfl, sH2⟩
  refine ⟨_, rfl, _, rfl, a, ns, i, (by rw [Int.zero_add]; rfl), sH2.seq hS, h63, by omega, fun H3 b sH3 nb bag3 => ?_⟩
  have nHb : H b = none := sH2.free nb
  have out : ∀ {X Y : Hp}, Same H X → Fr b X Y → Same H Y := fun sx f x o hx => f x o (fun e => by rw [e, nHb] at hx; cases hx) (sx x o hx)
  refine ⟨_, rfl, b, 20, rfl, by decide, by decide, bag3, fun H4 tp v d f4 bag4 et ntb hd hp hl nd => ?_⟩
  have hPa4 : Da K b H4 (.ref tp) (.tuple [.str "collector", d]) := da_tup ntb et (.cons (.str _) (.cons hd .nil))
  have hlay : Lay (.tuple [.str "collector", d]) := lay2 (lay_str (by decide +kernel)) hl
  obtain ⟨code, hcode, hok, htg, hcl⟩ := prog_code hp hl
  dsimp only [List.set_cons_succ, List.set_cons_zero]
  refine ⟨_, rfl, _, rfl, b, 800, rfl, bag4, by decide, by decide, fun H5 r5 f5 bag5 r50 r51 => ⟨_, _, rfl, rfl, .ref tp, d, code, 200 + r5, rfl, by omega, by omega, (hPa4.fr f5).dp, hlay, nd, hp, hcode, hok, htg, fun H6 t6 li xs o rows u6 e6 eli rz ew => ?_⟩⟩
  refine ⟨t6, _, rfl, SqT.of e6, rfl, _, _, rfl, _, _, rfl, rfl, ?_⟩
  have hPa5 := hPa4.fr f5
  refine ⟨_, rfl, fun x6 dx6 nx6 ndx6 _ => mk_lst (dp_mono u6 _ _ hPa5.dp) hl nd hp hcode hok nx6 ndx6 (fun H7 u7 lo7 => ⟨rfl, ?_⟩)⟩
  have hLo := runL_ok hok hcl
  have hlen := runL_len hcl
  have bag7 := bag5.keep (u6.trans u7)
  have sH7 : Same H H7 := (out (out (sH2.trans sH3) f4) f5).trans (u6.trans u7)
  have hhl : (lpHead (runL code)).length ≤ 100000 := Nat.le_trans (lpHead_len _) hlen
  have hcl2 : (lpCycle (runL code)).length ≤ 100000 := Nat.le_trans (lpCycle_len _) hlen
  have eli7 := u7 _ _ eli
  have rz7 := rz.keep (KeepT.of u7)
  obtain ⟨n, hn, hrows⟩ : ∃ n : Nat, n ≤ 1000 ∧ rows = (wk code n).rows := by
    rcases ew with ⟨_, k, hk, e, _⟩ | ⟨_, e⟩
    · exact ⟨k, by omega, e⟩
    · exact ⟨_, by omega, e⟩
  have hrl : rows.length ≤ 1000 := by rw [hrows]; exact Nat.le_trans (wk_len code n) hn
  have hzl := rz.len
  have nlib : li ≠ b := rz7.noBag bag7 eli7
  dsimp only [List.set_cons_succ, List.set_cons_zero]
  -- the chosen ones
  refine ⟨_, rfl, (by show 0 ≤ sizeLine; decide), fun l8 nl8 => ?_⟩
  have u8 := same_new nl8 (.lst [])
  have e8 : (upd H7 l8 (.lst [])) l8 = some (.lst []) := upd_same
  generalize upd H7 l8 (.lst []) = H8 at u8 e8 ⊢
  have eli8 := u8 _ _ eli7
  have rz8 := rz7.keep (KeepT.of u8)
  have bag8 := bag7.keep u8
  have lo8 := lo7.same u8
  have sH8 := sH7.trans u8
  refine ⟨.list (rows.map rowD), .list (([] : List (Int × Int)).map rowD), .lst (SqL.of eli8) (dpAll_mono (tupH_same H8) _ _ rz8.dp), .lst (SqL.of e8) .nil, shaped_rows _, shaped_rows _, .inr ⟨_, rfl, _, _, rfl, rfl, .inr (one_or _), ?_⟩⟩
  rw [eqv_rlist]
  have hrng : 0 ≤ 40 * (if (!decide (rows = [])) = true then (1 : Int) else 0) ∧ 40 * (if (!decide (rows = [])) = true then (1 : Int) else 0) ≤ 40 ∧ (0 < 40 * (if (!decide (rows = [])) = true then (1 : Int) else 0) → rows ≠ []) := by
    by_cases c : rows = []
    · rw [decide_eq_true c]; simp
    · rw [decide_eq_false c]
      exact ⟨by decide, by decide, fun _ => c⟩
  obtain ⟨rn, hrn⟩ : ∃ rn, rn = 40 * (if (!decide (rows = [])) = true then (1 : Int) else 0) := ⟨_, rfl⟩
  rw [← hrn] at hrng
  obtain ⟨hn0, hn40, hnc⟩ := hrng
  refine ⟨rn, (by show [V.int (40 * (if (!decide (rows = [])) = true then (1 : Int) else 0))] = [V.int rn]; rw [hrn]), Int.le_trans (by decide) hn0, Int.lt_of_le_of_lt hn40 (by decide), fun D nD => ?_⟩
  have nDb : D ≠ b := (bag8.ne nD).symm
  refine lc_range (lo := 0) (n := rn.toNat) (fun j H' => Fr b H8 H' ∧ Bag H' b ∧ ∃ cs : List Int, H' D = some (.lst (cs.map V.int)) ∧ cs.length = j ∧ ∀ z ∈ cs, 0 ≤ z ∧ z < (rows.length : Nat)) ⟨fr_upd (Fr.refl _ _) nD _, bag8.keep (same_new nD _), [], upd_same, rfl, fun z m => nomatch m⟩ ?memb ?rest
  case memb =>
    rintro j Hx hj ⟨gx, bagx, cs, eD, hcs, hcb⟩
    have hne : rows ≠ [] := hnc (by omega)
    have hpos : 0 < rows.length := List.length_pos_iff.mpr hne
    refine ⟨rfl, ?_⟩
    refine ⟨_, rfl, _, rfl, li, xs, rfl, .inl (SqL.of (gx _ _ nlib eli8)), b, _, rfl, bagx, (by rw [hzl]; omega), (by rw [hzl]; omega), fun Hy m fy bagy m0 m1 => ⟨_, fy D _ nDb eD, ?_, fr_upd (gx.trans fy) nD _, bagy.upd nDb, cs ++ [m], ?_, ?_, ?_⟩⟩
    · rw [List.length_map]; exact Nat.lt_of_le_of_lt (by omega : _ ≤ 1000) (by decide)
    · rw [upd_same, List.map_append]; rfl
    · rw [List.length_append, hcs]; rfl
    · intro z mz
      rcases List.mem_append.mp mz with mz | mz
      · exact hcb z mz
      · rw [List.mem_singleton.mp mz]; rw [hzl] at m1; exact ⟨m0, m1⟩
  case rest =>
  rintro H9 ⟨g9, bag9, cs, eD9, hcs, hcb⟩
  have lo9 := lo8.fr bag8 g9
  have sH9 := out sH8 g9
  have eli9 := g9 _ _ nlib eli8
  have rz9 := rz8.keep (g9.keepT bag8)
  dsimp only [List.set_cons_succ, List.set_cons_zero]
  -- until at what was walked
  refine ⟨_, rfl, D, rfl, ⟨_, SqL.of eD9⟩, for_list (K := K) (a := D) (xs := cs.map V.int) (fun j σ Hx => ∃ s8 : Option V, σ = [some (.ref a), some (.int (0 + (i : Nat))), some (.ref b), some (.ref tp), some (.ref li), some o, some (.ref x6), some (.ref D), s8, s9, s10, s11, none, none, none] ∧ Same H9 Hx) ⟨_, rfl, Same.refl _⟩ (fun j σ Hx _ ⟨_, _, sx⟩ => SqL.of (sx _ _ eD9)) ?ag ?rs⟩
  case ag =>
    rintro j v σ Hx hv ⟨s8', rfl, sx⟩
    obtain ⟨z, hz, rfl⟩ := ints_get hv
    obtain ⟨hz0, hz1⟩ := hcb z (List.mem_of_getElem? hz)
    have hzt : z.toNat < xs.length := by omega
    have hvr : xs[z.toNat]? = some (xs[z.toNat]'hzt) := List.getElem?_eq_getElem hzt
    generalize xs[z.toNat]'hzt = vr at hvr
    have rzx := rz9.keep (KeepT.of sx)
    obtain ⟨pr, r, evr, er, epr⟩ := rzx.get hvr
    have hr1' : (wk code n).rows[z.toNat]? = some r := by rw [← hrows]; exact er
    obtain ⟨⟨hc1, hu1⟩, hc2, hu2⟩ := until_walk hok hLo hr1'
    rw [← hrows] at hu1 hu2
    have hr0 : 1 ≤ r.1 := by
      obtain ⟨q', hq'⟩ := walk_pre hok n
      obtain ⟨more, hmore⟩ := hq' 0
      have hm : r ∈ unrL (runL code) (q' + 0) := by rw [hmore, ← hrows]; exact List.mem_append.mpr (.inl (List.mem_of_getElem? er))
      rcases (unr_rise hLo (runL_in hok) _).2 r hm with h | ⟨k, r', _, mr, rfl⟩
      · exact (hLo.rows r (head_mem h)).1
      · have := (hLo.rows r' (cycle_mem mr)).1
        have := Int.mul_nonneg (Int.natCast_nonneg k) hLo.per0
        show 1 ≤ r'.1 + (k : Nat) * lpPer (runL code)
        omega
    have lox := lo9.same sx
    obtain ⟨dxx, hdx', cyx, khx, kcx, hsx, csx, fmx, xsx, ysx, kvsx, lax, hox, _⟩ := lox.ex
    have elix := sx _ _ eli9
    have hatz : atI xs z = some vr := by rw [← Int.toNat_of_nonneg hz0]; exact atI_nat hvr
    refine ⟨_, rfl, x6, dxx, _, rfl, hox, rfl, _, rfl, _, rfl, li, xs, _, vr, rfl, rfl, SqL.of elix, hatz, pr, _, _, _, evr, rfl, SqT.of epr, atI_nat (j := 0) rfl, x6, _, runL code, r.1, rfl, lox, hLo, by omega, by omega, fun Hy D2 ys2 rows2 uy nD2 eD2 rz2 pm srt => ?_⟩
    have e2 := hu1 rows2 pm srt
    refine ⟨_, rfl, _, rfl, _, _, rfl, rfl, _, rfl, li, xs, rfl, SqL.of (uy _ _ elix), fun p np => ?_⟩
    rw [cut_int xs (show 0 ≤ z + 1 by omega)]
    have uz := same_new np (.lst (xs.take (z + 1).toNat))
    have ez : (upd Hy p (.lst (xs.take (z + 1).toNat))) p = some (.lst (xs.take (z + 1).toNat)) := upd_same
    generalize upd Hy p (.lst (xs.take (z + 1).toNat)) = Hz at uz ez ⊢
    have rt := (rzx.keep (KeepT.of (uy.trans uz))).take (z + 1).toNat
    rw [show rows.take (z + 1).toNat = rows2 by rw [e2, show (z + 1).toNat = z.toNat + 1 by omega]] at rt
    refine ⟨.list (rows2.map rowD), .list (rows2.map rowD), .lst (SqL.of (uz _ _ eD2)) (dpAll_mono (tupH_same Hz) _ _ (rz2.keep (KeepT.of uz)).dp), .lst (SqL.of ez) (dpAll_mono (tupH_same Hz) _ _ rt.dp), shaped_rows _, shaped_rows _, _, rfl, ?_⟩
    rw [SeqAt.eqv_refl _ (SeqAt.canLay_of_shaped (shaped_rows _))]
    refine iteF ?_
    have wz := uy.trans uz
    refine ⟨_, rfl, x6, dxx, _, rfl, wz _ _ hox, rfl, _, rfl, _, rfl, li, xs, _, vr, rfl, rfl, SqL.of (wz _ _ elix), hatz, pr, _, _, _, evr, rfl, SqT.of (wz _ _ epr), atI_nat (j := 0) rfl, _, _, rfl, rfl, x6, _, runL code, r.1 - 1, rfl, lox.same wz, hLo, by omega, by omega, fun Hv D3 ys3 rows3 uv nD3 eD3 rz3 pm3 srt3 => ?_⟩
    have e3 := hu2 rows3 pm3 srt3
    refine ⟨_, rfl, _, rfl, _, rfl, li, xs, rfl, SqL.of ((wz.trans uv) _ _ elix), fun p' np' => ?_⟩
    rw [cut_int xs hz0]
    have uw := same_new np' (.lst (xs.take z.toNat))
    have ew' : (upd Hv p' (.lst (xs.take z.toNat))) p' = some (.lst (xs.take z.toNat)) := upd_same
    generalize upd Hv p' (.lst (xs.take z.toNat)) = Hw at uw ew' ⊢
    have rt' := (rzx.keep (KeepT.of (wz.trans (uv.trans uw)))).take z.toNat
    rw [show rows.take z.toNat = rows3 from e3.symm] at rt'
    refine ⟨.list (rows3.map rowD), .list (rows3.map rowD), .lst (SqL.of (uw _ _ eD3)) (dpAll_mono (tupH_same Hw) _ _ (rz3.keep (KeepT.of uw)).dp), .lst (SqL.of ew') (dpAll_mono (tupH_same Hw) _ _ rt'.dp), shaped_rows _, shaped_rows _, _, rfl, ?_⟩
    rw [SeqAt.eqv_refl _ (SeqAt.canLay_of_shaped (shaped_rows _))]
    exact iteF ⟨_, rfl, sx.trans (wz.trans (uv.trans uw))⟩
  case rs =>
  rintro σ H10 ⟨s8', rfl, sx⟩
  have lo10 := lo9.same sx
  have sH10 := sH9.trans sx
  have eli10 := sx _ _ eli9
  have rz10 := rz9.keep (KeepT.of sx)
  obtain ⟨dxx, hdx', cyx, khx, kcx, hsx, csx, fmx, xsx, ysx, kvsx, lax, ho10, ehd, ecy, dhd, dcy, _⟩ := lo10.ex
  -- a walk that ended
  refine imp_ofH (P := ?P1) (G := fun Hx => Same H10 Hx) ?f1 ?r1
  case f1 =>
    intro rr
    refine ⟨_, rfl, rfl, _, rfl, ?_⟩
    rcases ew with ⟨eo, k, hk, erk, hend⟩ | ⟨⟨z, eo⟩, _⟩
    · refine ite2 (fun _ => ?_) (fun c => absurd (decide_eq_true eo) c)
      have hfin : runL code = .fin rows := by rw [walk_end hok hend, erk]
      have h1 : lpHead (runL code) = rows := by rw [hfin]; rfl
      have h2 : lpCycle (runL code) = [] := by rw [hfin]; rfl
      have h3 : lpPer (runL code) = 0 := by rw [hfin]; rfl
      refine ⟨_, rfl, x6, C, dxx, _, _, rfl, ho10, N.cl, N.nHd, rfl, _, rfl, .list (rows.map rowD), .list (rows.map rowD), .lst (SqL.of ehd) (by rw [← h1]; exact dpAll_mono (tupH_same H10) _ _ dhd.dp), .lst (SqL.of eli10) (dpAll_mono (tupH_same H10) _ _ rz10.dp), shaped_rows _, shaped_rows _, _, rfl, ?_⟩
      rw [SeqAt.eqv_refl _ (SeqAt.canLay_of_shaped (shaped_rows _))]
      refine iteF ⟨_, rfl, x6, C, dxx, _, _, rfl, ho10, N.cl, N.nCy, rfl, (by show 0 ≤ sizeLine; decide), fun l nl => ?_⟩
      have ul := same_new nl (.lst [])
      have el : (upd H10 l (.lst [])) l = some (.lst []) := upd_same
      generalize upd H10 l (.lst []) = H11 at ul el ⊢
      refine ⟨.list (([] : List (Int × Int)).map rowD), .list (([] : List (Int × Int)).map rowD), .lst (SqL.of (ul _ _ ecy)) (by rw [← h2]; exact dpAll_mono (tupH_same H11) _ _ (dcy.keep (KeepT.of ul)).dp), .lst (SqL.of el) .nil, shaped_rows _, shaped_rows _, _, rfl, ?_⟩
      rw [SeqAt.eqv_refl _ (SeqAt.canLay_of_shaped (shaped_rows _))]
      refine iteF ⟨_, rfl, x6, C, dxx, _, _, rfl, ul _ _ ho10, N.cl, N.nPe, rfl, rfl, _, rfl, ?_⟩
      rw [h3]
      refine ite2 (fun c => absurd c (by rw [decide_eq_true rfl]; decide)) (fun _ => ?_)
      exact rr H11 ul
    · refine ite2 (fun c => absurd (of_decide_eq_true c) (fun z' => by rw [eo] at z'; cases z')) (fun _ => iteF ?_)
      exact rr H10 (Same.refl _)
  case r1 =>
  intro H11 u11
  have eli11 := u11 _ _ eli10
  have rz11 := rz10.keep (KeepT.of u11)
  have ho11 := u11 _ _ ho10
  have ecy11 := u11 _ _ ecy
  have dcy11 := dcy.keep (KeepT.of u11)
  refine ⟨_, rfl, x6, C, dxx, _, _, rfl, ho11, N.cl, N.nHd, rfl, hdx', xsx, rfl, .inl (SqL.of (u11 _ _ ehd)), fun l12 nl12 => ?_⟩
  have u12 := same_new nl12 (.lst xsx)
  have e12 : (upd H11 l12 (.lst xsx)) l12 = some (.lst xsx) := upd_same
  generalize upd H11 l12 (.lst xsx) = H12 at u12 e12 ⊢
  have rz12 := (dhd.keep (KeepT.of u11)).keep (KeepT.of u12)
  dsimp only [List.set_cons_succ, List.set_cons_zero]
  have hcl3 := hcl2
  have sH12 : Same H H12 := sH10.trans (u11.trans u12)
  have s1012 := u11.trans u12
  have eli12 := u12 _ _ eli11
  have rzl12 := rz11.keep (KeepT.of u12)
  have ho12 := u12 _ _ ho11
  have ecy12 := u12 _ _ ecy11
  have dcy12 := dcy11.keep (KeepT.of u12)
  have hyl := dcy.len
  refine seq_while ?_
  refine while_m (fun m σ Hx => ∃ (num : Nat) (Dt : Addr) (zs : List V) (s11' : Option V), σ = [some (.ref a), some (.int (0 + (i : Nat))), some (.ref b), some (.ref tp), some (.ref li), some o, some (.ref x6), some (.ref D), s8', some (.ref Dt), some (.int (num : Nat)), s11', none, none, none] ∧ Same H12 Hx ∧ Hx Dt = some (.lst zs) ∧ RowsAt Hx zs (unrL (runL code) num) ∧ m + num = rows.length + 1) (m0 := rows.length + 1)
    ⟨0, l12, xsx, s11, rfl, Same.refl _, e12, by unfold unrL; simp; exact rz12, by omega⟩ ?step ?mono
  case mono =>
    rintro σ H' Q1 Q2 h ⟨v1, e1, e2, k1, e3, r⟩
    refine ⟨v1, e1, e2, k1, e3, ?_⟩
    by_cases c1 : k1 = true
    · dsimp only at r ⊢
      rw [if_pos c1] at r ⊢
      obtain ⟨v2, e4, p2, ys2, e5, hy2, v3, e6, p3, ys3, e7, hy3, i3, j3, e8, e9, k2, e10, r⟩ := r
      refine ⟨v2, e4, p2, ys2, e5, hy2, v3, e6, p3, ys3, e7, hy3, i3, j3, e8, e9, k2, e10, ?_⟩
      by_cases c2 : k2 = true
      · dsimp only at r ⊢
        rw [if_pos c2] at r ⊢
        obtain ⟨v4, e11, p4, C4, dx4, fs4, w4, e12, e13, e14, e15, e16, e17, r⟩ := r
        refine ⟨v4, e11, p4, C4, dx4, fs4, w4, e12, e13, e14, e15, e16, e17, fun l nl => ?_⟩
        obtain ⟨d1, d2, g1, g2, g3, g4, k3, e18, r⟩ := r l nl
        exact ⟨d1, d2, g1, g2, g3, g4, k3, e18, h _ _ r⟩
      · dsimp only at r ⊢
        rw [if_neg c2] at r ⊢
        exact h _ _ r
    · dsimp only at r ⊢
      rw [if_neg c1] at r ⊢
      exact h _ _ r
  case step =>
  rintro m σ Hx ⟨num, Dt, zs, s11', rfl, sx12, eDt, rzt, hm⟩
  have hzlen := rzt.len
  rw [unrL_len] at hzlen
  have elix := sx12 _ _ eli12
  have rzlx := rzl12.keep (KeepT.of sx12)
  have hox := sx12 _ _ ho12
  have ecyx := sx12 _ _ ecy12
  have dcyx := dcy12.keep (KeepT.of sx12)
  refine imp_ofH (P := ?P9) (G := fun Hy => Same Hx Hy ∧ (rows.length ≤ (unrL (runL code) num).length ∨ lpCycle (runL code) = [])) ?f9 ?r9
  case f9 =>
    intro rr
    have hrc : (o ≠ .non ∧ zs.length < xs.length ∧ lpCycle (runL code) = []) ∨ (o ≠ .non ∧ zs.length < xs.length ∧ lpCycle (runL code) ≠ []) ∨ (o ≠ .non ∧ ¬ zs.length < xs.length) ∨ o = .non := by
      by_cases c1 : o = .non
      · exact .inr (.inr (.inr c1))
      · by_cases c2 : zs.length < xs.length
        · by_cases c3 : lpCycle (runL code) = []
          · exact .inl ⟨c1, c2, c3⟩
          · exact .inr (.inl ⟨c1, c2, c3⟩)
        · exact .inr (.inr (.inl ⟨c1, c2⟩))
    rcases hrc with ⟨c1, c2, c3⟩ | ⟨c1, c2, c3⟩ | ⟨c1, c2⟩ | c1
    · refine ⟨_, rfl, rfl, _, rfl, ite2 (fun _ => ?_) (fun c => absurd (by rw [decide_eq_false c1]; rfl) c)⟩
      refine ⟨_, rfl, Dt, zs, rfl, .inl (SqL.of eDt), _, rfl, li, xs, rfl, .inl (SqL.of elix), _, _, rfl, rfl, _, rfl, ite2 (fun _ => ?_) (fun c => absurd (decide_eq_true (by omega)) c)⟩
      refine ⟨_, rfl, x6, C, dxx, _, _, rfl, hox, N.cl, N.nCy, rfl, (by show 0 ≤ sizeLine; decide), fun l nl => ?_⟩
      have ul := same_new nl (.lst [])
      have el : (upd Hx l (.lst [])) l = some (.lst []) := upd_same
      generalize upd Hx l (.lst []) = Hy at ul el ⊢
      refine ⟨.list ((lpCycle (runL code)).map rowD), .list (([] : List (Int × Int)).map rowD), .lst (SqL.of (ul _ _ ecyx)) (dpAll_mono (tupH_same Hy) _ _ (dcyx.keep (KeepT.of ul)).dp), .lst (SqL.of el) .nil, shaped_rows _, shaped_rows _, _, rfl, ?_⟩
      rw [eqv_rlist]
      refine ite2 (fun c => absurd c (by rw [decide_eq_true c3]; decide)) (fun _ => ?_)
      exact rr Hy ⟨ul, .inr c3⟩
    · refine ⟨_, rfl, rfl, _, rfl, ite2 (fun _ => ?_) (fun c => absurd (by rw [decide_eq_false c1]; rfl) c)⟩
      refine ⟨_, rfl, Dt, zs, rfl, .inl (SqL.of eDt), _, rfl, li, xs, rfl, .inl (SqL.of elix), _, _, rfl, rfl, _, rfl, ite2 (fun _ => ?_) (fun c => absurd (decide_eq_true (by omega)) c)⟩
      refine ⟨_, rfl, x6, C, dxx, _, _, rfl, hox, N.cl, N.nCy, rfl, (by show 0 ≤ sizeLine; decide), fun l nl => ?_⟩
      have ul := same_new nl (.lst [])
      have el : (upd Hx l (.lst [])) l = some (.lst []) := upd_same
      generalize upd Hx l (.lst []) = Hy at ul el ⊢
      refine ⟨.list ((lpCycle (runL code)).map rowD), .list (([] : List (Int × Int)).map rowD), .lst (SqL.of (ul _ _ ecyx)) (dpAll_mono (tupH_same Hy) _ _ (dcyx.keep (KeepT.of ul)).dp), .lst (SqL.of el) .nil, shaped_rows _, shaped_rows _, _, rfl, ?_⟩
      rw [eqv_rlist]
      refine ite2 (fun _ => ?_) (fun c => absurd (by rw [decide_eq_false c3]; rfl) c)
      have hcp : 0 < (lpCycle (runL code)).length := List.length_pos_iff.mpr c3
      have hnum : num ≤ num * (lpCycle (runL code)).length := Nat.le_mul_of_pos_right num hcp
      have ecyy := ul _ _ ecyx
      have hoy := ul _ _ hox
      have cm : ∀ y : Int, CMul ((num : Nat) : Int) y := fun y => .inl ⟨by show -(2 ^ 64) < ((num : Nat) : Int); exact Int.lt_of_lt_of_le (by decide) (Int.natCast_nonneg _), by show ((num : Nat) : Int) < 2 ^ 64; exact Int.lt_of_le_of_lt (by omega : _ ≤ (10000 : Int)) (by decide)⟩
      refine ⟨_, rfl, x6, C, dxx, _, _, rfl, hoy, N.cl, N.nCy, rfl, cyx, rfl, ⟨_, SqL.of ecyy⟩, fun G nG => lc_round (P := fun _ _ => True) (K := K) (L := runL code) (n := num) (i := 13) (j := 14) (by decide) (fun _ _ => rfl) (fun r H' Q' s' k => ?_) ecyy (dcyx.keep (KeepT.of ul)) hcl2 nG (fun H2 us u2 eG ru => ?_)⟩
      · exact ⟨_, rfl, _, rfl, _, rfl, x6, C, dxx, _, _, rfl, s' _ _ hoy, N.cl, N.nPe, rfl, _, _, rfl, rfl, cm _, _, _, rfl, rfl, _, rfl, _, rfl, _, rfl, x6, C, dxx, _, _, rfl, s' _ _ hoy, N.cl, N.nSh, rfl, _, _, rfl, rfl, cm _, _, _, rfl, rfl, (by show 2 ≤ sizeLine; decide), fun p np => k p np⟩
      · have hul := ru.len
        rw [List.length_map] at hul
        refine ⟨_, rfl, _, rfl, Dt, G, zs, us, rfl, rfl, (ul.trans u2) _ _ eDt, eG, Nat.le_trans (by omega : _ ≤ 200000) (by decide), fun p np => ?_⟩
        have u3 := same_new np (.lst (zs ++ us))
        refine ⟨_, rfl, _, _, rfl, rfl, ?_⟩
        refine ⟨m - 1, by omega, num + 1, p, zs ++ us, some (.ref G), ?_, sx12.trans (ul.trans (u2.trans u3)), upd_same, ?_, by omega⟩
        · rw [show ((num + 1 : Nat) : Int) = ((num : Nat) : Int) + 1 from rfl]; rfl
        · rw [unrL_succ]
          exact ((rzt.keep (KeepT.of (ul.trans u2))).app ru).keep (KeepT.of u3)
    · refine ⟨_, rfl, rfl, _, rfl, ite2 (fun _ => ?_) (fun c => absurd (by rw [decide_eq_false c1]; rfl) c)⟩
      refine ⟨_, rfl, Dt, zs, rfl, .inl (SqL.of eDt), _, rfl, li, xs, rfl, .inl (SqL.of elix), _, _, rfl, rfl, _, rfl, ite2 (fun c => absurd (of_decide_eq_true c) (by omega)) (fun _ => ?_)⟩
      exact rr Hx ⟨Same.refl _, .inl (by rw [unrL_len]; omega)⟩
    · refine ⟨_, rfl, rfl, _, rfl, ite2 (fun c => absurd c (by rw [decide_eq_true c1]; decide)) (fun _ => ?_)⟩
      refine rr Hx ⟨Same.refl _, .inr ?_⟩
      rcases ew with ⟨_, k, hk, erk, hend⟩ | ⟨⟨z, eo⟩, _⟩
      · rw [walk_end hok hend]; rfl
      · rw [c1] at eo; cases eo
  case r9 =>
  rintro Hy ⟨uy, hh⟩
  refine ⟨_, rfl, _, rfl, li, xs, rfl, .inl (SqL.of (uy _ _ elix)), _, rfl, Dt, zs, rfl, SqL.of (uy _ _ eDt), fun p np => ?_⟩
  rw [cut_int zs (Int.natCast_nonneg xs.length), Int.toNat_natCast, hzl]
  have uz := same_new np (.lst (zs.take rows.length))
  have ez : (upd Hy p (.lst (zs.take rows.length))) p = some (.lst (zs.take rows.length)) := upd_same
  generalize upd Hy p (.lst (zs.take rows.length)) = Hz at uz ez ⊢
  have hh' : (wk code n).rows.length ≤ (unrL (runL code) num).length ∨ lpCycle (runL code) = [] := by rw [← hrows]; exact hh
  have e := unr_take hok (k := num) hh'
  rw [← hrows] at e
  have r1 := (rzt.keep (KeepT.of (uy.trans uz))).take rows.length
  rw [e] at r1
  have wz := uy.trans uz
  refine ⟨_, rfl, .list (rows.map rowD), .list (rows.map rowD), .lst (SqL.of ez) (dpAll_mono (tupH_same Hz) _ _ r1.dp), .lst (SqL.of (wz _ _ elix)) (dpAll_mono (tupH_same Hz) _ _ (rzlx.keep (KeepT.of wz)).dp), shaped_rows _, shaped_rows _, _, rfl, ?_⟩
  rw [SeqAt.eqv_refl _ (SeqAt.canLay_of_shaped (shaped_rows _))]
  exact iteF ⟨_, _, _, _, _, _, _, _, _, _, _, rfl, sH12.trans (sx12.trans wz)⟩
end
theorem sqt_of {K : PySem.W.Frag} {a : Addr} {od : Option Addr} {sl : Array (Option Value)} {n : Nat} {its : Array Value} {xs : List V} (h : K.lookup a = some ⟨.type "tuple", od, .seq its n, sl⟩) (hz : its.size ≤ sizeLine) (r : Vals xs its.toList) : ∀ H, SqT K H a xs := fun H => .inr ⟨_, its, n, h, rfl, rfl, hz, r⟩
theorem all_mk {l : PySem.W.OpenLaw} {w : World} {K : PySem.W.Frag} {h : Heap} {mg : Str → Option Value} {fa : Addr} (X : K.In h) (G : h.Ns mainGlobals mg) (hfa : mg "law" = some (.ref fa))
    {fFrom : Addr} {odFrom anFrom : Option Addr} {slFrom : Array (Option Value)} {ocFrom kVFrom dcFrom pmFrom cdFrom ctFrom : Value}
    {fInt : Addr} {odInt anInt : Option Addr} {slInt : Array (Option Value)} {ocInt kVInt dcInt pmInt cdInt ctInt : Value}
    {fTerm : Addr} {odTerm anTerm : Option Addr} {slTerm : Array (Option Value)} {ocTerm kVTerm dcTerm pmTerm cdTerm ctTerm : Value}
    {fCond : Addr} {odCond anCond : Option Addr} {slCond : Array (Option Value)} {ocCond kVCond dcCond pmCond cdCond ctCond : Value}
    {fPart : Addr} {odPart anPart : Option Addr} {slPart : Array (Option Value)} {ocPart kVPart dcPart pmPart cdPart ctPart : Value}
    {fWord : Addr} {odWord anWord : Option Addr} {slWord : Array (Option Value)} {ocWord kVWord dcWord pmWord cdWord ctWord : Value}
    {fRoles : Addr} {odRoles anRoles : Option Addr} {slRoles : Array (Option Value)} {ocRoles kVRoles dcRoles pmRoles cdRoles ctRoles : Value}
    {fPlain : Addr} {odPlain anPlain : Option Addr} {slPlain : Array (Option Value)} {ocPlain kVPlain dcPlain pmPlain cdPlain ctPlain : Value}
    {fOut : Addr} {odOut anOut : Option Addr} {slOut : Array (Option Value)} {ocOut kVOut dcOut pmOut cdOut ctOut : Value}
    {fBodies : Addr} {odBodies anBodies : Option Addr} {slBodies : Array (Option Value)} {ocBodies kVBodies dcBodies pmBodies cdBodies ctBodies : Value}
    {fProg : Addr} {odProg anProg : Option Addr} {slProg : Array (Option Value)} {ocProg kVProg dcProg pmProg cdProg ctProg : Value}
    {fAsm : Addr} {odAsm anAsm : Option Addr} {slAsm : Array (Option Value)} {ocAsm kVAsm dcAsm pmAsm cdAsm ctAsm : Value}
    {fBC : Addr} {odBC anBC : Option Addr} {slBC : Array (Option Value)} {ocBC kVBC dcBC pmBC cdBC ctBC : Value}
    {fSC : Addr} {odSC anSC : Option Addr} {slSC : Array (Option Value)} {ocSC kVSC dcSC pmSC cdSC ctSC : Value}
    {fWC : Addr} {odWC anWC : Option Addr} {slWC : Array (Option Value)} {ocWC kVWC dcWC pmWC cdWC ctWC : Value}
    {fIC : Addr} {odIC anIC : Option Addr} {slIC : Array (Option Value)} {ocIC kVIC dcIC pmIC cdIC ctIC : Value}
    {fCost : Addr} {odCost anCost : Option Addr} {slCost : Array (Option Value)} {ocCost kVCost dcCost pmCost cdCost ctCost : Value}
    {fLPt : Addr} {odLPt anLPt : Option Addr} {slLPt : Array (Option Value)} {ocLPt kVLPt dcLPt pmLPt cdLPt ctLPt : Value}
    {fFS : Addr} {odFS anFS : Option Addr} {slFS : Array (Option Value)} {ocFS kVFS dcFS pmFS cdFS ctFS : Value}
    {fBag : Addr} {odBag anBag : Option Addr} {slBag : Array (Option Value)} {ocBag kVBag dcBag pmBag cdBag ctBag : Value}
    {fDraw : Addr} {odDraw anDraw : Option Addr} {slDraw : Array (Option Value)} {ocDraw kVDraw dcDraw pmDraw cdDraw ctDraw : Value}
    {fLarge : Addr} {odLarge anLarge : Option Addr} {slLarge : Array (Option Value)} {ocLarge kVLarge dcLarge pmLarge cdLarge ctLarge : Value}
    {fSteps : Addr} {odSteps anSteps : Option Addr} {slSteps : Array (Option Value)} {ocSteps kVSteps dcSteps pmSteps cdSteps ctSteps : Value}
    {fTermL : Addr} {odTermL anTermL : Option Addr} {slTermL : Array (Option Value)} {ocTermL kVTermL dcTermL pmTermL cdTermL ctTermL : Value}
    {fCondL : Addr} {odCondL anCondL : Option Addr} {slCondL : Array (Option Value)} {ocCondL kVCondL dcCondL pmCondL cdCondL ctCondL : Value}
    {fSimple : Addr} {odSimple anSimple : Option Addr} {slSimple : Array (Option Value)} {ocSimple kVSimple dcSimple pmSimple cdSimple ctSimple : Value}
    {fStmt : Addr} {odStmt anStmt : Option Addr} {slStmt : Array (Option Value)} {ocStmt kVStmt dcStmt pmStmt cdStmt ctStmt : Value}
    {fBody : Addr} {odBody anBody : Option Addr} {slBody : Array (Option Value)} {ocBody kVBody dcBody pmBody cdBody ctBody : Value}
    {fProgL : Addr} {odProgL anProgL : Option Addr} {slProgL : Array (Option Value)} {ocProgL kVProgL dcProgL pmProgL cdProgL ctProgL : Value}
    {fLC : Addr} {odLC anLC : Option Addr} {slLC : Array (Option Value)} {ocLC kVLC dcLC pmLC cdLC ctLC : Value}
    {fTO : Addr} {odTO anTO : Option Addr} {slTO : Array (Option Value)} {ocTO kVTO dcTO pmTO cdTO ctTO : Value}
    {fTr : Addr} {odTr anTr : Option Addr} {slTr : Array (Option Value)} {ocTr kVTr dcTr pmTr cdTr ctTr : Value}
    {fNx : Addr} {odNx anNx : Option Addr} {slNx : Array (Option Value)} {ocNx kVNx dcNx pmNx cdNx ctNx : Value}
    {fWkd : Addr} {odWkd anWkd : Option Addr} {slWkd : Array (Option Value)} {ocWkd kVWkd dcWkd pmWkd cdWkd ctWkd : Value}
    {fColl : Addr} {odColl anColl : Option Addr} {slColl : Array (Option Value)} {ocColl kVColl dcColl pmColl cdColl ctColl : Value}
    {fLaw : Addr} {odLaw anLaw : Option Addr} {slLaw : Array (Option Value)} {ocLaw kVLaw dcLaw pmLaw cdLaw ctLaw : Value}
    {tG : Tok}
    {tL : Tok}
    {tS : Tok}
    {tD : Tok}
    {aV : Addr} {odV : Option Addr} {slV : Array (Option Value)} {nV : Nat} {tV0 tV1 : Tok}
    {aC : Addr} {odC : Option Addr} {slC : Array (Option Value)} {nC : Nat} {tC0 tC1 tC2 : Tok}
    {aA : Addr} {odA : Option Addr} {slA : Array (Option Value)} {nA : Nat} {tA0 tA1 tA2 : Tok}
    {aK : Addr} {odK : Option Addr} {slK : Array (Option Value)} {nK : Nat} {tK0 tK1 : Tok}
    {aB : Addr} {nB : Nat} {hB0 hB1 : Int} {tB0 tB1 tB2 tB3 : Tok}
    {aSh : Addr} {nSh : Nat} {hSh0 hSh1 hSh2 : Int} {tSh0 tSh1 tSh2 : Tok}
    {aSh0 : Addr} {odSh0 : Option Addr} {slSh0 : Array (Option Value)} {nSh0 : Nat} {tSh00 tSh01 : Tok}
    {aSh1 : Addr} {odSh1 : Option Addr} {slSh1 : Array (Option Value)} {nSh1 : Nat} {tSh10 tSh11 : Tok}
    {aSh2 : Addr} {odSh2 : Option Addr} {slSh2 : Array (Option Value)} {nSh2 : Nat} {tSh20 : Tok}
    {aTe : Addr} {nTe : Nat} {hTe0 hTe1 : Int} {tTe0 tTe1 : Tok}
    {aTe0 : Addr} {odTe0 : Option Addr} {slTe0 : Array (Option Value)} {nTe0 : Nat} {tTe00 tTe01 tTe02 : Tok}
    {aTe1 : Addr} {odTe1 : Option Addr} {slTe1 : Array (Option Value)} {nTe1 : Nat} {tTe10 : Tok}
    {aCo : Addr} {nCo : Nat} {hCo0 hCo1 : Int} {tCo0 tCo1 : Tok}
    {aCo0 : Addr} {odCo0 : Option Addr} {slCo0 : Array (Option Value)} {nCo0 : Nat} {tCo00 : Tok}
    {aCo1 : Addr} {odCo1 : Option Addr} {slCo1 : Array (Option Value)} {nCo1 : Nat} {tCo10 : Tok}
    {cW cL : Addr}
    {fEar : Addr} {odEar anEar : Option Addr} {slEar : Array (Option Value)} {ocEar kVEar dcEar pmEar cdEar ctEar : Value}
    {fUp : Addr} {odUp anUp : Option Addr} {slUp : Array (Option Value)} {ocUp kVUp dcUp pmUp cdUp ctUp : Value}
    {fWor : Addr} {odWor anWor : Option Addr} {slWor : Array (Option Value)} {ocWor kVWor dcWor pmWor cdWor ctWor : Value}
    {fTru : Addr} {odTru anTru : Option Addr} {slTru : Array (Option Value)} {ocTru kVTru dcTru pmTru cdTru ctTru : Value}
    {fTak : Addr} {odTak anTak : Option Addr} {slTak : Array (Option Value)} {ocTak kVTak dcTak pmTak cdTak ctTak : Value}
    {fFol : Addr} {odFol anFol : Option Addr} {slFol : Array (Option Value)} {ocFol kVFol dcFol pmFol cdFol ctFol : Value}
    {fWI : Addr} {odWI anWI : Option Addr} {slWI : Array (Option Value)} {ocWI kVWI dcWI pmWI cdWI ctWI : Value}
    {fLI : Addr} {odLI anLI : Option Addr} {slLI : Array (Option Value)} {ocLI kVLI dcLI pmLI cdLI ctLI : Value}
    {fFam : Addr} {odFam anFam : Option Addr} {slFam : Array (Option Value)} {ocFam kVFam dcFam pmFam cdFam ctFam : Value}
    {fUnt : Addr} {odUnt anUnt : Option Addr} {slUnt : Array (Option Value)} {ocUnt kVUnt dcUnt pmUnt cdUnt ctUnt : Value}
    {fRU : Addr} {odRU anRU : Option Addr} {slRU : Array (Option Value)} {ocRU kVRU dcRU pmRU cdRU ctRU : Value}
    {tML : Tok}
    (aFrom : PySem.W.nsIn K mainGlobals "is_integer_from" = some (some (.ref fFrom)))
    (lFrom : K.lookup fFrom = some ⟨ocFrom, odFrom, .func (PySem.W.fnOf "is_integer_from" "is_integer_from" (defArgs sFrom) (defBody sFrom) (defScope sFrom) .none kVFrom dcFrom pmFrom anFrom cdFrom ctFrom), slFrom⟩)
    (cFrom : PySem.W.codeIn K cdFrom "is_integer_from" = true)
    (kFrom : PySem.W.keepIn K (.ref fFrom) = true)
    (aInt : PySem.W.nsIn K mainGlobals "is_integer_from_to" = some (some (.ref fInt)))
    (lInt : K.lookup fInt = some ⟨ocInt, odInt, .func (PySem.W.fnOf "is_integer_from_to" "is_integer_from_to" (defArgs sInt) (defBody sInt) (defScope sInt) .none kVInt dcInt pmInt anInt cdInt ctInt), slInt⟩)
    (cInt : PySem.W.codeIn K cdInt "is_integer_from_to" = true)
    (kInt : PySem.W.keepIn K (.ref fInt) = true)
    (aTerm : PySem.W.nsIn K mainGlobals "is_term" = some (some (.ref fTerm)))
    (lTerm : K.lookup fTerm = some ⟨ocTerm, odTerm, .func (PySem.W.fnOf "is_term" "is_term" (defArgs sTerm) (defBody sTerm) (defScope sTerm) .none kVTerm dcTerm pmTerm anTerm cdTerm ctTerm), slTerm⟩)
    (cTerm : PySem.W.codeIn K cdTerm "is_term" = true)
    (kTerm : PySem.W.keepIn K (.ref fTerm) = true)
    (aCond : PySem.W.nsIn K mainGlobals "is_condition" = some (some (.ref fCond)))
    (lCond : K.lookup fCond = some ⟨ocCond, odCond, .func (PySem.W.fnOf "is_condition" "is_condition" (defArgs sCond) (defBody sCond) (defScope sCond) .none kVCond dcCond pmCond anCond cdCond ctCond), slCond⟩)
    (cCond : PySem.W.codeIn K cdCond "is_condition" = true)
    (kCond : PySem.W.keepIn K (.ref fCond) = true)
    (aPart : PySem.W.nsIn K mainGlobals "is_part" = some (some (.ref fPart)))
    (lPart : K.lookup fPart = some ⟨ocPart, odPart, .func (PySem.W.fnOf "is_part" "is_part" (defArgs sPart) (defBody sPart) (defScope sPart) .none kVPart dcPart pmPart anPart cdPart ctPart), slPart⟩)
    (cPart : PySem.W.codeIn K cdPart "is_part" = true)
    (kPart : PySem.W.keepIn K (.ref fPart) = true)
    (aWord : PySem.W.nsIn K mainGlobals "word_of" = some (some (.ref fWord)))
    (lWord : K.lookup fWord = some ⟨ocWord, odWord, .func (PySem.W.fnOf "word_of" "word_of" (defArgs sWord) (defBody sWord) (defScope sWord) .none kVWord dcWord pmWord anWord cdWord ctWord), slWord⟩)
    (cWord : PySem.W.codeIn K cdWord "word_of" = true)
    (kWord : PySem.W.keepIn K (.ref fWord) = true)
    (aRoles : PySem.W.nsIn K mainGlobals "roles_of" = some (some (.ref fRoles)))
    (lRoles : K.lookup fRoles = some ⟨ocRoles, odRoles, .func (PySem.W.fnOf "roles_of" "roles_of" (defArgs sRoles) (defBody sRoles) (defScope sRoles) .none kVRoles dcRoles pmRoles anRoles cdRoles ctRoles), slRoles⟩)
    (cRoles : PySem.W.codeIn K cdRoles "roles_of" = true)
    (kRoles : PySem.W.keepIn K (.ref fRoles) = true)
    (aPlain : PySem.W.nsIn K mainGlobals "is_plain_statement" = some (some (.ref fPlain)))
    (lPlain : K.lookup fPlain = some ⟨ocPlain, odPlain, .func (PySem.W.fnOf "is_plain_statement" "is_plain_statement" (defArgs sPlain) (defBody sPlain) (defScope sPlain) .none kVPlain dcPlain pmPlain anPlain cdPlain ctPlain), slPlain⟩)
    (cPlain : PySem.W.codeIn K cdPlain "is_plain_statement" = true)
    (kPlain : PySem.W.keepIn K (.ref fPlain) = true)
    (aOut : PySem.W.nsIn K mainGlobals "is_outside_of_statement" = some (some (.ref fOut)))
    (lOut : K.lookup fOut = some ⟨ocOut, odOut, .func (PySem.W.fnOf "is_outside_of_statement" "is_outside_of_statement" (defArgs sOut) (defBody sOut) (defScope sOut) .none kVOut dcOut pmOut anOut cdOut ctOut), slOut⟩)
    (cOut : PySem.W.codeIn K cdOut "is_outside_of_statement" = true)
    (kOut : PySem.W.keepIn K (.ref fOut) = true)
    (aBodies : PySem.W.nsIn K mainGlobals "bodies_of" = some (some (.ref fBodies)))
    (lBodies : K.lookup fBodies = some ⟨ocBodies, odBodies, .func (PySem.W.fnOf "bodies_of" "bodies_of" (defArgs sBodies) (defBody sBodies) (defScope sBodies) .none kVBodies dcBodies pmBodies anBodies cdBodies ctBodies), slBodies⟩)
    (cBodies : PySem.W.codeIn K cdBodies "bodies_of" = true)
    (kBodies : PySem.W.keepIn K (.ref fBodies) = true)
    (aProg : PySem.W.nsIn K mainGlobals "is_program" = some (some (.ref fProg)))
    (lProg : K.lookup fProg = some ⟨ocProg, odProg, .func (PySem.W.fnOf "is_program" "is_program" (defArgs sProg) (defBody sProg) (defScope sProg) .none kVProg dcProg pmProg anProg cdProg ctProg), slProg⟩)
    (cProg : PySem.W.codeIn K cdProg "is_program" = true)
    (kProg : PySem.W.keepIn K (.ref fProg) = true)
    (aAsm : PySem.W.nsIn K mainGlobals "assemble" = some (some (.ref fAsm)))
    (lAsm : K.lookup fAsm = some ⟨ocAsm, odAsm, .func (PySem.W.fnOf "assemble" "assemble" (defArgs sAsm) (defBody sAsm) (defScope sAsm) .none kVAsm dcAsm pmAsm anAsm cdAsm ctAsm), slAsm⟩)
    (cAsm : PySem.W.codeIn K cdAsm "assemble" = true)
    (kAsm : PySem.W.keepIn K (.ref fAsm) = true)
    (aBC : PySem.W.nsIn K mainGlobals "body_code" = some (some (.ref fBC)))
    (lBC : K.lookup fBC = some ⟨ocBC, odBC, .func (PySem.W.fnOf "body_code" "body_code" (defArgs sBC) (defBody sBC) (defScope sBC) .none kVBC dcBC pmBC anBC cdBC ctBC), slBC⟩)
    (cBC : PySem.W.codeIn K cdBC "body_code" = true)
    (kBC : PySem.W.keepIn K (.ref fBC) = true)
    (aSC : PySem.W.nsIn K mainGlobals "statement_code" = some (some (.ref fSC)))
    (lSC : K.lookup fSC = some ⟨ocSC, odSC, .func (PySem.W.fnOf "statement_code" "statement_code" (defArgs sSC) (defBody sSC) (defScope sSC) .none kVSC dcSC pmSC anSC cdSC ctSC), slSC⟩)
    (cSC : PySem.W.codeIn K cdSC "statement_code" = true)
    (kSC : PySem.W.keepIn K (.ref fSC) = true)
    (aWC : PySem.W.nsIn K mainGlobals "while_code" = some (some (.ref fWC)))
    (lWC : K.lookup fWC = some ⟨ocWC, odWC, .func (PySem.W.fnOf "while_code" "while_code" (defArgs sWC) (defBody sWC) (defScope sWC) .none kVWC dcWC pmWC anWC cdWC ctWC), slWC⟩)
    (cWC : PySem.W.codeIn K cdWC "while_code" = true)
    (kWC : PySem.W.keepIn K (.ref fWC) = true)
    (aIC : PySem.W.nsIn K mainGlobals "if_code" = some (some (.ref fIC)))
    (lIC : K.lookup fIC = some ⟨ocIC, odIC, .func (PySem.W.fnOf "if_code" "if_code" (defArgs sIC) (defBody sIC) (defScope sIC) .none kVIC dcIC pmIC anIC cdIC ctIC), slIC⟩)
    (cIC : PySem.W.codeIn K cdIC "if_code" = true)
    (kIC : PySem.W.keepIn K (.ref fIC) = true)
    (aCost : PySem.W.nsIn K mainGlobals "cost" = some (some (.ref fCost)))
    (lCost : K.lookup fCost = some ⟨ocCost, odCost, .func (PySem.W.fnOf "cost" "cost" (defArgs sCost) (defBody sCost) (defScope sCost) .none kVCost dcCost pmCost anCost cdCost ctCost), slCost⟩)
    (cCost : PySem.W.codeIn K cdCost "cost" = true)
    (kCost : PySem.W.keepIn K (.ref fCost) = true)
    (aLPt : PySem.W.nsIn K mainGlobals "list_parts" = some (some (.ref fLPt)))
    (lLPt : K.lookup fLPt = some ⟨ocLPt, odLPt, .func (PySem.W.fnOf "list_parts" "list_parts" (defArgs sLPt) (defBody sLPt) (defScope sLPt) .none kVLPt dcLPt pmLPt anLPt cdLPt ctLPt), slLPt⟩)
    (cLPt : PySem.W.codeIn K cdLPt "list_parts" = true)
    (kLPt : PySem.W.keepIn K (.ref fLPt) = true)
    (aFS : PySem.W.nsIn K mainGlobals "first_steps" = some (some (.ref fFS)))
    (lFS : K.lookup fFS = some ⟨ocFS, odFS, .func (PySem.W.fnOf "first_steps" "first_steps" (defArgs sFS) (defBody sFS) (defScope sFS) .none kVFS dcFS pmFS anFS cdFS ctFS), slFS⟩)
    (cFS : PySem.W.codeIn K cdFS "first_steps" = true)
    (kFS : PySem.W.keepIn K (.ref fFS) = true)
    (aBag : PySem.W.nsIn K mainGlobals "_law_bag" = some (some (.ref fBag)))
    (lBag : K.lookup fBag = some ⟨ocBag, odBag, .func (PySem.W.fnOf "_law_bag" "_law_bag" (defArgs sBag) (defBody sBag) (defScope sBag) .none kVBag dcBag pmBag anBag cdBag ctBag), slBag⟩)
    (cBag : PySem.W.codeIn K cdBag "_law_bag" = true)
    (kBag : PySem.W.keepIn K (.ref fBag) = true)
    (aDraw : PySem.W.nsIn K mainGlobals "_law_draw" = some (some (.ref fDraw)))
    (lDraw : K.lookup fDraw = some ⟨ocDraw, odDraw, .func (PySem.W.fnOf "_law_draw" "_law_draw" (defArgs sDraw) (defBody sDraw) (defScope sDraw) .none kVDraw dcDraw pmDraw anDraw cdDraw ctDraw), slDraw⟩)
    (cDraw : PySem.W.codeIn K cdDraw "_law_draw" = true)
    (kDraw : PySem.W.keepIn K (.ref fDraw) = true)
    (aLarge : PySem.W.nsIn K mainGlobals "_law_large" = some (some (.ref fLarge)))
    (lLarge : K.lookup fLarge = some ⟨ocLarge, odLarge, .func (PySem.W.fnOf "_law_large" "_law_large" (defArgs sLarge) (defBody sLarge) (defScope sLarge) .none kVLarge dcLarge pmLarge anLarge cdLarge ctLarge), slLarge⟩)
    (cLarge : PySem.W.codeIn K cdLarge "_law_large" = true)
    (kLarge : PySem.W.keepIn K (.ref fLarge) = true)
    (aSteps : PySem.W.nsIn K mainGlobals "_law_steps" = some (some (.ref fSteps)))
    (lSteps : K.lookup fSteps = some ⟨ocSteps, odSteps, .func (PySem.W.fnOf "_law_steps" "_law_steps" (defArgs sSteps) (defBody sSteps) (defScope sSteps) .none kVSteps dcSteps pmSteps anSteps cdSteps ctSteps), slSteps⟩)
    (cSteps : PySem.W.codeIn K cdSteps "_law_steps" = true)
    (kSteps : PySem.W.keepIn K (.ref fSteps) = true)
    (aTermL : PySem.W.nsIn K mainGlobals "_law_term" = some (some (.ref fTermL)))
    (lTermL : K.lookup fTermL = some ⟨ocTermL, odTermL, .func (PySem.W.fnOf "_law_term" "_law_term" (defArgs sTermL) (defBody sTermL) (defScope sTermL) .none kVTermL dcTermL pmTermL anTermL cdTermL ctTermL), slTermL⟩)
    (cTermL : PySem.W.codeIn K cdTermL "_law_term" = true)
    (kTermL : PySem.W.keepIn K (.ref fTermL) = true)
    (aCondL : PySem.W.nsIn K mainGlobals "_law_condition" = some (some (.ref fCondL)))
    (lCondL : K.lookup fCondL = some ⟨ocCondL, odCondL, .func (PySem.W.fnOf "_law_condition" "_law_condition" (defArgs sCondL) (defBody sCondL) (defScope sCondL) .none kVCondL dcCondL pmCondL anCondL cdCondL ctCondL), slCondL⟩)
    (cCondL : PySem.W.codeIn K cdCondL "_law_condition" = true)
    (kCondL : PySem.W.keepIn K (.ref fCondL) = true)
    (aSimple : PySem.W.nsIn K mainGlobals "_law_simple" = some (some (.ref fSimple)))
    (lSimple : K.lookup fSimple = some ⟨ocSimple, odSimple, .func (PySem.W.fnOf "_law_simple" "_law_simple" (defArgs sSimple) (defBody sSimple) (defScope sSimple) .none kVSimple dcSimple pmSimple anSimple cdSimple ctSimple), slSimple⟩)
    (cSimple : PySem.W.codeIn K cdSimple "_law_simple" = true)
    (kSimple : PySem.W.keepIn K (.ref fSimple) = true)
    (aStmt : PySem.W.nsIn K mainGlobals "_law_statement" = some (some (.ref fStmt)))
    (lStmt : K.lookup fStmt = some ⟨ocStmt, odStmt, .func (PySem.W.fnOf "_law_statement" "_law_statement" (defArgs sStmt) (defBody sStmt) (defScope sStmt) .none kVStmt dcStmt pmStmt anStmt cdStmt ctStmt), slStmt⟩)
    (cStmt : PySem.W.codeIn K cdStmt "_law_statement" = true)
    (kStmt : PySem.W.keepIn K (.ref fStmt) = true)
    (aBody : PySem.W.nsIn K mainGlobals "_law_body" = some (some (.ref fBody)))
    (lBody : K.lookup fBody = some ⟨ocBody, odBody, .func (PySem.W.fnOf "_law_body" "_law_body" (defArgs sBody) (defBody sBody) (defScope sBody) .none kVBody dcBody pmBody anBody cdBody ctBody), slBody⟩)
    (cBody : PySem.W.codeIn K cdBody "_law_body" = true)
    (kBody : PySem.W.keepIn K (.ref fBody) = true)
    (aProgL : PySem.W.nsIn K mainGlobals "_law_program" = some (some (.ref fProgL)))
    (lProgL : K.lookup fProgL = some ⟨ocProgL, odProgL, .func (PySem.W.fnOf "_law_program" "_law_program" (defArgs sProgL) (defBody sProgL) (defScope sProgL) .none kVProgL dcProgL pmProgL anProgL cdProgL ctProgL), slProgL⟩)
    (cProgL : PySem.W.codeIn K cdProgL "_law_program" = true)
    (kProgL : PySem.W.keepIn K (.ref fProgL) = true)
    (aLC : PySem.W.nsIn K mainGlobals "_law_code" = some (some (.ref fLC)))
    (lLC : K.lookup fLC = some ⟨ocLC, odLC, .func (PySem.W.fnOf "_law_code" "_law_code" (defArgs sLC) (defBody sLC) (defScope sLC) .none kVLC dcLC pmLC anLC cdLC ctLC), slLC⟩)
    (cLC : PySem.W.codeIn K cdLC "_law_code" = true)
    (kLC : PySem.W.keepIn K (.ref fLC) = true)
    (aTO : PySem.W.nsIn K mainGlobals "_law_term_of" = some (some (.ref fTO)))
    (lTO : K.lookup fTO = some ⟨ocTO, odTO, .func (PySem.W.fnOf "_law_term_of" "_law_term_of" (defArgs sTO) (defBody sTO) (defScope sTO) .none kVTO dcTO pmTO anTO cdTO ctTO), slTO⟩)
    (cTO : PySem.W.codeIn K cdTO "_law_term_of" = true)
    (kTO : PySem.W.keepIn K (.ref fTO) = true)
    (aTr : PySem.W.nsIn K mainGlobals "_law_true" = some (some (.ref fTr)))
    (lTr : K.lookup fTr = some ⟨ocTr, odTr, .func (PySem.W.fnOf "_law_true" "_law_true" (defArgs sTr) (defBody sTr) (defScope sTr) .none kVTr dcTr pmTr anTr cdTr ctTr), slTr⟩)
    (cTr : PySem.W.codeIn K cdTr "_law_true" = true)
    (kTr : PySem.W.keepIn K (.ref fTr) = true)
    (aNx : PySem.W.nsIn K mainGlobals "_law_next" = some (some (.ref fNx)))
    (lNx : K.lookup fNx = some ⟨ocNx, odNx, .func (PySem.W.fnOf "_law_next" "_law_next" (defArgs sNx) (defBody sNx) (defScope sNx) .none kVNx dcNx pmNx anNx cdNx ctNx), slNx⟩)
    (cNx : PySem.W.codeIn K cdNx "_law_next" = true)
    (kNx : PySem.W.keepIn K (.ref fNx) = true)
    (aWkd : PySem.W.nsIn K mainGlobals "_law_walked" = some (some (.ref fWkd)))
    (lWkd : K.lookup fWkd = some ⟨ocWkd, odWkd, .func (PySem.W.fnOf "_law_walked" "_law_walked" (defArgs sWkd) (defBody sWkd) (defScope sWkd) .none kVWkd dcWkd pmWkd anWkd cdWkd ctWkd), slWkd⟩)
    (cWkd : PySem.W.codeIn K cdWkd "_law_walked" = true)
    (kWkd : PySem.W.keepIn K (.ref fWkd) = true)
    (aColl : PySem.W.nsIn K mainGlobals "_law_collector" = some (some (.ref fColl)))
    (lColl : K.lookup fColl = some ⟨ocColl, odColl, .func (PySem.W.fnOf "_law_collector" "_law_collector" (defArgs sColl) (defBody sColl) (defScope sColl) .none kVColl dcColl pmColl anColl cdColl ctColl), slColl⟩)
    (cColl : PySem.W.codeIn K cdColl "_law_collector" = true)
    (kColl : PySem.W.keepIn K (.ref fColl) = true)
    (aLaw : PySem.W.nsIn K mainGlobals "law" = some (some (.ref fLaw)))
    (lLaw : K.lookup fLaw = some ⟨ocLaw, odLaw, .func (PySem.W.fnOf "law" "law" (defArgs sLaw) (defBody sLaw) (defScope sLaw) .none kVLaw dcLaw pmLaw anLaw cdLaw ctLaw), slLaw⟩)
    (cLaw : PySem.W.codeIn K cdLaw "law" = true)
    (kLaw : PySem.W.keepIn K (.ref fLaw) = true)
    (zisinstance : PySem.W.nsIn K mainGlobals "isinstance" = some none)
    (zint : PySem.W.nsIn K mainGlobals "int" = some none)
    (zbool : PySem.W.nsIn K mainGlobals "bool" = some none)
    (zstr : PySem.W.nsIn K mainGlobals "str" = some none)
    (ztuple : PySem.W.nsIn K mainGlobals "tuple" = some none)
    (zlen : PySem.W.nsIn K mainGlobals "len" = some none)
    (zzip : PySem.W.nsIn K mainGlobals "zip" = some none)
    (zall : PySem.W.nsIn K mainGlobals "all" = some none)
    (zabs : PySem.W.nsIn K mainGlobals "abs" = some none)
    (zmax : PySem.W.nsIn K mainGlobals "max" = some none)
    (zmin : PySem.W.nsIn K mainGlobals "min" = some none)
    (zrange : PySem.W.nsIn K mainGlobals "range" = some none)
    (zsum : PySem.W.nsIn K mainGlobals "sum" = some none)
    (zlist : PySem.W.nsIn K mainGlobals "list" = some none)
    (zsorted : PySem.W.nsIn K mainGlobals "sorted" = some none)
    (gG : PySem.W.nsIn K mainGlobals "GREATEST_VALUE" = some (some (.int 15 tG)))
    (gL : PySem.W.nsIn K mainGlobals "LONGEST_WAIT" = some (some (.int longest tL)))
    (gS : PySem.W.nsIn K mainGlobals "MOST_STATEMENTS" = some (some (.int 24 tS)))
    (gD : PySem.W.nsIn K mainGlobals "MOST_DEPTH" = some (some (.int 4 tD)))
    (mV : PySem.W.nsIn K mainGlobals "VARIABLES" = some (some (.ref aV)))
    (qV : K.lookup aV = some ⟨.type "tuple", odV, .seq #[.str "a" tV0, .str "b" tV1] nV, slV⟩)
    (mC : PySem.W.nsIn K mainGlobals "CONDITION_SIGNS" = some (some (.ref aC)))
    (qC : K.lookup aC = some ⟨.type "tuple", odC, .seq #[.str "==" tC0, .str "!=" tC1, .str "<" tC2] nC, slC⟩)
    (mA : PySem.W.nsIn K mainGlobals "ASK_SIGNS" = some (some (.ref aA)))
    (qA : K.lookup aA = some ⟨.type "tuple", odA, .seq #[.str "+" tA0, .str "-" tA1, .str "=" tA2] nA, slA⟩)
    (mK : PySem.W.nsIn K mainGlobals "KINDS" = some (some (.ref aK)))
    (qK : K.lookup aK = some ⟨.type "tuple", odK, .seq #[.str "teller" tK0, .str "collector" tK1] nK, slK⟩)
    (mB : PySem.W.nsIn K mainGlobals "BODIES" = some (some (.ref aB)))
    (qB : K.lookup aB = some ⟨.type "dict", none, .dict #[⟨hB0, .str "if" tB0, .int 2 tB2⟩, ⟨hB1, .str "while" tB1, .int 1 tB3⟩] nB, #[]⟩)
    (yB : PySem.W.KeysLit w.params (#[⟨hB0, .str "if" tB0, .int 2 tB2⟩, ⟨hB1, .str "while" tB1, .int 1 tB3⟩] : Array DictEntry).toList)
    (wB : (aB == sysModules) = false)
    (mSh : PySem.W.nsIn K mainGlobals "SHARED_ROLES" = some (some (.ref aSh)))
    (qSh : K.lookup aSh = some ⟨.type "dict", none, .dict #[⟨hSh0, .str "set" tSh0, .ref aSh0⟩, ⟨hSh1, .str "add" tSh1, .ref aSh1⟩, ⟨hSh2, .str "wait" tSh2, .ref aSh2⟩] nSh, #[]⟩)
    (ySh : PySem.W.KeysLit w.params (#[⟨hSh0, .str "set" tSh0, .ref aSh0⟩, ⟨hSh1, .str "add" tSh1, .ref aSh1⟩, ⟨hSh2, .str "wait" tSh2, .ref aSh2⟩] : Array DictEntry).toList)
    (wSh : (aSh == sysModules) = false)
    (qSh0 : K.lookup aSh0 = some ⟨.type "tuple", odSh0, .seq #[.str "variable" tSh00, .str "value" tSh01] nSh0, slSh0⟩)
    (qSh1 : K.lookup aSh1 = some ⟨.type "tuple", odSh1, .seq #[.str "variable" tSh10, .str "term" tSh11] nSh1, slSh1⟩)
    (qSh2 : K.lookup aSh2 = some ⟨.type "tuple", odSh2, .seq #[.str "steps" tSh20] nSh2, slSh2⟩)
    (mTe : PySem.W.nsIn K mainGlobals "TELLER_ROLES" = some (some (.ref aTe)))
    (qTe : K.lookup aTe = some ⟨.type "dict", none, .dict #[⟨hTe0, .str "ask" tTe0, .ref aTe0⟩, ⟨hTe1, .str "answer" tTe1, .ref aTe1⟩] nTe, #[]⟩)
    (yTe : PySem.W.KeysLit w.params (#[⟨hTe0, .str "ask" tTe0, .ref aTe0⟩, ⟨hTe1, .str "answer" tTe1, .ref aTe1⟩] : Array DictEntry).toList)
    (wTe : (aTe == sysModules) = false)
    (qTe0 : K.lookup aTe0 = some ⟨.type "tuple", odTe0, .seq #[.str "sign" tTe00, .str "term" tTe01, .str "variable" tTe02] nTe0, slTe0⟩)
    (qTe1 : K.lookup aTe1 = some ⟨.type "tuple", odTe1, .seq #[.str "answer" tTe10] nTe1, slTe1⟩)
    (mCo : PySem.W.nsIn K mainGlobals "COLLECTOR_ROLES" = some (some (.ref aCo)))
    (qCo : K.lookup aCo = some ⟨.type "dict", none, .dict #[⟨hCo0, .str "grow" tCo0, .ref aCo0⟩, ⟨hCo1, .str "list" tCo1, .ref aCo1⟩] nCo, #[]⟩)
    (yCo : PySem.W.KeysLit w.params (#[⟨hCo0, .str "grow" tCo0, .ref aCo0⟩, ⟨hCo1, .str "list" tCo1, .ref aCo1⟩] : Array DictEntry).toList)
    (wCo : (aCo == sysModules) = false)
    (qCo0 : K.lookup aCo0 = some ⟨.type "tuple", odCo0, .seq #[.str "term" tCo00] nCo0, slCo0⟩)
    (qCo1 : K.lookup aCo1 = some ⟨.type "tuple", odCo1, .seq #[.str "term" tCo10] nCo1, slCo1⟩)
    (ucW : PySem.W.nsIn K mainGlobals "Walk" = some (some (.ref cW)))
    (ucL : PySem.W.nsIn K mainGlobals "Listing" = some (some (.ref cL)))
    (aEar : PySem.W.findIn K (.ref cW) "earlier" = some (some (.ref fEar)))
    (iEar : PySem.W.isFn K (.ref fEar) = true)
    (lEar : K.lookup fEar = some ⟨ocEar, odEar, .func (PySem.W.fnOf "earlier" "Walk.earlier" (defArgs sEar) (defBody sEar) (defScope sEar) .none kVEar dcEar pmEar anEar cdEar ctEar), slEar⟩)
    (cEar : PySem.W.codeIn K cdEar "Walk.earlier" = true)
    (kEar : PySem.W.keepIn K (.ref fEar) = true)
    (aUp : PySem.W.findIn K (.ref cW) "upcoming" = some (some (.ref fUp)))
    (iUp : PySem.W.isFn K (.ref fUp) = true)
    (lUp : K.lookup fUp = some ⟨ocUp, odUp, .func (PySem.W.fnOf "upcoming" "Walk.upcoming" (defArgs sUp) (defBody sUp) (defScope sUp) .none kVUp dcUp pmUp anUp cdUp ctUp), slUp⟩)
    (cUp : PySem.W.codeIn K cdUp "Walk.upcoming" = true)
    (kUp : PySem.W.keepIn K (.ref fUp) = true)
    (aWor : PySem.W.findIn K (.ref cW) "worth" = some (some (.ref fWor)))
    (iWor : PySem.W.isFn K (.ref fWor) = true)
    (lWor : K.lookup fWor = some ⟨ocWor, odWor, .func (PySem.W.fnOf "worth" "Walk.worth" (defArgs sWorth) (defBody sWorth) (defScope sWorth) .none kVWor dcWor pmWor anWor cdWor ctWor), slWor⟩)
    (cWor : PySem.W.codeIn K cdWor "Walk.worth" = true)
    (kWor : PySem.W.keepIn K (.ref fWor) = true)
    (aTru : PySem.W.findIn K (.ref cW) "is_true" = some (some (.ref fTru)))
    (iTru : PySem.W.isFn K (.ref fTru) = true)
    (lTru : K.lookup fTru = some ⟨ocTru, odTru, .func (PySem.W.fnOf "is_true" "Walk.is_true" (defArgs sTrue) (defBody sTrue) (defScope sTrue) .none kVTru dcTru pmTru anTru cdTru ctTru), slTru⟩)
    (cTru : PySem.W.codeIn K cdTru "Walk.is_true" = true)
    (kTru : PySem.W.keepIn K (.ref fTru) = true)
    (aTak : PySem.W.findIn K (.ref cW) "take" = some (some (.ref fTak)))
    (iTak : PySem.W.isFn K (.ref fTak) = true)
    (lTak : K.lookup fTak = some ⟨ocTak, odTak, .func (PySem.W.fnOf "take" "Walk.take" (defArgs sTake) (defBody sTake) (defScope sTake) .none kVTak dcTak pmTak anTak cdTak ctTak), slTak⟩)
    (cTak : PySem.W.codeIn K cdTak "Walk.take" = true)
    (kTak : PySem.W.keepIn K (.ref fTak) = true)
    (aFol : PySem.W.findIn K (.ref cW) "follower" = some (some (.ref fFol)))
    (iFol : PySem.W.isFn K (.ref fFol) = true)
    (lFol : K.lookup fFol = some ⟨ocFol, odFol, .func (PySem.W.fnOf "follower" "Walk.follower" (defArgs sFol) (defBody sFol) (defScope sFol) .none kVFol dcFol pmFol anFol cdFol ctFol), slFol⟩)
    (cFol : PySem.W.codeIn K cdFol "Walk.follower" = true)
    (kFol : PySem.W.keepIn K (.ref fFol) = true)
    (aWI : PySem.W.findIn K (.ref cW) "__init__" = some (some (.ref fWI)))
    (iWI : PySem.W.isFn K (.ref fWI) = true)
    (lWI : K.lookup fWI = some ⟨ocWI, odWI, .func (PySem.W.fnOf "__init__" "Walk.__init__" (defArgs sWI) (defBody sWI) (defScope sWI) .none kVWI dcWI pmWI anWI cdWI ctWI), slWI⟩)
    (cWI : PySem.W.codeIn K cdWI "Walk.__init__" = true)
    (kWI : PySem.W.keepIn K (.ref fWI) = true)
    (aLI : PySem.W.findIn K (.ref cL) "__init__" = some (some (.ref fLI)))
    (iLI : PySem.W.isFn K (.ref fLI) = true)
    (lLI : K.lookup fLI = some ⟨ocLI, odLI, .func (PySem.W.fnOf "__init__" "Listing.__init__" (defArgs sLI) (defBody sLI) (defScope sLI) .none kVLI dcLI pmLI anLI cdLI ctLI), slLI⟩)
    (cLI : PySem.W.codeIn K cdLI "Listing.__init__" = true)
    (kLI : PySem.W.keepIn K (.ref fLI) = true)
    (aFam : PySem.W.findIn K (.ref cL) "family" = some (some (.ref fFam)))
    (iFam : PySem.W.isFn K (.ref fFam) = true)
    (lFam : K.lookup fFam = some ⟨ocFam, odFam, .func (PySem.W.fnOf "family" "Listing.family" (defArgs sFam) (defBody sFam) (defScope sFam) .none kVFam dcFam pmFam anFam cdFam ctFam), slFam⟩)
    (cFam : PySem.W.codeIn K cdFam "Listing.family" = true)
    (kFam : PySem.W.keepIn K (.ref fFam) = true)
    (aUnt : PySem.W.findIn K (.ref cL) "until" = some (some (.ref fUnt)))
    (iUnt : PySem.W.isFn K (.ref fUnt) = true)
    (lUnt : K.lookup fUnt = some ⟨ocUnt, odUnt, .func (PySem.W.fnOf "until" "Listing.until" (defArgs sUnt) (defBody sUnt) (defScope sUnt) .none kVUnt dcUnt pmUnt anUnt cdUnt ctUnt), slUnt⟩)
    (cUnt : PySem.W.codeIn K cdUnt "Listing.until" = true)
    (kUnt : PySem.W.keepIn K (.ref fUnt) = true)
    (aRU : PySem.W.findIn K (.ref cL) "rounds_until" = some (some (.ref fRU)))
    (iRU : PySem.W.isFn K (.ref fRU) = true)
    (lRU : K.lookup fRU = some ⟨ocRU, odRU, .func (PySem.W.fnOf "rounds_until" "Listing.rounds_until" (defArgs sRU) (defBody sRU) (defScope sRU) .none kVRU dcRU pmRU anRU cdRU ctRU), slRU⟩)
    (cRU : PySem.W.codeIn K cdRU "Listing.rounds_until" = true)
    (kRU : PySem.W.keepIn K (.ref fRU) = true)
    (pgW : PySem.W.plainGet K cW Str.empty = true)
    (hdW : PySem.W.hasDictIn K cW = true)
    (poW : PySem.W.plainOver K cW = true)
    (saW : PySem.W.findIn K (.ref cW) "__setattr__" = some (some (.builtin "object.__setattr__")))
    (mkW : PySem.W.makesIn K cW = true)
    (kcW : PySem.W.keepIn K (.ref cW) = true)
    (nW_code : PySem.W.findIn K (.ref cW) "code" = some none)
    (nW_at : PySem.W.findIn K (.ref cW) "at" = some none)
    (nW_held : PySem.W.findIn K (.ref cW) "held" = some none)
    (nW_counter : PySem.W.findIn K (.ref cW) "counter" = some none)
    (nW_taken : PySem.W.findIn K (.ref cW) "taken" = some none)
    (nW_seen : PySem.W.findIn K (.ref cW) "seen" = some none)
    (pgL : PySem.W.plainGet K cL Str.empty = true)
    (hdL : PySem.W.hasDictIn K cL = true)
    (poL : PySem.W.plainOver K cL = true)
    (saL : PySem.W.findIn K (.ref cL) "__setattr__" = some (some (.builtin "object.__setattr__")))
    (mkL : PySem.W.makesIn K cL = true)
    (kcL : PySem.W.keepIn K (.ref cL) = true)
    (nL_head : PySem.W.findIn K (.ref cL) "head" = some none)
    (nL_cycle : PySem.W.findIn K (.ref cL) "cycle" = some none)
    (nL_period : PySem.W.findIn K (.ref cL) "period" = some none)
    (nL_shift : PySem.W.findIn K (.ref cL) "shift" = some none)
    (nL_kept_head : PySem.W.findIn K (.ref cL) "kept_head" = some none)
    (nL_kept_cycle : PySem.W.findIn K (.ref cL) "kept_cycle" = some none)
    (nL_head_steps : PySem.W.findIn K (.ref cL) "head_steps" = some none)
    (nL_cycle_steps : PySem.W.findIn K (.ref cL) "cycle_steps" = some none)
    (nL_families : PySem.W.findIn K (.ref cL) "families" = some none)
    (gML : PySem.W.nsIn K mainGlobals "MOST_LISTED" = some (some (.int 1000 tML)))
    : ∃ fd : FuncData, (∀ (s : Shared) (v : Value), BindsTo s fd ⟨[v], []⟩ [("_law_script", v)]) ∧ ∀ base : Heap, K.In base → base.Ns mainGlobals mg → FnOk l.prog w K mg base CX0 18 fa fd ["_law_script"] (spLaw K) := by
  have e := hfa.symm.trans (PySem.W.mg_of X G aLaw)
  cases e
  have FFrom := fun_mk (st := sFrom) lFrom cFrom kFrom
  have bFrom := FFrom.binds (ps := ["thing", "least"]) fun _ _ _ _ _ _ us hl => match us, hl with | [_, _], _ => rfl
  have FInt := fun_mk (st := sInt) lInt cInt kInt
  have bInt := FInt.binds (ps := ["thing", "least", "greatest"]) fun _ _ _ _ _ _ us hl => match us, hl with | [_, _, _], _ => rfl
  have FTerm := fun_mk (st := sTerm) lTerm cTerm kTerm
  have bTerm := FTerm.binds (ps := ["thing"]) fun _ _ _ _ _ _ us hl => match us, hl with | [_], _ => rfl
  have FCond := fun_mk (st := sCond) lCond cCond kCond
  have bCond := FCond.binds (ps := ["thing"]) fun _ _ _ _ _ _ us hl => match us, hl with | [_], _ => rfl
  have FPart := fun_mk (st := sPart) lPart cPart kPart
  have bPart := FPart.binds (ps := ["thing", "role"]) fun _ _ _ _ _ _ us hl => match us, hl with | [_, _], _ => rfl
  have FWord := fun_mk (st := sWord) lWord cWord kWord
  have bWord := FWord.binds (ps := ["thing"]) fun _ _ _ _ _ _ us hl => match us, hl with | [_], _ => rfl
  have FRoles := fun_mk (st := sRoles) lRoles cRoles kRoles
  have bRoles := FRoles.binds (ps := ["word", "kind"]) fun _ _ _ _ _ _ us hl => match us, hl with | [_, _], _ => rfl
  have FPlain := fun_mk (st := sPlain) lPlain cPlain kPlain
  have bPlain := FPlain.binds (ps := ["thing", "kind"]) fun _ _ _ _ _ _ us hl => match us, hl with | [_, _], _ => rfl
  have FOut := fun_mk (st := sOut) lOut cOut kOut
  have bOut := FOut.binds (ps := ["thing", "kind"]) fun _ _ _ _ _ _ us hl => match us, hl with | [_, _], _ => rfl
  have FBodies := fun_mk (st := sBodies) lBodies cBodies kBodies
  have bBodies := FBodies.binds (ps := ["statement"]) fun _ _ _ _ _ _ us hl => match us, hl with | [_], _ => rfl
  have FProg := fun_mk (st := sProg) lProg cProg kProg
  have bProg := FProg.binds (ps := ["thing"]) fun _ _ _ _ _ _ us hl => match us, hl with | [_], _ => rfl
  have FAsm := fun_mk (st := sAsm) lAsm cAsm kAsm
  have bAsm := FAsm.binds (ps := ["program"]) fun _ _ _ _ _ _ us hl => match us, hl with | [_], _ => rfl
  have FBC := fun_mk (st := sBC) lBC cBC kBC
  have bBC := FBC.binds (ps := ["body", "start"]) fun _ _ _ _ _ _ us hl => match us, hl with | [_, _], _ => rfl
  have FSC := fun_mk (st := sSC) lSC cSC kSC
  have bSC := FSC.binds (ps := ["statement", "start"]) fun _ _ _ _ _ _ us hl => match us, hl with | [_, _], _ => rfl
  have FWC := fun_mk (st := sWC) lWC cWC kWC
  have bWC := FWC.binds (ps := ["statement", "start"]) fun _ _ _ _ _ _ us hl => match us, hl with | [_, _], _ => rfl
  have FIC := fun_mk (st := sIC) lIC cIC kIC
  have bIC := FIC.binds (ps := ["statement", "start"]) fun _ _ _ _ _ _ us hl => match us, hl with | [_, _], _ => rfl
  have FCost := fun_mk (st := sCost) lCost cCost kCost
  have bCost := FCost.binds (ps := ["instruction"]) fun _ _ _ _ _ _ us hl => match us, hl with | [_], _ => rfl
  have FLPt := fun_mk (st := sLPt) lLPt cLPt kLPt
  have bLPt := FLPt.binds (ps := ["code"]) fun _ _ _ _ _ _ us hl => match us, hl with | [_], _ => rfl
  have FFS := fun_mk (st := sFS) lFS cFS kFS
  have bFS := FFS.binds (ps := ["rows"]) fun _ _ _ _ _ _ us hl => match us, hl with | [_], _ => rfl
  have FBag := fun_mk (st := sBag) lBag cBag kBag
  have bBag := FBag.binds (ps := ["_law_script", "_law_k"]) fun _ _ _ _ _ _ us hl => match us, hl with | [_, _], _ => rfl
  have FDraw := fun_mk (st := sDraw) lDraw cDraw kDraw
  have bDraw := FDraw.binds (ps := ["_law_bag_here", "_law_many"]) fun _ _ _ _ _ _ us hl => match us, hl with | [_, _], _ => rfl
  have FLarge := fun_mk (st := sLarge) lLarge cLarge kLarge
  have bLarge := FLarge.binds (ps := ["_law_bag_here", "_law_many"]) fun _ _ _ _ _ _ us hl => match us, hl with | [_, _], _ => rfl
  have FSteps := fun_mk (st := sSteps) lSteps cSteps kSteps
  have bSteps := FSteps.binds (ps := ["_law_bag_here"]) fun _ _ _ _ _ _ us hl => match us, hl with | [_], _ => rfl
  have FTermL := fun_mk (st := sTermL) lTermL cTermL kTermL
  have bTermL := FTermL.binds (ps := ["_law_bag_here"]) fun _ _ _ _ _ _ us hl => match us, hl with | [_], _ => rfl
  have FCondL := fun_mk (st := sCondL) lCondL cCondL kCondL
  have bCondL := FCondL.binds (ps := ["_law_bag_here"]) fun _ _ _ _ _ _ us hl => match us, hl with | [_], _ => rfl
  have FSimple := fun_mk (st := sSimple) lSimple cSimple kSimple
  have bSimple := FSimple.binds (ps := ["_law_bag_here", "_law_kind"]) fun _ _ _ _ _ _ us hl => match us, hl with | [_, _], _ => rfl
  have FStmt := fun_mk (st := sStmt) lStmt cStmt kStmt
  have bStmt := FStmt.binds (ps := ["_law_bag_here", "_law_kind", "_law_room", "_law_depth"]) fun _ _ _ _ _ _ us hl => match us, hl with | [_, _, _, _], _ => rfl
  have FBody := fun_mk (st := sBody) lBody cBody kBody
  have bBody := FBody.binds (ps := ["_law_bag_here", "_law_kind", "_law_room", "_law_depth", "_law_most"]) fun _ _ _ _ _ _ us hl => match us, hl with | [_, _, _, _, _], _ => rfl
  have FProgL := fun_mk (st := sProgL) lProgL cProgL kProgL
  have bProgL := FProgL.binds (ps := ["_law_bag_here", "_law_kind", "_law_most"]) fun _ _ _ _ _ _ us hl => match us, hl with | [_, _, _], _ => rfl
  have FLC := fun_mk (st := sLC) lLC cLC kLC
  have bLC := FLC.binds (ps := ["_law_body_here", "_law_code_here"]) fun _ _ _ _ _ _ us hl => match us, hl with | [_, _], _ => rfl
  have FTO := fun_mk (st := sTO) lTO cTO kTO
  have bTO := FTO.binds (ps := ["_law_term_here", "_law_state"]) fun _ _ _ _ _ _ us hl => match us, hl with | [_, _], _ => rfl
  have FTr := fun_mk (st := sTr) lTr cTr kTr
  have bTr := FTr.binds (ps := ["_law_condition_here", "_law_state"]) fun _ _ _ _ _ _ us hl => match us, hl with | [_, _], _ => rfl
  have FNx := fun_mk (st := sNx) lNx cNx kNx
  have bNx := FNx.binds (ps := ["_law_step", "_law_state", "_law_answer"]) fun _ _ _ _ _ _ us hl => match us, hl with | [_, _, _], _ => rfl
  have FWkd := fun_mk (st := sWkd) lWkd cWkd kWkd
  have bWkd := FWkd.binds (ps := ["_law_program_here", "_law_many"]) fun _ _ _ _ _ _ us hl => match us, hl with | [_, _], _ => rfl
  have FColl := fun_mk (st := sColl) lColl cColl kColl
  have bColl := FColl.binds (ps := ["_law_bag_here", "_law_most"]) fun _ _ _ _ _ _ us hl => match us, hl with | [_, _], _ => rfl
  have FLaw := fun_mk (st := sLaw) lLaw cLaw kLaw
  let T : Gs K mg := ⟨PySem.W.mg_none_of X G zisinstance, PySem.W.mg_none_of X G zint, PySem.W.mg_none_of X G zbool, PySem.W.mg_none_of X G zstr, PySem.W.mg_none_of X G ztuple, PySem.W.mg_none_of X G zlen, PySem.W.mg_none_of X G zzip, PySem.W.mg_none_of X G zall,
    aV, PySem.W.mg_of X G mV, sqt_of qV (by show 2 ≤ sizeLine; decide) (.cons ⟨_, rfl⟩ (.cons ⟨_, rfl⟩ (.nil))), aC, PySem.W.mg_of X G mC, sqt_of qC (by show 3 ≤ sizeLine; decide) (.cons ⟨_, rfl⟩ (.cons ⟨_, rfl⟩ (.cons ⟨_, rfl⟩ (.nil)))), aA, PySem.W.mg_of X G mA, sqt_of qA (by show 3 ≤ sizeLine; decide) (.cons ⟨_, rfl⟩ (.cons ⟨_, rfl⟩ (.cons ⟨_, rfl⟩ (.nil)))), aK, PySem.W.mg_of X G mK, sqt_of qK (by show 2 ≤ sizeLine; decide) (.cons ⟨_, rfl⟩ (.cons ⟨_, rfl⟩ (.nil))),
    tG, PySem.W.mg_of X G gG, tL, PySem.W.mg_of X G gL, tS, PySem.W.mg_of X G gS, tD, PySem.W.mg_of X G gD⟩
  have T2 : G2 mg := ⟨PySem.W.mg_none_of X G zabs, PySem.W.mg_none_of X G zmax, PySem.W.mg_none_of X G zmin, PySem.W.mg_none_of X G zrange⟩
  have msum := PySem.W.mg_none_of X G zsum
  have mlist := PySem.W.mg_none_of X G zlist
  let D : Gd K w mg := ⟨aB, PySem.W.mg_of X G mB, ⟨⟨_, _, qB, yB, .cons ⟨_, rfl⟩ (.cons ⟨_, rfl⟩ (.nil))⟩, wB⟩,
    aSh, aSh0, aSh1, aSh2, PySem.W.mg_of X G mSh, ⟨⟨_, _, qSh, ySh, .cons rfl (.cons rfl (.cons rfl (.nil)))⟩, wSh⟩, sqt_of qSh0 (by show 2 ≤ sizeLine; decide) (.cons ⟨_, rfl⟩ (.cons ⟨_, rfl⟩ (.nil))), sqt_of qSh1 (by show 2 ≤ sizeLine; decide) (.cons ⟨_, rfl⟩ (.cons ⟨_, rfl⟩ (.nil))), sqt_of qSh2 (by show 1 ≤ sizeLine; decide) (.cons ⟨_, rfl⟩ (.nil)),
    aTe, aTe0, aTe1, PySem.W.mg_of X G mTe, ⟨⟨_, _, qTe, yTe, .cons rfl (.cons rfl (.nil))⟩, wTe⟩, sqt_of qTe0 (by show 3 ≤ sizeLine; decide) (.cons ⟨_, rfl⟩ (.cons ⟨_, rfl⟩ (.cons ⟨_, rfl⟩ (.nil)))), sqt_of qTe1 (by show 1 ≤ sizeLine; decide) (.cons ⟨_, rfl⟩ (.nil)),
    aCo, aCo0, aCo1, PySem.W.mg_of X G mCo, ⟨⟨_, _, qCo, yCo, .cons rfl (.cons rfl (.nil))⟩, wCo⟩, sqt_of qCo0 (by show 1 ≤ sizeLine; decide) (.cons ⟨_, rfl⟩ (.nil)), sqt_of qCo1 (by show 1 ≤ sizeLine; decide) (.cons ⟨_, rfl⟩ (.nil))⟩
  have FEar := fun_mk (st := sEar) lEar cEar kEar
  have bEar := FEar.binds (ps := ["self"]) fun _ _ _ _ _ _ us hl => match us, hl with | [_], _ => rfl
  have FUp := fun_mk (st := sUp) lUp cUp kUp
  have bUp := FUp.binds (ps := ["self"]) fun _ _ _ _ _ _ us hl => match us, hl with | [_], _ => rfl
  have FWor := fun_mk (st := sWorth) lWor cWor kWor
  have bWor := FWor.binds (ps := ["self", "term"]) fun _ _ _ _ _ _ us hl => match us, hl with | [_, _], _ => rfl
  have FTru := fun_mk (st := sTrue) lTru cTru kTru
  have bTru := FTru.binds (ps := ["self", "condition"]) fun _ _ _ _ _ _ us hl => match us, hl with | [_, _], _ => rfl
  have FTak := fun_mk (st := sTake) lTak cTak kTak
  have bTak := FTak.binds (ps := ["self", "instruction"]) fun _ _ _ _ _ _ us hl => match us, hl with | [_, _], _ => rfl
  have FFol := fun_mk (st := sFol) lFol cFol kFol
  have bFol := FFol.binds (ps := ["self", "instruction"]) fun _ _ _ _ _ _ us hl => match us, hl with | [_, _], _ => rfl
  have FWI := fun_mk (st := sWI) lWI cWI kWI
  have bWI := FWI.binds (ps := ["self", "code"]) fun _ _ _ _ _ _ us hl => match us, hl with | [_, _], _ => rfl
  have FLI := fun_mk (st := sLI) lLI cLI kLI
  have bLI := FLI.binds (ps := ["self", "program"]) fun _ _ _ _ _ _ us hl => match us, hl with | [_, _], _ => rfl
  have FFam := fun_mk (st := sFam) lFam cFam kFam
  have bFam := FFam.binds (ps := ["self", "integer"]) fun _ _ _ _ _ _ us hl => match us, hl with | [_, _], _ => rfl
  have FUnt := fun_mk (st := sUnt) lUnt cUnt kUnt
  have bUnt := FUnt.binds (ps := ["self", "age"]) fun _ _ _ _ _ _ us hl => match us, hl with | [_, _], _ => rfl
  have FRU := fun_mk (st := sRU) lRU cRU kRU
  have bRU := FRU.binds (ps := ["self", "step", "age"]) fun _ _ _ _ _ _ us hl => match us, hl with | [_, _, _], _ => rfl
  have WT : WC K cW := ⟨⟨pgW, hdW, poW, saW⟩, nW_code, nW_at, nW_held, nW_counter, nW_taken, nW_seen⟩
  have NL : LNo K cL := ⟨⟨pgL, hdL, poL, saL⟩, nL_head, nL_cycle, nL_period, nL_shift, nL_kept_head, nL_kept_cycle, nL_head_steps, nL_cycle_steps, nL_families⟩
  have msorted := PySem.W.mg_none_of X G zsorted
  refine ⟨PySem.W.fnOf "law" "law" (defArgs sLaw) (defBody sLaw) (defScope sLaw) .none kVLaw dcLaw pmLaw anLaw cdLaw ctLaw, fun s v => .of_eq rfl, fun base _ _ => ?_⟩
  let CFrom : Cal l.prog w K mg base 1 "is_integer_from" ["thing", "least"] (spFrom K) := ⟨_, _, ok_from FFrom T, bFrom, kFrom, PySem.W.mg_of X G aFrom⟩
  let CInt : Cal l.prog w K mg base 2 "is_integer_from_to" ["thing", "least", "greatest"] (spInt K) := ⟨_, _, ok_int FInt CFrom, bInt, kInt, PySem.W.mg_of X G aInt⟩
  let CTerm : Cal l.prog w K mg base 3 "is_term" ["thing"] (sp1 isTerm K) := ⟨_, _, ok_term FTerm T CInt, bTerm, kTerm, PySem.W.mg_of X G aTerm⟩
  let CCond : Cal l.prog w K mg base 4 "is_condition" ["thing"] (sp1 isCond K) := ⟨_, _, ok_cond FCond T CTerm, bCond, kCond, PySem.W.mg_of X G aCond⟩
  let CPart : Cal l.prog w K mg base 4 "is_part" ["thing", "role"] (spPart K) := ⟨_, _, ok_part FPart T CInt CTerm, bPart, kPart, PySem.W.mg_of X G aPart⟩
  let CWord : Cal l.prog w K mg base 1 "word_of" ["thing"] (spWord K) := ⟨_, _, ok_word FWord T, bWord, kWord, PySem.W.mg_of X G aWord⟩
  let CRoles : Cal l.prog w K mg base 1 "roles_of" ["word", "kind"] (spRoles K) := ⟨_, _, ok_roles FRoles D, bRoles, kRoles, PySem.W.mg_of X G aRoles⟩
  let CPlain : Cal l.prog w K mg base 5 "is_plain_statement" ["thing", "kind"] (sp2 isPlain K) := ⟨_, _, ok_plain FPlain T CWord CRoles CPart, bPlain, kPlain, PySem.W.mg_of X G aPlain⟩
  let COut : Cal l.prog w K mg base 6 "is_outside_of_statement" ["thing", "kind"] (sp2 isOut K) := ⟨_, _, ok_out FOut T D CWord CCond CPlain, bOut, kOut, PySem.W.mg_of X G aOut⟩
  let CBodies : Cal l.prog w K mg base 1 "bodies_of" ["statement"] (spBods K) := ⟨_, _, ok_bodies FBodies T D, bBodies, kBodies, PySem.W.mg_of X G aBodies⟩
  let CProg : Cal l.prog w K mg base 7 "is_program" ["thing"] (spProg K) := ⟨_, _, ok_prog FProg T COut CBodies, bProg, kProg, PySem.W.mg_of X G aProg⟩
  let CBC : Cal l.prog w K mg base 14 "body_code" ["body", "start"] (spBC K 4) := ⟨_, _, recC FBC bBC (PySem.W.mg_of X G aBC) FSC bSC (PySem.W.mg_of X G aSC) FWC bWC (PySem.W.mg_of X G aWC) FIC bIC (PySem.W.mg_of X G aIC) T 4, bBC, kBC, PySem.W.mg_of X G aBC⟩
  let CAsm : Cal l.prog w K mg base 15 "assemble" ["program"] (spAsm K) := ⟨_, _, ok_asm FAsm CProg CBC, bAsm, kAsm, PySem.W.mg_of X G aAsm⟩
  let CCost : Cal l.prog w K mg base 1 "cost" ["instruction"] (spCost K) := ⟨_, _, ok_cost FCost, bCost, kCost, PySem.W.mg_of X G aCost⟩
  let CFS : Cal l.prog w K mg base 1 "first_steps" ["rows"] (spFS K) := ⟨_, _, ok_FS FFS, bFS, kFS, PySem.W.mg_of X G aFS⟩
  let CBag : Cal l.prog w K mg base 1 "_law_bag" ["_law_script", "_law_k"] (spBag K) := ⟨_, _, ok_bag FBag T T2, bBag, kBag, PySem.W.mg_of X G aBag⟩
  let CDraw : Cal l.prog w K mg base 1 "_law_draw" ["_law_bag_here", "_law_many"] spDraw := ⟨_, _, ok_draw FDraw, bDraw, kDraw, PySem.W.mg_of X G aDraw⟩
  let CLarge : Cal l.prog w K mg base 2 "_law_large" ["_law_bag_here", "_law_many"] spLarge := ⟨_, _, ok_large FLarge CDraw, bLarge, kLarge, PySem.W.mg_of X G aLarge⟩
  let CSteps : Cal l.prog w K mg base 3 "_law_steps" ["_law_bag_here"] spSteps := ⟨_, _, ok_steps FSteps CDraw CLarge, bSteps, kSteps, PySem.W.mg_of X G aSteps⟩
  let CTermL : Cal l.prog w K mg base 2 "_law_term" ["_law_bag_here"] (spTermL K) := ⟨_, _, ok_termL FTermL CDraw, bTermL, kTermL, PySem.W.mg_of X G aTermL⟩
  let CCondL : Cal l.prog w K mg base 3 "_law_condition" ["_law_bag_here"] (spCondL K) := ⟨_, _, ok_condL FCondL CDraw CTermL, bCondL, kCondL, PySem.W.mg_of X G aCondL⟩
  let CSimple : Cal l.prog w K mg base 4 "_law_simple" ["_law_bag_here", "_law_kind"] (spSimple K) := ⟨_, _, ok_simple FSimple CDraw CTermL CSteps, bSimple, kSimple, PySem.W.mg_of X G aSimple⟩
  let CBody : Cal l.prog w K mg base 13 "_law_body" ["_law_bag_here", "_law_kind", "_law_room", "_law_depth", "_law_most"] (spBody K 4) := ⟨_, _, both FBody bBody (PySem.W.mg_of X G aBody) FStmt bStmt (PySem.W.mg_of X G aStmt) T T2 CDraw CSimple CCondL 4, bBody, kBody, PySem.W.mg_of X G aBody⟩
  let CProgL : Cal l.prog w K mg base 14 "_law_program" ["_law_bag_here", "_law_kind", "_law_most"] (spProgC2 K) := ⟨_, _, ok_progC2 FProgL CDraw CBody, bProgL, kProgL, PySem.W.mg_of X G aProgL⟩
  let CLC : Cal l.prog w K mg base 6 "_law_code" ["_law_body_here", "_law_code_here"] (spLC K 4) := ⟨_, _, recLC FLC bLC (PySem.W.mg_of X G aLC) T 4, bLC, kLC, PySem.W.mg_of X G aLC⟩
  let CTO : Cal l.prog w K mg base 1 "_law_term_of" ["_law_term_here", "_law_state"] (spTO K) := ⟨_, _, ok_TO FTO, bTO, kTO, PySem.W.mg_of X G aTO⟩
  let CTr : Cal l.prog w K mg base 2 "_law_true" ["_law_condition_here", "_law_state"] (spTr K) := ⟨_, _, ok_Tr FTr CTO, bTr, kTr, PySem.W.mg_of X G aTr⟩
  let CNx : Cal l.prog w K mg base 2 "_law_next" ["_law_step", "_law_state", "_law_answer"] (spNx K) := ⟨_, _, ok_Nx FNx T mlist CTO, bNx, kNx, PySem.W.mg_of X G aNx⟩
  let CWkd : Cal l.prog w K mg base 7 "_law_walked" ["_law_program_here", "_law_many"] (spWkd K) := ⟨_, _, ok_Wkd FWkd T T2 CLC CTO CTr CNx, bWkd, kWkd, PySem.W.mg_of X G aWkd⟩
  let CColl : Cal l.prog w K mg base 15 "_law_collector" ["_law_bag_here", "_law_most"] (spColl K) := ⟨_, _, ok_Coll FColl T CDraw CTermL CProgL, bColl, kColl, PySem.W.mg_of X G aColl⟩
  let MWor : MCal l.prog w K mg base 1 cW "worth" ["self", "term"] (spWorth K cW) := ⟨_, _, ok_worth FWor T WT, bWor, ⟨aWor, iWor, kWor⟩⟩
  let MTru : MCal l.prog w K mg base 2 cW "is_true" ["self", "condition"] (spTrue K cW) := ⟨_, _, ok_true FTru WT MWor, bTru, ⟨aTru, iTru, kTru⟩⟩
  let MFol : MCal l.prog w K mg base 3 cW "follower" ["self", "instruction"] (spFol K cW) := ⟨_, _, ok_fol FFol WT MTru, bFol, ⟨aFol, iFol, kFol⟩⟩
  let MUp : MCal l.prog w K mg base 1 cW "upcoming" ["self"] (spUp K cW) := ⟨_, _, ok_up FUp T WT, bUp, ⟨aUp, iUp, kUp⟩⟩
  let MEar : MCal l.prog w K mg base 1 cW "earlier" ["self"] (spEar K cW) := ⟨_, _, ok_ear FEar WT, bEar, ⟨aEar, iEar, kEar⟩⟩
  let MTak : MCal l.prog w K mg base 4 cW "take" ["self", "instruction"] (spTake K cW) := ⟨_, _, ok_take FTak T WT CCost MFol MWor, bTak, ⟨aTak, iTak, kTak⟩⟩
  have GWI := ok_WI (P := l.prog) (w := w) (mg := mg) (base := base) FWI WT
  let CLPt : Cal l.prog w K mg base 5 "list_parts" ["code"] (spLPt K) := ⟨_, _, ok_LPt FLPt WT (PySem.W.mg_of X G ucW) ⟨mkW, aWI, iWI, kcW⟩ GWI bWI MEar MUp MTak MWor, bLPt, kLPt, PySem.W.mg_of X G aLPt⟩
  let MFam : MCal l.prog w K mg base 1 cL "family" ["self", "integer"] (spFam K cL) := ⟨_, _, ok_Fam FFam NL, bFam, ⟨aFam, iFam, kFam⟩⟩
  let MRU : MCal l.prog w K mg base 1 cL "rounds_until" ["self", "step", "age"] (spRU K cL) := ⟨_, _, ok_RU FRU NL, bRU, ⟨aRU, iRU, kRU⟩⟩
  let MUnt : MCal l.prog w K mg base 2 cL "until" ["self", "age"] (spUnt K cL) := ⟨_, _, ok_Unt FUnt T T2 msum msorted (PySem.W.mg_of X G gML) NL CFrom MRU, bUnt, ⟨aUnt, iUnt, kUnt⟩⟩
  let LC : LCl l.prog w K mg base cL := ⟨fLI, _, PySem.W.mg_of X G ucL, ⟨mkL, aLI, iLI, kcL⟩, ok_LI FLI NL T.tup CProg CAsm CLPt CFS MFam, bLI⟩
  exact ok_law FLaw T T2 mlist NL LC CBag CDraw CColl CWkd MUnt
theorem walk {l : PySem.W.OpenLaw} {q : Program} {loose : List Str} {XP : (Str → Option Value) → Heap → Prop} {YP : World → Heap → Prop} {d : DefRec} {K : Params → PySem.W.Frag} (hn : l.most = some 63) (hdf : d.params.defaults = [])
    (hY : ∀ (w : World) (h : Heap), YP w h → (K w.params).In h)
    (F : ∀ (w : World) (mg : Str → Option Value) (fa : Addr) (h : Heap), (K w.params).In h → h.Ns mainGlobals mg → mg d.name = some (.ref fa) →
      ∃ fd : FuncData, (∀ (s : Shared) (u : Value), BindsTo s fd ⟨[u], []⟩ [("_law_script", u)]) ∧ ∀ base : Heap, (K w.params).In base → base.Ns mainGlobals mg → FnOk l.prog w (K w.params) mg base CX0 18 fa fd ["_law_script"] (spLaw (K w.params))) :
    PySem.W.WalkO q loose XP YP l.row.toRowW d [] (fun f vs => PySem.call f vs) :=
  L2.walk_of (n := 63) (k := 18) (x := "_law_script") (CX := fun _ => CX0) (sp := fun w => spLaw (K w.params)) hn (by decide) hdf ⟨rfl, by decide, by decide⟩ hY F (fun _ _ a ns hl _ hS => ⟨a, ns, rfl, hS, hl, fun _ => rfl⟩) fun _ _ _ _ _ z => z
end My
open PySem PySem.W PyProof.Rows
set_option maxRecDepth 100000 in
set_option maxHeartbeats 0 in
theorem PySem.Challenge.cw_neithertells_k20_whole_lists_as_walked_holds : PySem.Challenge.rw_neithertells_k20_whole_lists_as_walked.Holds := by
  w_on; o_law; k_head; (case hw => w_witness2)
  k_fill
  refine My.walk (l := PySem.Challenge.rw_neithertells_k20_whole_lists_as_walked) rfl rfl (fun w h Y => PySem.W.kIn_of Y) ?F
  case F =>
    intro w mg fa h KX G hmg
    refine' My.all_mk KX G hmg ?aFrom ?lFrom ?cFrom ?kFrom ?aInt ?lInt ?cInt ?kInt ?aTerm ?lTerm ?cTerm ?kTerm ?aCond ?lCond ?cCond ?kCond ?aPart ?lPart ?cPart ?kPart ?aWord ?lWord ?cWord ?kWord ?aRoles ?lRoles ?cRoles ?kRoles ?aPlain ?lPlain ?cPlain ?kPlain ?aOut ?lOut ?cOut ?kOut ?aBodies ?lBodies ?cBodies ?kBodies ?aProg ?lProg ?cProg ?kProg ?aAsm ?lAsm ?cAsm ?kAsm ?aBC ?lBC ?cBC ?kBC ?aSC ?lSC ?cSC ?kSC ?aWC ?lWC ?cWC ?kWC ?aIC ?lIC ?cIC ?kIC ?aCost ?lCost ?cCost ?kCost ?aLPt ?lLPt ?cLPt ?kLPt ?aFS ?lFS ?cFS ?kFS ?aBag ?lBag ?cBag ?kBag ?aDraw ?lDraw ?cDraw ?kDraw ?aLarge ?lLarge ?cLarge ?kLarge ?aSteps ?lSteps ?cSteps ?kSteps ?aTermL ?lTermL ?cTermL ?kTermL ?aCondL ?lCondL ?cCondL ?kCondL ?aSimple ?lSimple ?cSimple ?kSimple ?aStmt ?lStmt ?cStmt ?kStmt ?aBody ?lBody ?cBody ?kBody ?aProgL ?lProgL ?cProgL ?kProgL ?aLC ?lLC ?cLC ?kLC ?aTO ?lTO ?cTO ?kTO ?aTr ?lTr ?cTr ?kTr ?aNx ?lNx ?cNx ?kNx ?aWkd ?lWkd ?cWkd ?kWkd ?aColl ?lColl ?cColl ?kColl ?aLaw ?lLaw ?cLaw ?kLaw ?zisinstance ?zint ?zbool ?zstr ?ztuple ?zlen ?zzip ?zall ?zabs ?zmax ?zmin ?zrange ?zsum ?zlist ?zsorted ?gG ?gL ?gS ?gD ?mV ?qV ?mC ?qC ?mA ?qA ?mK ?qK ?mB ?qB ?yB ?wB ?mSh ?qSh ?ySh ?wSh ?qSh0 ?qSh1 ?qSh2 ?mTe ?qTe ?yTe ?wTe ?qTe0 ?qTe1 ?mCo ?qCo ?yCo ?wCo ?qCo0 ?qCo1 ?ucW ?ucL ?aEar ?iEar ?lEar ?cEar ?kEar ?aUp ?iUp ?lUp ?cUp ?kUp ?aWor ?iWor ?lWor ?cWor ?kWor ?aTru ?iTru ?lTru ?cTru ?kTru ?aTak ?iTak ?lTak ?cTak ?kTak ?aFol ?iFol ?lFol ?cFol ?kFol ?aWI ?iWI ?lWI ?cWI ?kWI ?aLI ?iLI ?lLI ?cLI ?kLI ?aFam ?iFam ?lFam ?cFam ?kFam ?aUnt ?iUnt ?lUnt ?cUnt ?kUnt ?aRU ?iRU ?lRU ?cRU ?kRU ?pgW ?hdW ?poW ?saW ?mkW ?kcW ?nW_code ?nW_at ?nW_held ?nW_counter ?nW_taken ?nW_seen ?pgL ?hdL ?poL ?saL ?mkL ?kcL ?nL_head ?nL_cycle ?nL_period ?nL_shift ?nL_kept_head ?nL_kept_cycle ?nL_head_steps ?nL_cycle_steps ?nL_families ?gML
    (case aFrom => k_is)
    (case lFrom => k_is)
    (case cFrom => k_is)
    (case kFrom => k_is)
    (case aInt => k_is)
    (case lInt => k_is)
    (case cInt => k_is)
    (case kInt => k_is)
    (case aTerm => k_is)
    (case lTerm => k_is)
    (case cTerm => k_is)
    (case kTerm => k_is)
    (case aCond => k_is)
    (case lCond => k_is)
    (case cCond => k_is)
    (case kCond => k_is)
    (case aPart => k_is)
    (case lPart => k_is)
    (case cPart => k_is)
    (case kPart => k_is)
    (case aWord => k_is)
    (case lWord => k_is)
    (case cWord => k_is)
    (case kWord => k_is)
    (case aRoles => k_is)
    (case lRoles => k_is)
    (case cRoles => k_is)
    (case kRoles => k_is)
    (case aPlain => k_is)
    (case lPlain => k_is)
    (case cPlain => k_is)
    (case kPlain => k_is)
    (case aOut => k_is)
    (case lOut => k_is)
    (case cOut => k_is)
    (case kOut => k_is)
    (case aBodies => k_is)
    (case lBodies => k_is)
    (case cBodies => k_is)
    (case kBodies => k_is)
    (case aProg => k_is)
    (case lProg => k_is)
    (case cProg => k_is)
    (case kProg => k_is)
    (case aAsm => k_is)
    (case lAsm => k_is)
    (case cAsm => k_is)
    (case kAsm => k_is)
    (case aBC => k_is)
    (case lBC => k_is)
    (case cBC => k_is)
    (case kBC => k_is)
    (case aSC => k_is)
    (case lSC => k_is)
    (case cSC => k_is)
    (case kSC => k_is)
    (case aWC => k_is)
    (case lWC => k_is)
    (case cWC => k_is)
    (case kWC => k_is)
    (case aIC => k_is)
    (case lIC => k_is)
    (case cIC => k_is)
    (case kIC => k_is)
    (case aCost => k_is)
    (case lCost => k_is)
    (case cCost => k_is)
    (case kCost => k_is)
    (case aLPt => k_is)
    (case lLPt => k_is)
    (case cLPt => k_is)
    (case kLPt => k_is)
    (case aFS => k_is)
    (case lFS => k_is)
    (case cFS => k_is)
    (case kFS => k_is)
    (case aBag => k_is)
    (case lBag => k_is)
    (case cBag => k_is)
    (case kBag => k_is)
    (case aDraw => k_is)
    (case lDraw => k_is)
    (case cDraw => k_is)
    (case kDraw => k_is)
    (case aLarge => k_is)
    (case lLarge => k_is)
    (case cLarge => k_is)
    (case kLarge => k_is)
    (case aSteps => k_is)
    (case lSteps => k_is)
    (case cSteps => k_is)
    (case kSteps => k_is)
    (case aTermL => k_is)
    (case lTermL => k_is)
    (case cTermL => k_is)
    (case kTermL => k_is)
    (case aCondL => k_is)
    (case lCondL => k_is)
    (case cCondL => k_is)
    (case kCondL => k_is)
    (case aSimple => k_is)
    (case lSimple => k_is)
    (case cSimple => k_is)
    (case kSimple => k_is)
    (case aStmt => k_is)
    (case lStmt => k_is)
    (case cStmt => k_is)
    (case kStmt => k_is)
    (case aBody => k_is)
    (case lBody => k_is)
    (case cBody => k_is)
    (case kBody => k_is)
    (case aProgL => k_is)
    (case lProgL => k_is)
    (case cProgL => k_is)
    (case kProgL => k_is)
    (case aLC => k_is)
    (case lLC => k_is)
    (case cLC => k_is)
    (case kLC => k_is)
    (case aTO => k_is)
    (case lTO => k_is)
    (case cTO => k_is)
    (case kTO => k_is)
    (case aTr => k_is)
    (case lTr => k_is)
    (case cTr => k_is)
    (case kTr => k_is)
    (case aNx => k_is)
    (case lNx => k_is)
    (case cNx => k_is)
    (case kNx => k_is)
    (case aWkd => k_is)
    (case lWkd => k_is)
    (case cWkd => k_is)
    (case kWkd => k_is)
    (case aColl => k_is)
    (case lColl => k_is)
    (case cColl => k_is)
    (case kColl => k_is)
    (case aLaw => k_is)
    (case lLaw => k_is)
    (case cLaw => k_is)
    (case kLaw => k_is)
    (case zisinstance => k_is)
    (case zint => k_is)
    (case zbool => k_is)
    (case zstr => k_is)
    (case ztuple => k_is)
    (case zlen => k_is)
    (case zzip => k_is)
    (case zall => k_is)
    (case zabs => k_is)
    (case zmax => k_is)
    (case zmin => k_is)
    (case zrange => k_is)
    (case zsum => k_is)
    (case zlist => k_is)
    (case zsorted => k_is)
    (case gG => k_is)
    (case gL => k_is)
    (case gS => k_is)
    (case gD => k_is)
    (case mV => k_is)
    (case qV => k_is)
    (case mC => k_is)
    (case qC => k_is)
    (case mA => k_is)
    (case qA => k_is)
    (case mK => k_is)
    (case qK => k_is)
    (case mB => k_is)
    (case qB => k_is)
    (case yB => first | k_is | (simp [PySem.W.KeysLit]))
    (case wB => first | rfl | decide | k_is)
    (case mSh => k_is)
    (case qSh => k_is)
    (case ySh => first | k_is | (simp [PySem.W.KeysLit]))
    (case wSh => first | rfl | decide | k_is)
    (case qSh0 => k_is)
    (case qSh1 => k_is)
    (case qSh2 => k_is)
    (case mTe => k_is)
    (case qTe => k_is)
    (case yTe => first | k_is | (simp [PySem.W.KeysLit]))
    (case wTe => first | rfl | decide | k_is)
    (case qTe0 => k_is)
    (case qTe1 => k_is)
    (case mCo => k_is)
    (case qCo => k_is)
    (case yCo => first | k_is | (simp [PySem.W.KeysLit]))
    (case wCo => first | rfl | decide | k_is)
    (case qCo0 => k_is)
    (case qCo1 => k_is)
    (case ucW => k_is)
    (case ucL => k_is)
    (case aEar => k_is)
    (case iEar => k_is)
    (case lEar => k_is)
    (case cEar => k_is)
    (case kEar => k_is)
    (case aUp => k_is)
    (case iUp => k_is)
    (case lUp => k_is)
    (case cUp => k_is)
    (case kUp => k_is)
    (case aWor => k_is)
    (case iWor => k_is)
    (case lWor => k_is)
    (case cWor => k_is)
    (case kWor => k_is)
    (case aTru => k_is)
    (case iTru => k_is)
    (case lTru => k_is)
    (case cTru => k_is)
    (case kTru => k_is)
    (case aTak => k_is)
    (case iTak => k_is)
    (case lTak => k_is)
    (case cTak => k_is)
    (case kTak => k_is)
    (case aFol => k_is)
    (case iFol => k_is)
    (case lFol => k_is)
    (case cFol => k_is)
    (case kFol => k_is)
    (case aWI => k_is)
    (case iWI => k_is)
    (case lWI => k_is)
    (case cWI => k_is)
    (case kWI => k_is)
    (case aLI => k_is)
    (case iLI => k_is)
    (case lLI => k_is)
    (case cLI => k_is)
    (case kLI => k_is)
    (case aFam => k_is)
    (case iFam => k_is)
    (case lFam => k_is)
    (case cFam => k_is)
    (case kFam => k_is)
    (case aUnt => k_is)
    (case iUnt => k_is)
    (case lUnt => k_is)
    (case cUnt => k_is)
    (case kUnt => k_is)
    (case aRU => k_is)
    (case iRU => k_is)
    (case lRU => k_is)
    (case cRU => k_is)
    (case kRU => k_is)
    (case pgW => k_is)
    (case hdW => k_is)
    (case poW => k_is)
    (case saW => k_is)
    (case mkW => k_is)
    (case kcW => k_is)
    (case nW_code => k_is)
    (case nW_at => k_is)
    (case nW_held => k_is)
    (case nW_counter => k_is)
    (case nW_taken => k_is)
    (case nW_seen => k_is)
    (case pgL => k_is)
    (case hdL => k_is)
    (case poL => k_is)
    (case saL => k_is)
    (case mkL => k_is)
    (case kcL => k_is)
    (case nL_head => k_is)
    (case nL_cycle => k_is)
    (case nL_period => k_is)
    (case nL_shift => k_is)
    (case nL_kept_head => k_is)
    (case nL_kept_cycle => k_is)
    (case nL_head_steps => k_is)
    (case nL_cycle_steps => k_is)
    (case nL_families => k_is)
    (case gML => k_is)


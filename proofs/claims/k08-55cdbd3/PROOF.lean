import PyProof.Rows.All
import Wide.All
import OpenK.AllK
import Wide.FinOn
import HandS.ForMost
import HandS.IsInst
import HandS.Zip
import HandS.More
import HandS.TupAny
import HandS.TupLe
import HandS.Wide
import HandS.NoneIn
import HandS.Deep
import HandS.Star
import HandS.ForExc
import HandS.ExcIs
import HandS.ClsMeth
import HandS.MakeKw
import HandS.DictComp
import HandS.SortInts
import HandS.Defaults
import HandS.Conv
import HandS.MakeKwOnly
import HandS.OwnEq
import HandS.Text
import HandS.Walk
import HandS.WordsDict
import PySem.Challenge.RW_neithertells_k08_whole_runs_of_statement
set_option Elab.async false
set_option linter.all false
set_option maxRecDepth 100000
set_option maxHeartbeats 8000000
namespace My
open PySem L2
def top (i : Nat) : Stmt := PySem.Challenge.pw_neithertells_k08_whole_runs_of_statement.main.body.getD i (.Pass ⟨0, 0, 0, 0⟩)
abbrev sFrom : Stmt := top 17
abbrev sInt : Stmt := top 18
abbrev sTerm : Stmt := top 19
abbrev sCond : Stmt := top 20
abbrev sPart : Stmt := top 21
abbrev sWord : Stmt := top 22
abbrev sRoles : Stmt := top 23
abbrev sPlain : Stmt := top 24
abbrev sOut : Stmt := top 25
abbrev sBodies : Stmt := top 26
abbrev sProg : Stmt := top 27

/-! ### the mathematics of programs -/
def inS (d : PyData) (zs : List Str) : Bool := match d with | .str z => zs.any (· == z) | _ => false
def intIn (d : PyData) (lo hi : Int) : Bool := match d with | .int i => decide (lo ≤ i) && decide (i ≤ hi) | _ => false
def intFrom (d : PyData) (lo : Int) : Bool := match d with | .int i => decide (lo ≤ i) | _ => false
def vars : List Str := ["a", "b"]
def signs : List Str := ["==", "!=", "<"]
def asks : List Str := ["+", "-", "="]
def kinds : List Str := ["teller", "collector"]
def isTerm (d : PyData) : Bool := inS d vars || intIn d 0 15
def isCond (d : PyData) : Bool := match d with
  | .tuple [x, y, z] => inS x vars && inS y signs && isTerm z
  | _ => false
def longest : Int := 1000000000000000000000000000000
def isPart (d : PyData) (r : Str) : Bool :=
  if r = "variable" then inS d vars else if r = "term" then isTerm d else if r = "sign" then inS d asks else if r = "steps" then intIn d 1 longest
  else if r = "answer" then intIn d 0 1 else intIn d 0 15

/-! ### rules -/
section
variable {X : Cx}
theorem depth_strs (zs : List Str) : PyData.depthAll (zs.map PyData.str) = 0 := by
  induction zs with
  | nil => rfl
  | cons z r ih => simp only [List.map_cons, PyData.depthAll, PyData.depth, ih]; rfl
theorem lay_strs : ∀ (zs : List Str), zs.all PyData.strOk = true → PyData.canLayAll0 (zs.map PyData.str) = true
  | [], _ => by simp [PyData.canLayAll0]
  | z :: r, h => by
    simp only [List.all_cons, Bool.and_eq_true] at h
    simp only [List.map_cons, PyData.canLayAll0, PyData.canLay0, Bool.and_eq_true]
    exact ⟨h.1, lay_strs r h.2⟩
theorem any_strs (d : PyData) : ∀ (zs : List Str), ((zs.map PyData.str).any fun y => PyData.eqv y d) = inS d zs
  | [] => by cases d <;> rfl
  | z :: r => by
    have ih := any_strs d r
    rw [List.map_cons, List.any_cons, ih]
    cases d <;> simp [inS, PyData.eqv]
theorem dp_strs {K : PySem.W.Frag} {H : Hp} : ∀ zs : List Str, DpAll K H (zs.map V.str) (zs.map PyData.str)
  | [] => .nil
  | z :: r => .cons (.str z) (dp_strs r)
def rInS (K : PySem.W.Frag) (neg : Bool) : R2 := fun x y H Q => ∃ (d : PyData) (zs : List Str) (p : Addr), y = .ref p ∧ Dp K H x d ∧ d.canLay0 = true ∧ SqT K H p (zs.map V.str) ∧ zs.all PyData.strOk = true ∧
  Q (.bl (if neg then !inS d zs else inS d zs)) H
theorem op_inS (hu : X.A.units + 65 < cLine) : OpR X (compareOp .In) (rInS X.K false) := by
  intro pins s σ H x y v u Q I rx ry h
  obtain ⟨d, zs, p, rfl, hd, ld, hz, oz, q⟩ := h
  obtain ⟨as, r1⟩ := Dp.reads I d x v hd rx
  obtain ⟨bs, r2⟩ := Dp.reads I (.tuple (zs.map PyData.str)) (.ref p) u (.tup hz (dp_strs zs)) ry
  refine SeqAt.in_tuple_reads r2 r1 (lay_strs zs oz) ld ?_ ⟨.bl _, H, I, rfl, ?_⟩
  · rw [depth_strs]
    have := Nat.min_le_left 0 d.depth
    omega
  · rw [any_strs]; exact q
theorem op_notInS (hu : X.A.units + 65 < cLine) : OpR X (compareOp .NotIn) (rInS X.K true) := by
  intro pins s σ H x y v u Q I rx ry h
  obtain ⟨d, zs, p, rfl, hd, ld, hz, oz, q⟩ := h
  obtain ⟨as, r1⟩ := Dp.reads I d x v hd rx
  obtain ⟨bs, r2⟩ := Dp.reads I (.tuple (zs.map PyData.str)) (.ref p) u (.tup hz (dp_strs zs)) ry
  refine SeqAt.notIn_tuple_reads r2 r1 (lay_strs zs oz) ld ?_ ⟨.bl _, H, I, rfl, ?_⟩
  · rw [depth_strs]
    have := Nat.min_le_left 0 d.depth
    omega
  · rw [any_strs]; exact q
end
section
variable {X : Cx}
theorem pe_gref {x : Str} {a : Addr} {pos : Pos} (hg : Gl X x) (hm : X.mg x = some (.ref a)) (hd : (x == ("__debug__" : Str)) = false := by decide) : PE X (.Name x pos) (tC (.ref a)) := pe_glob hg hm rfl hd
theorem pe_gint {x : Str} {i : Int} {t : Tok} {pos : Pos} (hg : Gl X x) (hm : X.mg x = some (.int i t)) (hd : (x == ("__debug__" : Str)) = false := by decide) : PE X (.Name x pos) (tC (.int i)) := pe_glob hg hm ⟨t, rfl⟩ hd
end
/-- the name of the type -/
def tyN : PyData → String
  | .none => "NoneType"
  | .bool _ => "bool"
  | .int _ => "int"
  | .str _ => "str"
  | .list _ => "list"
  | .tuple _ => "tuple"
  | .dict _ => "dict"
theorem dp_ty {K : PySem.W.Frag} {H : Hp} {v : V} {d : PyData} (h : Dp K H v d) : TyX K H v (.type (tyN d)) := by
  cases h with
  | non => exact .base .non
  | bl b => exact .base (.bl b)
  | int i => exact .base (.int i)
  | str x => exact .base (.str x)
  | lst hs _ =>
    rcases hs with (h | ⟨o, h⟩) | ⟨o, its, n, hk, hc, _⟩
    · exact .base (.lst h)
    · exact .base (.frz h)
    · exact .kList hk hc
  | tup hs _ =>
    rcases hs with (h | ⟨o, h⟩) | ⟨o, its, n, hk, hc, _⟩
    · exact .base (.tup h)
    · exact .fTuple h
    · exact .kTuple hk hc
def isT (d : PyData) (T : String) : Bool := match d with
  | .bool _ => T == "bool" || T == "int"
  | _ => tyN d == T
theorem kit_isT {K : PySem.W.Frag} (d : PyData) {T : String} (h : T = "int" ∨ T = "bool" ∨ T = "str" ∨ T = "tuple" ∨ T = "list") (nd : ∀ k, d ≠ .dict k) : PySem.W.kitOne K (.type (tyN d)) (.type T) = some (isT d T) := by
  refine kit_ty ?_
  rcases h with rfl | rfl | rfl | rfl | rfl <;> cases d <;> first | (exact absurd rfl (nd _)) | (simp only [tyN, isT]; decide +kernel)

/-! ### what the module's names hold -/
structure Gs (K : PySem.W.Frag) (mg : Str → Option Value) where
  isi : mg "isinstance" = none
  int : mg "int" = none
  bool : mg "bool" = none
  str : mg "str" = none
  tup : mg "tuple" = none
  len : mg "len" = none
  zip : mg "zip" = none
  all : mg "all" = none
  aV : Addr
  mV : mg "VARIABLES" = some (.ref aV)
  kV : ∀ H, SqT K H aV (vars.map V.str)
  aC : Addr
  mC : mg "CONDITION_SIGNS" = some (.ref aC)
  kC : ∀ H, SqT K H aC (signs.map V.str)
  aA : Addr
  mA : mg "ASK_SIGNS" = some (.ref aA)
  kA : ∀ H, SqT K H aA (asks.map V.str)
  aK : Addr
  mK : mg "KINDS" = some (.ref aK)
  kK : ∀ H, SqT K H aK (kinds.map V.str)
  tG : Tok
  mG : mg "GREATEST_VALUE" = some (.int 15 tG)
  tL : Tok
  mL : mg "LONGEST_WAIT" = some (.int longest tL)
  tS : Tok
  mS : mg "MOST_STATEMENTS" = some (.int 24 tS)
  tD : Tok
  mD : mg "MOST_DEPTH" = some (.int 4 tD)

/-! ### promises -/
abbrev Lay (d : PyData) : Prop := d.canLay0 = true
def spInt (K : PySem.W.Frag) : Sp := fun vs H Q _ => ∃ (v : V) (d : PyData) (lo hi : Int), vs = [v, .int lo, .int hi] ∧ Dp K H v d ∧ Q (.bl (intIn d lo hi)) H
def spFrom (K : PySem.W.Frag) : Sp := fun vs H Q _ => ∃ (v : V) (d : PyData) (lo : Int), vs = [v, .int lo] ∧ Dp K H v d ∧ Q (.bl (intFrom d lo)) H
def sp1 (f : PyData → Bool) (K : PySem.W.Frag) : Sp := fun vs H Q _ => ∃ (v : V) (d : PyData), vs = [v] ∧ Dp K H v d ∧ Lay d ∧ Q (.bl (f d)) H
theorem dp_nd {K : PySem.W.Frag} {H : Hp} {v : V} {d : PyData} (h : Dp K H v d) : ∀ k, d ≠ .dict k := by
  intro k e
  subst e
  cases h
section
variable {P : Program} {w : World} {K : PySem.W.Frag} {mg : Str → Option Value} {base : Heap}
theorem scFrom : FnScope ["thing", "least"] ["thing", "least"] (defScope sFrom) := ⟨rfl, rfl, rfl, by decide +kernel, rfl, by decide +kernel, by decide +kernel⟩
theorem ok_from {f : Addr} {fd : FuncData} (F : Fun K "is_integer_from" "is_integer_from" sFrom f fd) (T : Gs K mg) : FnOk P w K mg base CX0 1 f fd ["thing", "least"] (spFrom K) := by
  refine F.ok scFrom (fun vs H Q E h => ?_) (fun cdv A outer s H vs Q E hr h => ?_)
  · obtain ⟨v, d, lo, rfl, _⟩ := h
    rfl
  obtain ⟨v, d, lo, rfl, hd, q⟩ := h
  refine ⟨_, pss_one (ps_ret (pe_and (pe_callB call_isi (by rfl) T.isi (by decide +kernel) (pa_cons (pv 0) (pa_cons (pe_bltn (v := .ty "int") (by rfl) T.int (by decide +kernel) rfl) pa_nil)))
    (pe_and (pe_not (pe_callB call_isi (by rfl) T.isi (by decide +kernel) (pa_cons (pv 0) (pa_cons (pe_bltn (v := .ty "bool") (by rfl) T.bool (by decide +kernel) rfl) pa_nil))))
      (pe_one (pe_cmpR op_le (pv 1) (pv 0) (by rfl)))))), ?_⟩
  refine ⟨_, rfl, v, .ty "int", _, _, _, rfl, .ty _, dp_ty hd, kit_isT d (by simp) (dp_nd hd), _, rfl, ?_⟩
  cases hd with
  | int i =>
    refine ite2 (fun _ => ?_) (fun c => absurd (by rfl) c)
    refine ⟨_, rfl, _, .ty "bool", _, _, _, rfl, .ty _, dp_ty (.int i), kit_isT (.int i) (by simp) (fun _ e => nomatch e), _, rfl, _, rfl, ?_⟩
    refine ite2 (fun _ => ?_) (fun c => absurd (by rfl) c)
    exact ⟨_, rfl, _, rfl, _, _, rfl, rfl, q⟩
  | bl b =>
    refine ite2 (fun _ => ?_) (fun c => absurd (by rfl) c)
    refine ⟨_, rfl, _, .ty "bool", _, _, _, rfl, .ty _, dp_ty (.bl b), kit_isT (.bool b) (by simp) (fun _ e => nomatch e), _, rfl, _, rfl, ?_⟩
    exact ite2 (fun c => absurd (show false = true from c) (by decide)) (fun _ => q)
  | non => exact ite2 (fun c => absurd (show false = true from c) (by decide)) (fun _ => q)
  | str x => exact ite2 (fun c => absurd (show false = true from c) (by decide)) (fun _ => q)
  | lst _ _ => exact ite2 (fun c => absurd (show false = true from c) (by decide)) (fun _ => q)
  | tup _ _ => exact ite2 (fun c => absurd (show false = true from c) (by decide)) (fun _ => q)
structure Cal (P : Program) (w : World) (K : PySem.W.Frag) (mg : Str → Option Value) (base : Heap) (k : Nat) (x : Str) (ps : List Str) (sp : Sp) where
  f : Addr
  fd : FuncData
  G : FnOk P w K mg base CX0 k f fd ps sp
  b : Binds K fd ps []
  kp : PySem.W.keepIn K (.ref f) = true
  m : mg x = some (.ref f)
theorem scInt : FnScope ["thing", "least", "greatest"] ["thing", "least", "greatest"] (defScope sInt) := ⟨rfl, rfl, rfl, by decide +kernel, rfl, by decide +kernel, by decide +kernel⟩
theorem ok_int {f : Addr} {fd : FuncData} (F : Fun K "is_integer_from_to" "is_integer_from_to" sInt f fd) (CF : Cal P w K mg base 1 "is_integer_from" ["thing", "least"] (spFrom K)) : FnOk P w K mg base CX0 2 f fd ["thing", "least", "greatest"] (spInt K) := by
  refine F.ok scInt (fun vs H Q E h => ?_) (fun cdv A outer s H vs Q E hr h => ?_)
  · obtain ⟨v, d, lo, hi, rfl, _⟩ := h
    rfl
  obtain ⟨v, d, lo, hi, rfl, hd, q⟩ := h
  refine ⟨_, pss_one (ps_ret (pe_and (pe_call CF.G hr rfl CF.m CF.kp CF.b .nil pass0 (pa_cons (pv 0) (pa_cons (pv 1) pa_nil))) (pe_one (pe_cmpR op_le (pv 0) (pv 2) (by rfl))))), ?_⟩
  refine ⟨_, rfl, _, rfl, v, d, lo, rfl, hd, _, rfl, ?_⟩
  cases hd with
  | int i =>
    by_cases h1 : lo ≤ i
    · have e : intIn (.int i) lo hi = decide (i ≤ hi) := by simp [intIn, h1]
      rw [e] at q
      refine ite2 (fun _ => ⟨_, rfl, _, rfl, _, _, rfl, rfl, q⟩) (fun c => absurd (show decide (lo ≤ i) = true from decide_eq_true h1) c)
    · have e : intIn (.int i) lo hi = false := by simp [intIn, h1]
      rw [e] at q
      have e2 : intFrom (.int i) lo = false := decide_eq_false h1
      rw [e2]
      exact iteF q
  | bl b => exact ite2 (fun c => absurd (show false = true from c) (by decide)) (fun _ => q)
  | non => exact ite2 (fun c => absurd (show false = true from c) (by decide)) (fun _ => q)
  | str x => exact ite2 (fun c => absurd (show false = true from c) (by decide)) (fun _ => q)
  | lst _ _ => exact ite2 (fun c => absurd (show false = true from c) (by decide)) (fun _ => q)
  | tup _ _ => exact ite2 (fun c => absurd (show false = true from c) (by decide)) (fun _ => q)
end
theorem hu65 {k : Nat} {A : Around} (hr : Room k A) : A.units + 65 < cLine := by have := hr.un; omega
theorem dp_tup_inv {K : PySem.W.Frag} {H : Hp} {v : V} {ds : List PyData} (h : Dp K H v (.tuple ds)) : ∃ a xs, v = .ref a ∧ SqT K H a xs ∧ DpAll K H xs ds := by
  cases h with
  | tup hs ha => exact ⟨_, _, rfl, hs, ha⟩
theorem dpAll_len {K : PySem.W.Frag} {H : Hp} : ∀ {xs : List V} {ds : List PyData}, DpAll K H xs ds → xs.length = ds.length
  | _, _, .nil => rfl
  | _, _, .cons _ t => by rw [List.length_cons, List.length_cons, dpAll_len t]
theorem dpAll_get {K : PySem.W.Frag} {H : Hp} : ∀ {xs : List V} {ds : List PyData} {i : Nat} {x : V}, DpAll K H xs ds → xs[i]? = some x → ∃ d, ds[i]? = some d ∧ Dp K H x d
  | _, _, 0, _, .cons h _, e => by
    cases e
    exact ⟨_, rfl, h⟩
  | _, _, i + 1, _, .cons _ t, e => dpAll_get (i := i) t e
theorem lay_mem : ∀ {ds : List PyData}, PyData.canLayAll0 ds = true → ∀ d ∈ ds, Lay d
  | x :: r, h, d, m => by
    simp only [PyData.canLayAll0, Bool.and_eq_true] at h
    rcases List.mem_cons.mp m with e | m
    · rw [e]; exact h.1
    · exact lay_mem h.2 d m
theorem lay_tup {ds : List PyData} (h : Lay (.tuple ds)) : PyData.canLayAll0 ds = true := by
  unfold Lay at h
  simpa only [PyData.canLay0] using h
theorem isT_tup {d : PyData} (h : isT d "tuple" = true) : ∃ ds, d = .tuple ds := by
  cases d with
  | tuple ds => exact ⟨ds, rfl⟩
  | _ => simp [isT, tyN] at h
theorem isT_str {d : PyData} (h : isT d "str" = true) : ∃ z, d = .str z := by
  cases d with
  | str ds => exact ⟨ds, rfl⟩
  | _ => simp [isT, tyN] at h
theorem same_new {H : Hp} {p : Addr} (h : H p = none) (o : HO) : Same H (upd H p o) := fun b u q => by rw [upd_ne (ne_of_none q h)]; exact q
theorem Same.tup {K : PySem.W.Frag} {H H' : Hp} {a : Addr} {xs : List V} (e : Same H H') (h : SqT K H a xs) : SqT K H' a xs := by
  rcases h with (h | ⟨o, h⟩) | h
  · exact .inl (.inl (e _ _ h))
  · exact .inl (.inr ⟨o, e _ _ h⟩)
  · exact .inr h
mutual
theorem dp_mono {K : PySem.W.Frag} {H H' : Hp} (e : Same H H') : ∀ (d : PyData) (v : V), Dp K H v d → Dp K H' v d
  | .none, _, h => by cases h; exact .non
  | .bool b, _, h => by cases h; exact .bl b
  | .int i, _, h => by cases h; exact .int i
  | .str x, _, h => by cases h; exact .str x
  | .list ds, _, h => by
    cases h with
    | lst hs ha => exact .lst (e.seq hs) (dpAll_mono e ds _ ha)
  | .tuple ds, _, h => by
    cases h with
    | tup hs ha => exact .tup (Same.tup e hs) (dpAll_mono e ds _ ha)
  | .dict _, _, h => by cases h
theorem dpAll_mono {K : PySem.W.Frag} {H H' : Hp} (e : Same H H') : ∀ (ds : List PyData) (vs : List V), DpAll K H vs ds → DpAll K H' vs ds
  | [], _, h => by cases h; exact .nil
  | d :: ds, _, h => by
    cases h with
    | cons hd ht => exact .cons (dp_mono e d _ hd) (dpAll_mono e ds _ ht)
end
def wordOf : PyData → Option Str
  | .tuple (.str z :: _) => some z
  | _ => none
def wV : Option Str → V
  | some z => .str z
  | none => .non
def spPart (K : PySem.W.Frag) : Sp := fun vs H Q _ => ∃ (v : V) (d : PyData) (r : Str), vs = [v, .str r] ∧ Dp K H v d ∧ Lay d ∧ Q (.bl (isPart d r)) H
def spWord (K : PySem.W.Frag) : Sp := fun vs H Q _ => ∃ (v : V) (d : PyData), vs = [v] ∧ Dp K H v d ∧ Q (wV (wordOf d)) H
section
variable {P : Program} {w : World} {K : PySem.W.Frag} {mg : Str → Option Value} {base : Heap}
theorem scTerm : FnScope ["thing"] ["thing"] (defScope sTerm) := ⟨rfl, rfl, rfl, by decide +kernel, rfl, by decide +kernel, by decide +kernel⟩
theorem ok_term {f : Addr} {fd : FuncData} (F : Fun K "is_term" "is_term" sTerm f fd) (T : Gs K mg) (CI : Cal P w K mg base 2 "is_integer_from_to" ["thing", "least", "greatest"] (spInt K)) :
    FnOk P w K mg base CX0 3 f fd ["thing"] (sp1 isTerm K) := by
  refine F.ok scTerm (fun vs H Q E h => ?_) (fun cdv A outer s H vs Q E hr h => ?_)
  · obtain ⟨v, d, rfl, _⟩ := h
    rfl
  obtain ⟨v, d, rfl, hd, ld, q⟩ := h
  refine ⟨_, pss_one (ps_ret (pe_or (pe_cmpR (op_inS (hu65 hr)) (pv 0) (pe_gref rfl T.mV) (by rfl)) (pe_one (pe_call CI.G hr rfl CI.m CI.kp CI.b .nil pass0 (pa_cons (pv 0) (pa_cons pe_int (pa_cons (pe_gint rfl T.mG) pa_nil))))))), ?_⟩
  refine ⟨_, rfl, d, vars, T.aV, rfl, hd, ld, T.kV _, by decide +kernel, _, rfl, ?_⟩
  refine ite2 (fun c => ?_) (fun c => ?_)
  · have e : isTerm d = true := by unfold isTerm; rw [show inS d vars = true from c]; rfl
    rw [e] at q
    exact q
  · refine ⟨_, rfl, v, d, 0, 15, rfl, hd, ?_⟩
    have e : isTerm d = intIn d 0 15 := by unfold isTerm; rw [show inS d vars = false from Bool.eq_false_iff.mpr c]; rfl
    rw [e] at q
    exact q
theorem scCond : FnScope ["thing", "variable", "sign", "term"] ["thing"] (defScope sCond) := ⟨rfl, rfl, rfl, by decide +kernel, rfl, by decide +kernel, by decide +kernel⟩
theorem ok_cond {f : Addr} {fd : FuncData} (F : Fun K "is_condition" "is_condition" sCond f fd) (T : Gs K mg) (CT : Cal P w K mg base 3 "is_term" ["thing"] (sp1 isTerm K)) :
    FnOk P w K mg base CX0 4 f fd ["thing"] (sp1 isCond K) := by
  refine F.ok scCond (fun vs H Q E h => ?_) (fun cdv A outer s H vs Q E hr h => ?_)
  · obtain ⟨v, d, rfl, _⟩ := h
    rfl
  obtain ⟨v, d, rfl, hd, ld, q⟩ := h
  refine ⟨_, pss_cons (ps_if (PW.pt (pw_or (pt_not (pt_val (pe_callB call_isi (by rfl) T.isi (by decide +kernel) (pa_cons (pv 0) (pa_cons (pe_bltn (v := .ty "tuple") (by rfl) T.tup (by decide +kernel) rfl) pa_nil)))))
      (pw_or1 (pt_cmpR op_ne (pe_callB call_len_seq (by rfl) T.len PySem.boot_len (pa_cons (pv 0) pa_nil)) pe_int (nomark _))))) (pss_one (ps_ret pe_bl)) pss_nil)
    (pss_cons (ps_asg (pv 0) (pg_tup (by rfl) (pgs_cons (pg_name (i := 1) scCond.nd rfl (.inl rfl)) (pgs_cons (pg_name (i := 2) scCond.nd rfl (.inl rfl)) (pgs_cons (pg_name (i := 3) scCond.nd rfl (.inl rfl)) pgs_nil)))))
    (pss_one (ps_ret (pe_and (pe_cmpR (op_inS (hu65 hr)) (pv 1) (pe_gref rfl T.mV) (by rfl)) (pe_and (pe_cmpR (op_inS (hu65 hr)) (pv 2) (pe_gref rfl T.mC) (by rfl))
      (pe_one (pe_call CT.G hr rfl CT.m CT.kp CT.b .nil pass0 (pa_cons (pv 3) pa_nil)))))))), ?_⟩
  refine ⟨_, rfl, v, .ty "tuple", _, _, _, rfl, .ty _, dp_ty hd, kit_isT d (by simp) (dp_nd hd), _, rfl, ?_⟩
  cases ht : isT d "tuple" with
  | false =>
    refine iteT (iteT ?_)
    have e : isCond d = false := by cases d <;> first | rfl | (simp [isT, tyN] at ht)
    rw [e] at q
    exact q
  | true =>
    obtain ⟨ds, rfl⟩ := isT_tup ht
    obtain ⟨a, xs, rfl, hs, ha⟩ := dp_tup_inv hd
    have hl := dpAll_len ha
    refine iteF ⟨_, rfl, a, xs, rfl, .inr hs, rfl, _, rfl, ?_⟩
    by_cases h3 : ds.length = 3
    · have c : V.int ((xs.length : Nat) : Int) = V.int 3 := by rw [hl, h3]; rfl
      refine iteNS c ?_
      cases ha with
      | nil => cases h3
      | cons h0 t1 =>
        cases t1 with
        | nil => cases h3
        | cons h1 t2 =>
          cases t2 with
          | nil => cases h3
          | cons h2 t3 =>
            cases t3 with
            | cons _ _ => simp at h3
            | nil =>
              rename_i x0 d0 x1 d1 x2 d2
              have lm := lay_mem (lay_tup ld)
              refine ⟨_, rfl, a, _, rfl, hs, rfl, _, _, rfl, _, _, rfl, _, _, rfl, rfl, ?_⟩
              refine ⟨_, rfl, d0, vars, T.aV, rfl, h0, lm _ (by simp), T.kV _, by decide +kernel, _, rfl, ?_⟩
              have e : isCond (.tuple [d0, d1, d2]) = (inS d0 vars && inS d1 signs && isTerm d2) := rfl
              rw [e] at q
              cases c1 : inS d0 vars with
              | false => rw [c1] at q; exact iteF q
              | true =>
                refine iteT ⟨_, rfl, d1, signs, T.aC, rfl, h1, lm _ (by simp), T.kC _, by decide +kernel, _, rfl, ?_⟩
                cases c2 : inS d1 signs with
                | false => rw [c1, c2] at q; exact iteF q
                | true =>
                  rw [c1, c2] at q
                  exact iteT ⟨_, rfl, _, d2, rfl, h2, lm _ (by simp), q⟩
    · refine ite2 (fun _ => ?_) (fun c => absurd ?_ c)
      · have e : isCond (.tuple ds) = false := by
          match ds, h3 with
          | [], _ => rfl
          | [_], _ => rfl
          | [_, _], _ => rfl
          | [_, _, _], h => exact absurd rfl h
          | _ :: _ :: _ :: _ :: _, _ => rfl
        rw [e] at q
        exact q
      · rw [Bool.not_eq_true', decide_eq_false_iff_not]
        intro z
        have z' : ((xs.length : Nat) : Int) = 3 := by injection z
        omega
end
section
variable {P : Program} {w : World} {K : PySem.W.Frag} {mg : Str → Option Value} {base : Heap}
theorem scPart : FnScope ["thing", "role"] ["thing", "role"] (defScope sPart) := ⟨rfl, rfl, rfl, by decide +kernel, rfl, by decide +kernel, by decide +kernel⟩
theorem ok_part {f : Addr} {fd : FuncData} (F : Fun K "is_part" "is_part" sPart f fd) (T : Gs K mg) (CI : Cal P w K mg base 2 "is_integer_from_to" ["thing", "least", "greatest"] (spInt K)) (CT : Cal P w K mg base 3 "is_term" ["thing"] (sp1 isTerm K)) :
    FnOk P w K mg base CX0 4 f fd ["thing", "role"] (spPart K) := by
  refine F.ok scPart (fun vs H Q E h => ?_) (fun cdv A outer s H vs Q E hr h => ?_)
  · obtain ⟨v, d, r, rfl, _⟩ := h
    rfl
  obtain ⟨v, d, r, rfl, hd, ld, q⟩ := h
  have hr1 : Room 2 _ := hr.mono (by decide)
  refine ⟨_, pss_cons (ps_if (pt_cmpR op_eq (pv 1) pe_str (nomark _)) (pss_one (ps_ret (pe_cmpR (op_inS (hu65 hr)) (pv 0) (pe_gref rfl T.mV) (by rfl)))) pss_nil)
    (pss_cons (ps_if (pt_cmpR op_eq (pv 1) pe_str (nomark _)) (pss_one (ps_ret (pe_call CT.G hr rfl CT.m CT.kp CT.b .nil pass0 (pa_cons (pv 0) pa_nil)))) pss_nil)
    (pss_cons (ps_if (pt_cmpR op_eq (pv 1) pe_str (nomark _)) (pss_one (ps_ret (pe_cmpR (op_inS (hu65 hr)) (pv 0) (pe_gref rfl T.mA) (by rfl)))) pss_nil)
    (pss_cons (ps_if (pt_cmpR op_eq (pv 1) pe_str (nomark _)) (pss_one (ps_ret (pe_call CI.G hr1 rfl CI.m CI.kp CI.b .nil pass0 (pa_cons (pv 0) (pa_cons pe_int (pa_cons (pe_gint rfl T.mL) pa_nil)))))) pss_nil)
    (pss_cons (ps_if (pt_cmpR op_eq (pv 1) pe_str (nomark _)) (pss_one (ps_ret (pe_call CI.G hr1 rfl CI.m CI.kp CI.b .nil pass0 (pa_cons (pv 0) (pa_cons pe_int (pa_cons pe_int pa_nil)))))) pss_nil)
    (pss_one (ps_ret (pe_call CI.G hr1 rfl CI.m CI.kp CI.b .nil pass0 (pa_cons (pv 0) (pa_cons pe_int (pa_cons (pe_gint rfl T.mG) pa_nil)))))))))), ?_⟩
  have ne : ∀ {z : Str}, ¬ decide (V.str r = V.str z) = true → ¬ r = z := fun c e => c (decide_eq_true (by rw [e]))
  have eq : ∀ {z : Str}, decide (V.str r = V.str z) = true → r = z := fun c => by
    have c' := of_decide_eq_true c
    injection c'
  unfold isPart at q
  refine ⟨_, rfl, rfl, _, rfl, ite2 (fun c => ?_) (fun c => ?_)⟩
  · rw [if_pos (eq c)] at q
    exact ⟨_, rfl, d, vars, T.aV, rfl, hd, ld, T.kV _, by decide +kernel, q⟩
  rw [if_neg (ne c)] at q
  refine ⟨_, rfl, rfl, _, rfl, ite2 (fun c => ?_) (fun c => ?_)⟩
  · rw [if_pos (eq c)] at q
    exact ⟨_, rfl, v, d, rfl, hd, ld, q⟩
  rw [if_neg (ne c)] at q
  refine ⟨_, rfl, rfl, _, rfl, ite2 (fun c => ?_) (fun c => ?_)⟩
  · rw [if_pos (eq c)] at q
    exact ⟨_, rfl, d, asks, T.aA, rfl, hd, ld, T.kA _, by decide +kernel, q⟩
  rw [if_neg (ne c)] at q
  refine ⟨_, rfl, rfl, _, rfl, ite2 (fun c => ?_) (fun c => ?_)⟩
  · rw [if_pos (eq c)] at q
    exact ⟨_, rfl, v, d, _, _, rfl, hd, q⟩
  rw [if_neg (ne c)] at q
  refine ⟨_, rfl, rfl, _, rfl, ite2 (fun c => ?_) (fun c => ?_)⟩
  · rw [if_pos (eq c)] at q
    exact ⟨_, rfl, v, d, _, _, rfl, hd, q⟩
  rw [if_neg (ne c)] at q
  exact ⟨_, rfl, v, d, _, _, rfl, hd, q⟩
theorem scWord : FnScope ["thing"] ["thing"] (defScope sWord) := ⟨rfl, rfl, rfl, by decide +kernel, rfl, by decide +kernel, by decide +kernel⟩
theorem ok_word {f : Addr} {fd : FuncData} (F : Fun K "word_of" "word_of" sWord f fd) (T : Gs K mg) : FnOk P w K mg base CX0 1 f fd ["thing"] (spWord K) := by
  refine F.ok scWord (fun vs H Q E h => ?_) (fun cdv A outer s H vs Q E hr h => ?_)
  · obtain ⟨v, d, rfl, _⟩ := h
    rfl
  obtain ⟨v, d, rfl, hd, q⟩ := h
  refine ⟨_, pss_cons (ps_if (PW.pt (pw_and (pt_val (pe_callB call_isi (by rfl) T.isi (by decide +kernel) (pa_cons (pv 0) (pa_cons (pe_bltn (v := .ty "tuple") (by rfl) T.tup (by decide +kernel) rfl) pa_nil))))
      (pw_and (pt_cmpR op_gt (pe_callB call_len_seq (by rfl) T.len PySem.boot_len (pa_cons (pv 0) pa_nil)) pe_int (nomark _))
      (pw_and1 (pt_val (pe_callB call_isi (by rfl) T.isi (by decide +kernel) (pa_cons (pe_ix ix_tup (pv 0) pe_int (fun _ _ => rfl)) (pa_cons (pe_bltn (v := .ty "str") (by rfl) T.str (by decide +kernel) rfl) pa_nil))))))))
      (pss_one (ps_ret (pe_ix ix_tup (pv 0) pe_int (fun _ _ => rfl)))) pss_nil) (pss_one (ps_ret pe_non)), ?_⟩
  refine ⟨_, rfl, v, .ty "tuple", _, _, _, rfl, .ty _, dp_ty hd, kit_isT d (by simp) (dp_nd hd), _, rfl, ?_⟩
  cases ht : isT d "tuple" with
  | false =>
    refine iteF (iteF ?_)
    have e : wordOf d = none := by cases d <;> first | rfl | (simp [isT, tyN] at ht)
    rw [e] at q
    exact q
  | true =>
    obtain ⟨ds, rfl⟩ := isT_tup ht
    obtain ⟨a, xs, rfl, hs, ha⟩ := dp_tup_inv hd
    refine iteT ⟨_, rfl, a, xs, rfl, .inr hs, _, _, rfl, rfl, _, rfl, ?_⟩
    cases ha with
    | nil => exact iteF (iteF q)
    | cons h0 t =>
      rename_i x0 xr d0 dr
      have c : decide ((0 : Int) < (((x0 :: xr).length : Nat) : Int)) = true := decide_eq_true (by rw [List.length_cons]; omega)
      rw [c]
      refine iteT ⟨_, rfl, a, _, _, _, rfl, rfl, hs, atI_nat (j := 0) rfl, x0, .ty "str", _, _, _, rfl, .ty _, dp_ty h0, kit_isT d0 (by simp) (dp_nd h0), _, rfl, ?_⟩
      cases hz : isT d0 "str" with
      | false =>
        refine iteF ?_
        have e : wordOf (.tuple (d0 :: dr)) = none := by cases d0 <;> first | rfl | (simp [isT, tyN] at hz)
        rw [e] at q
        exact q
      | true =>
        obtain ⟨z, rfl⟩ := isT_str hz
        cases h0
        exact iteT ⟨_, rfl, a, _, _, _, rfl, rfl, hs, atI_nat (j := 0) rfl, q⟩
end
end My

namespace My
open PySem L2 PyProof.Rows
/-! ### a written dict with text keys, asked by a text or by None -/
inductive Ents : List DictEntry → List (Str × V) → Prop
  | nil : Ents [] []
  | cons {h : Int} {x : Str} {t : Tok} {u : Value} {v : V} {r : List DictEntry} {rs : List (Str × V)} : RelV v u → Ents r rs → Ents (⟨h, .str x t, u⟩ :: r) ((x, v) :: rs)
def lookT (tab : List (Str × V)) (z : Str) : Option V := (tab.find? fun p => p.1 == z).map (·.2)
theorem ents_find : ∀ {l : List DictEntry} {tab : List (Str × V)}, Ents l tab → ∀ z : Str,
    (∃ (e : DictEntry) (v : V), l.find? (fun d => d.key.isStr z) = some e ∧ lookT tab z = some v ∧ RelV v e.val) ∨ (l.find? (fun d => d.key.isStr z) = none ∧ lookT tab z = none)
  | _, _, .nil, z => .inr ⟨rfl, rfl⟩
  | _, _, .cons (x := x) (h := h) (t := t) (u := u) (v := v) (r := l0) (rs := rs) rv r, z => by
    have ih := ents_find r z
    by_cases c : (x == z) = true
    · refine .inl ⟨⟨h, .str x t, u⟩, v, ?_, ?_, rv⟩
      · rw [List.find?_cons_of_pos]
        exact c
      · unfold lookT
        rw [List.find?_cons_of_pos (by exact c)]
        rfl
    · have c1 : List.find? (fun d : DictEntry => d.key.isStr z) (⟨h, .str x t, u⟩ :: l0) = l0.find? (fun d : DictEntry => d.key.isStr z) := List.find?_cons_of_neg (by exact c)
      have c2 : lookT ((x, v) :: rs) z = lookT rs z := by
        unfold lookT
        rw [List.find?_cons_of_neg (by exact c)]
      rw [c2]
      rcases ih with ⟨e, v', h1, h2, h3⟩ | ⟨h1, h2⟩
      · exact .inl ⟨e, v', c1.trans h1, h2, h3⟩
      · exact .inr ⟨c1.trans h1, h2⟩
structure KTab (K : PySem.W.Frag) (w : World) (d : Addr) (tab : List (Str × V)) : Prop where
  ex : ∃ es n, K.lookup d = some ⟨.type "dict", none, .dict es n, #[]⟩ ∧ PySem.W.KeysLit w.params es.toList ∧ Ents es.toList tab
  low : (d == sysModules) = false
theorem findBy_tab {es : Array DictEntry} {tab : List (Str × V)} (E : Ents es.toList tab) (z : Str) :
    (∃ u v, findBy Value.isStrOf es z = some u ∧ lookT tab z = some v ∧ RelV v u) ∨ (findBy Value.isStrOf es z = none ∧ lookT tab z = none) := by
  obtain ⟨l⟩ := es
  have q : (fun d : DictEntry => Value.isStrOf z d.key) = fun d => d.key.isStr z := funext fun d => (PySem.W.isStr_of z d.key).symm
  unfold findBy
  rw [List.find?_toArray, q]
  rcases ents_find E z with ⟨e, v, h1, h2, h3⟩ | ⟨h1, h2⟩
  · exact .inl ⟨e.val, v, by rw [show List.find? (fun d : DictEntry => d.key.isStr z) l = some e from h1]; rfl, h2, h3⟩
  · exact .inr ⟨by rw [show List.find? (fun d : DictEntry => d.key.isStr z) l = none from h1]; rfl, h2⟩
theorem none_mapK {P : Program} {w : World} {K : PySem.W.Frag} {h : Heap} {a : Addr} {es : Array DictEntry} {n : Nat} (X : K.In h) (hl : K.lookup a = some ⟨.type "dict", none, .dict es n, #[]⟩) (hk : PySem.W.KeysLit w.params es.toList) :
    ∃ f, h.MapOf (noneKind P w) a f ∧ f none = none := by
  refine ⟨fun k => findBy (noneKind P w).is es k, ⟨_, es, n, X _ _ hl, ⟨rfl, rfl, rfl⟩, rfl, fun e he => ?_, fun k => rfl⟩, ?_⟩
  · obtain ⟨x, t, e1, e2⟩ := hk.all e (Array.mem_toList_iff.mpr he)
    refine ⟨some (.inr x), ?_, e2⟩
    rw [e1]
    exact strKind_is P w x t
  · have q : (es.find? fun e => nkIs none e.key) = none := by
      rw [Array.find?_eq_none]
      intro e he hq
      obtain ⟨x, t, e1, _⟩ := hk.all e (Array.mem_toList_iff.mpr he)
      rw [e1] at hq
      exact nomatch (show false = true from hq)
    show (es.find? fun e => nkIs none e.key).map (·.val) = none
    rw [q] <;> rfl
def getT (tab : List (Str × V)) (wd : Option Str) : Option V := wd.bind (lookT tab)
section
variable {X : Cx}
def rInK (K : PySem.W.Frag) (w : World) (neg : Bool) : R2 := fun x y H Q => ∃ (d : Addr) (tab : List (Str × V)) (wd : Option Str), y = .ref d ∧ KTab K w d tab ∧ x = wV wd ∧ Q (.bl (if neg then !(getT tab wd).isSome else (getT tab wd).isSome)) H
theorem op_inK : OpR X (compareOp .In) (rInK X.K X.w false) := by
  intro pins s σ H x y v u Q I rx ry h
  obtain ⟨d, tab, wd, rfl, ⟨⟨es, n, hl, hk, he⟩, low⟩, rfl, q⟩ := h
  cases ry
  cases wd with
  | none =>
    cases rx
    obtain ⟨f, hm, hf⟩ := none_mapK (P := X.prog) (w := X.w) I.kIn hl hk
    refine wpAny_in_of (show (noneKind X.prog X.w).is none .none = true from rfl) low hm ?_
    rw [hf]
    exact ⟨.bl _, H, I.tok _, rfl, q⟩
  | some z =>
    obtain ⟨t, rfl⟩ := rx
    refine wpAny_in_of (PySem.strKind_is X.prog X.w z t) low (PySem.W.mapOf_K (prog := X.prog) I.kIn hl hk) ?_
    rcases findBy_tab he z with ⟨u, v, h1, h2, h3⟩ | ⟨h1, h2⟩
    · rw [h1]
      refine ⟨.bl true, H, I.tok _, rfl, ?_⟩
      have e : (getT tab (some z)).isSome = true := by show (lookT tab z).isSome = true; rw [h2]; rfl
      rw [e] at q
      exact q
    · rw [h1]
      refine ⟨.bl false, H, I.tok _, rfl, ?_⟩
      have e : (getT tab (some z)).isSome = false := by show (lookT tab z).isSome = false; rw [h2]; rfl
      rw [e] at q
      exact q
theorem ktab_ix {K : PySem.W.Frag} {w : World} {d : Addr} {tab : List (Str × V)} {z : Str} {v : V} (T : KTab K w d tab) (h : lookT tab z = some v) : KDct K w d z v := by
  obtain ⟨⟨es, n, hl, hk, he⟩, low⟩ := T
  rcases ents_find he z with ⟨e, v', h1, h2, h3⟩ | ⟨h1, h2⟩
  · rw [h] at h2
    cases h2
    refine ⟨es, n, e.val, hl, hk, ?_, h3⟩
    unfold PySem.W.nsIn
    rw [hl]
    dsimp only
    rw [h1]
  · rw [h] at h2
    cases h2
def tGetK (K : PySem.W.Frag) (w : World) (to : TE) (t : TA) : TE := fun σ H Q => to σ H fun x H1 => ∃ (d : Addr) (tab : List (Str × V)), x = .ref d ∧ KTab K w d tab ∧ t σ H1 fun ys H2 => ∃ wd : Option Str, ys = [wV wd] ∧ Q ((getT tab wd).getD .non) H2
variable {o e : Expr} {es : List Expr} {to : TE} {t : TA} {apos cpos : Pos}
theorem pe_getK (ho : PE X o to) (ha : PA X [e] t)
    (hbase : attributeBase o "get" X.env (eval o X.env) = eval o X.env := by rfl)
    (hfew : ((backTo cpos (starEach [e] X.env)).all (fun x => !x.1) && (backToKw cpos (keywordEach [] X.env)).all (fun x => x.1.isSome)
      && decide ([e].length + ([] : List Keyword).length + (if ([] : List Keyword).isEmpty then 0 else 1) < 30)) = true := by rfl)
    (hline : (apos.endLine == cpos.line) = true := by rfl) (hs : starEach [e] X.env = (false, eval e X.env) :: starEach [] X.env := by rfl) (hplain : (backTo cpos (starEach [] X.env)).any (·.1) = false := by rfl) :
    PE X (.Call (.Attribute o "get" apos) [e] [] cpos) (tGetK X.K X.w to t) := by
  refine ⟨fun pins s σ H Q I h => ?_⟩
  refine wpAny_Call_method_late hbase hfew hline rfl (thn (ho.run pins s σ H _ I h) fun v s1 ⟨x, H1, I1, r1, d, tab, ex, KT, q1⟩ => ?_)
  obtain ⟨⟨es, n, hl, hk, he⟩, low⟩ := KT
  subst ex
  obtain rfl : v = Value.ref d := r1
  have hm0 := PySem.W.mapOf_K (prog := X.prog) (w := X.w) I1.kIn hl hk
  refine ⟨"dict", "dict.get", PySem.F.plainAttrs_dict, PySem.F.slot_dict_get, PySem.F.type_dict_get, hm0.typeIs, fun a e2 => ?_, ?_⟩
  · cases e2
    exact ⟨_, I1.kIn _ _ hl, rfl⟩
  have hA := ha.run cpos pins s1 σ H1 _ I1 q1
  rw [hs] at hA ⊢
  refine Calls.callWith_builtin (by show (false || (backTo cpos (starEach [] X.env)).any (·.1)) = false; rw [hplain] <;> rfl) (Calls.evalArgs_plain ?_)
  refine thn hA fun us s2 ⟨vs, H2, I2, r2, wd, ev, q2⟩ => ?_
  subst ev
  obtain ⟨u, rfl, ru⟩ := Vals.one r2
  have hm := PySem.W.mapOf_K (prog := X.prog) (w := X.w) I2.kIn hl hk
  cases wd with
  | none =>
    cases ru
    obtain ⟨f, hmn, hf⟩ := none_mapK (P := X.prog) (w := X.w) I2.kIn hl hk
    refine call_meetsIn PySem.F.slot_dict_get hm.typeIs PySem.F.entry_dict_get (PySem.F.args_dict_get_2 _ _) (meets_dict_get (noneKind X.prog X.w) d (show (noneKind X.prog X.w).is none .none = true from rfl) low) ⟨f, hmn, ?_⟩
    rw [hf]
    exact ⟨.non, H2, I2.tok _, rfl, q2⟩
  | some z =>
    obtain ⟨t, rfl⟩ := ru
    refine call_meetsIn PySem.F.slot_dict_get hm.typeIs PySem.F.entry_dict_get (PySem.F.args_dict_get_2 _ _) (meets_dict_get (strKind X.prog X.w) d (PySem.strKind_is X.prog X.w z t) low) ⟨_, hm, ?_⟩
    rcases findBy_tab he z with ⟨u, v, h1, h2, h3⟩ | ⟨h1, h2⟩
    · rw [h1]
      have e : getT tab (some z) = some v := h2
      rw [e] at q2
      exact ⟨v, H2, I2.tok _, h3, q2⟩
    · rw [h1]
      have e : getT tab (some z) = none := h2
      rw [e] at q2
      exact ⟨.non, H2, I2.tok _, rfl, q2⟩
end
theorem lookT_eq {x : Str} {v : V} {r : List (Str × V)} : lookT ((x, v) :: r) x = some v := by
  unfold lookT
  rw [List.find?_cons_of_pos (by exact beq_self_eq_true x)]
  rfl
theorem lookT_ne {x z : Str} {v : V} {r : List (Str × V)} (h : ¬ z = x) : lookT ((x, v) :: r) z = lookT r z := by
  unfold lookT
  rw [List.find?_cons_of_neg (by intro c; exact h (eq_of_beq (show (x == z) = true from c)).symm)]
structure Gd (K : PySem.W.Frag) (w : World) (mg : Str → Option Value) where
  aB : Addr
  mB : mg "BODIES" = some (.ref aB)
  tB : KTab K w aB [("if", .int 2), ("while", .int 1)]
  aS : Addr
  r1 : Addr
  r2 : Addr
  r3 : Addr
  mS : mg "SHARED_ROLES" = some (.ref aS)
  tS : KTab K w aS [("set", .ref r1), ("add", .ref r2), ("wait", .ref r3)]
  k1 : ∀ H, SqT K H r1 ((["variable", "value"] : List Str).map V.str)
  k2 : ∀ H, SqT K H r2 ((["variable", "term"] : List Str).map V.str)
  k3 : ∀ H, SqT K H r3 ((["steps"] : List Str).map V.str)
  aT : Addr
  r4 : Addr
  r5 : Addr
  mT : mg "TELLER_ROLES" = some (.ref aT)
  tT : KTab K w aT [("ask", .ref r4), ("answer", .ref r5)]
  k4 : ∀ H, SqT K H r4 ((["sign", "term", "variable"] : List Str).map V.str)
  k5 : ∀ H, SqT K H r5 ((["answer"] : List Str).map V.str)
  aC : Addr
  r6 : Addr
  r7 : Addr
  mC : mg "COLLECTOR_ROLES" = some (.ref aC)
  tC : KTab K w aC [("grow", .ref r6), ("list", .ref r7)]
  k6 : ∀ H, SqT K H r6 ((["term"] : List Str).map V.str)
  k7 : ∀ H, SqT K H r7 ((["term"] : List Str).map V.str)
def rolesZ (z kind : Str) : Option (List Str) :=
  if z = "set" then some ["variable", "value"] else if z = "add" then some ["variable", "term"] else if z = "wait" then some ["steps"]
  else if kind = "teller" then (if z = "ask" then some ["sign", "term", "variable"] else if z = "answer" then some ["answer"] else none)
  else (if z = "grow" then some ["term"] else if z = "list" then some ["term"] else none)
def rolesOf (wd : Option Str) (kind : Str) : Option (List Str) := wd.bind fun z => rolesZ z kind
def allParts (ps : List PyData) (rs : List Str) : Bool := ((ps.zip rs).map fun p => isPart p.1 p.2).all id
def isPlain (d : PyData) (kind : Str) : Bool := match d with
  | .tuple (.str z :: ps) => (match rolesZ z kind with
    | some rs => decide (ps.length = rs.length) && allParts ps rs
    | none => false)
  | _ => false
def cond3 : List PyData → Bool
  | [c, _, _] => isCond c
  | _ => false
def cond2 : List PyData → Bool
  | [c, _] => isCond c
  | _ => false
/-- a statement, whatever its bodies are -/
def isOut (d : PyData) (kind : Str) : Bool := match d with
  | .tuple (.str z :: ps) => if z = "if" then cond3 ps else if z = "while" then cond2 ps else isPlain d kind
  | _ => false
def bodsOf (d : PyData) : List PyData := match d with
  | .tuple (.str z :: ps) => if z = "if" ∨ z = "while" then ps.drop 1 else []
  | _ => []
def spRoles (K : PySem.W.Frag) : Sp := fun vs H Q _ => ∃ (wd : Option Str) (kind : Str), vs = [wV wd, .str kind] ∧ (rolesOf wd kind = none → Q .non H) ∧
  (∀ rs a, rolesOf wd kind = some rs → (∀ H, SqT K H a (rs.map V.str)) → Q (.ref a) H)
def sp2 (f : PyData → Str → Bool) (K : PySem.W.Frag) : Sp := fun vs H Q _ => ∃ (v : V) (d : PyData) (kind : Str), vs = [v, .str kind] ∧ Dp K H v d ∧ Lay d ∧ ∀ H', Same H H' → Q (.bl (f d kind)) H'
section
variable {P : Program} {w : World} {K : PySem.W.Frag} {mg : Str → Option Value} {base : Heap}
theorem scRoles : FnScope ["word", "kind"] ["word", "kind"] (defScope sRoles) := ⟨rfl, rfl, rfl, by decide +kernel, rfl, by decide +kernel, by decide +kernel⟩
theorem ok_roles {f : Addr} {fd : FuncData} (F : Fun K "roles_of" "roles_of" sRoles f fd) (D : Gd K w mg) : FnOk P w K mg base CX0 1 f fd ["word", "kind"] (spRoles K) := by
  refine F.ok scRoles (fun vs H Q E h => ?_) (fun cdv A outer s H vs Q E hr h => ?_)
  · obtain ⟨wd, kind, rfl, _⟩ := h
    rfl
  obtain ⟨wd, kind, rfl, q0, q1⟩ := h
  refine ⟨_, pss_cons (ps_if (pt_cmpR op_inK (pv 0) (pe_gref rfl D.mS) (by rfl)) (pss_one (ps_ret (pe_ix ix_kdict (pe_gref rfl D.mS) (pv 0) (fun _ _ => rfl)))) pss_nil)
    (pss_cons (ps_if (pt_cmpR op_eq (pv 1) pe_str (nomark _)) (pss_one (ps_ret (pe_getK (pe_gref rfl D.mT) (pa_cons (pv 0) pa_nil)))) pss_nil)
    (pss_one (ps_ret (pe_getK (pe_gref rfl D.mC) (pa_cons (pv 0) pa_nil))))), ?_⟩
  refine ⟨_, rfl, D.aS, _, wd, rfl, D.tS, rfl, _, rfl, ?_⟩
  have keq : ∀ {z : Str}, decide (V.str kind = V.str z) = true → kind = z := fun c => by
    have c' := of_decide_eq_true c
    injection c'
  have kne : ∀ {z : Str}, ¬ decide (V.str kind = V.str z) = true → ¬ kind = z := fun c e => c (decide_eq_true (by rw [e]))
  cases wd with
  | none =>
    refine iteF ?_
    refine ⟨_, rfl, rfl, _, rfl, ite2 (fun c => ?_) (fun c => ?_)⟩
    · exact ⟨D.aT, _, rfl, D.tT, _, rfl, none, rfl, q0 rfl⟩
    · exact ⟨D.aC, _, rfl, D.tC, _, rfl, none, rfl, q0 rfl⟩
  | some z =>
    have eG : ∀ tab, getT tab (some z) = lookT tab z := fun _ => rfl
    rw [eG]
    have eR : rolesOf (some z) kind = rolesZ z kind := rfl
    rw [eR] at q0
    have q1' : ∀ rs a, rolesZ z kind = some rs → (∀ H, SqT K H a (rs.map V.str)) → Q (.ref a) H := q1
    unfold rolesZ at q0 q1'
    by_cases c1 : z = "set"
    · subst c1
      rw [lookT_eq]
      exact iteT ⟨_, rfl, D.aS, _, _, rfl, rfl, ktab_ix D.tS lookT_eq, q1' _ _ (if_pos rfl) D.k1⟩
    rw [lookT_ne c1]
    rw [if_neg c1] at q0 q1'
    by_cases c2 : z = "add"
    · subst c2
      rw [lookT_eq]
      exact iteT ⟨_, rfl, D.aS, _, _, rfl, rfl, ktab_ix D.tS (by rw [lookT_ne c1, lookT_eq]), q1' _ _ (if_pos rfl) D.k2⟩
    rw [lookT_ne c2]
    rw [if_neg c2] at q0 q1'
    by_cases c3 : z = "wait"
    · subst c3
      rw [lookT_eq]
      exact iteT ⟨_, rfl, D.aS, _, _, rfl, rfl, ktab_ix D.tS (by rw [lookT_ne c1, lookT_ne c2, lookT_eq]), q1' _ _ (if_pos rfl) D.k3⟩
    rw [lookT_ne c3]
    rw [if_neg c3] at q0 q1'
    refine iteF ?_
    refine ⟨_, rfl, rfl, _, rfl, ite2 (fun c => ?_) (fun c => ?_)⟩
    · rw [if_pos (keq c)] at q0 q1'
      refine ⟨D.aT, _, rfl, D.tT, _, rfl, some z, rfl, ?_⟩
      rw [eG]
      by_cases c4 : z = "ask"
      · subst c4
        rw [lookT_eq]
        exact q1' _ _ (if_pos rfl) D.k4
      rw [lookT_ne c4]
      rw [if_neg c4] at q0 q1'
      by_cases c5 : z = "answer"
      · subst c5
        rw [lookT_eq]
        exact q1' _ _ (if_pos rfl) D.k5
      rw [lookT_ne c5]
      rw [if_neg c5] at q0 q1'
      exact q0 rfl
    · rw [if_neg (kne c)] at q0 q1'
      refine ⟨D.aC, _, rfl, D.tC, _, rfl, some z, rfl, ?_⟩
      rw [eG]
      by_cases c4 : z = "grow"
      · subst c4
        rw [lookT_eq]
        exact q1' _ _ (if_pos rfl) D.k6
      rw [lookT_ne c4]
      rw [if_neg c4] at q0 q1'
      by_cases c5 : z = "list"
      · subst c5
        rw [lookT_eq]
        exact q1' _ _ (if_pos rfl) D.k7
      rw [lookT_ne c5]
      rw [if_neg c5] at q0 q1'
      exact q0 rfl
end
/-! ### a comprehension over zip of two tuples -/
theorem lc_zipT {K : PySem.W.Frag} {a b : Addr} {xs ys : List V} {g : TG} {tt : TT} {te : TE} {vs : List Nat} {σ : L2.St} {H1 : Hp} {D : Addr} {Qd : Hp → Prop} (hl : xs.length = ys.length) (Pv : Nat → Hp → Prop) (h0 : Pv 0 (upd H1 D (.lst []))) (hq : ∀ i H, Pv i H → SqT K H a xs ∧ SqT K H b ys)
    (hs : ∀ i x y T H, xs[i]? = some x → ys[i]? = some y → Pv i H → H T = none → g (.ref T) (wipe σ vs) (upd H T (.tup [x, y])) fun σ2 H2 => wipe σ2 vs = wipe σ vs ∧ tt σ2 H2 fun b H3 =>
      if b = true then te σ2 H3 fun y H4 => ∃ acc, H4 D = some (.lst acc) ∧ acc.length < sizeLine ∧ Pv (i + 1) (upd H4 D (.lst (acc ++ [y]))) else Pv (i + 1) H3) (hd : ∀ H, Pv xs.length H → Qd H) :
    ∃ W : Nat → Nat → Hp → Prop, (∃ m, W 0 m (upd H1 D (.lst []))) ∧ ∀ i m H, W i m H →
      ((RZ.ItzT K a b).stop i H ∧ Qd H) ∨ ((RZ.ItzT K a b).go i H ∧ ∃ Nx : Hp → Prop, (∀ H', Nx H' → ∃ m', m' < m ∧ W (i + 1) m' H') ∧ ∀ x H', (RZ.ItzT K a b).yld i H x H' → g x (wipe σ vs) H' fun σ2 H2 => wipe σ2 vs = wipe σ vs ∧ tt σ2 H2 fun b H3 =>
        if b = true then te σ2 H3 fun y H4 => ∃ acc, H4 D = some (.lst acc) ∧ acc.length < sizeLine ∧ Nx (upd H4 D (.lst (acc ++ [y]))) else Nx H3) := by
  refine ⟨fun i m H => m = xs.length - i ∧ i ≤ xs.length ∧ Pv i H, ⟨xs.length, by simp, Nat.zero_le _, h0⟩, ?_⟩
  rintro i m H ⟨rfl, hi, p⟩
  obtain ⟨q1, q2⟩ := hq i H p
  by_cases hlt : i < xs.length
  · have hlt2 : i < ys.length := by omega
    refine .inr ⟨⟨xs, ys, xs[i], ys[i], q1, q2, by simp [hlt], by simp [hlt2]⟩, Pv (i + 1), fun H' p' => ⟨xs.length - (i + 1), by omega, rfl, hlt, p'⟩, fun v H' y => ?_⟩
    obtain ⟨T, x, y, rfl, hT, rfl, hx, hy⟩ := y
    exact hs i x y T H (hx xs q1) (hy ys q2) p hT
  · have e : i = xs.length := by omega
    subst e
    exact .inl ⟨⟨xs, ys, q1, q2, .inl (Nat.le_refl _)⟩, hd H p⟩
theorem same_upd {H H' : Hp} {D : Addr} (e : Same H H') (n : H D = none) (o : HO) : Same H (upd H' D o) := fun b u q => by
  rw [upd_ne (ne_of_none q n)]
  exact e _ _ q
def partsB (ps : List PyData) (rs : List Str) : List Bool := (ps.zip rs).map fun p => isPart p.1 p.2
theorem word_inv {d : PyData} {z : Str} (h : wordOf d = some z) : ∃ ps, d = .tuple (.str z :: ps) := by
  match d, h with
  | .tuple (.str x :: ps), h => cases h; exact ⟨ps, rfl⟩
theorem plain_none {d : PyData} {kind : Str} (h : rolesOf (wordOf d) kind = none) : isPlain d kind = false := by
  match d, h with
  | .tuple (.str x :: ps), h =>
    have h' : rolesZ x kind = none := h
    show (match rolesZ x kind with | some rs => decide (ps.length = rs.length) && allParts ps rs | none => false) = false
    rw [h']
  | .tuple [], _ => rfl
  | .tuple (.none :: _), _ => rfl
  | .tuple (.bool _ :: _), _ => rfl
  | .tuple (.int _ :: _), _ => rfl
  | .tuple (.list _ :: _), _ => rfl
  | .tuple (.tuple _ :: _), _ => rfl
  | .tuple (.dict _ :: _), _ => rfl
  | .none, _ => rfl
  | .bool _, _ => rfl
  | .int _, _ => rfl
  | .str _, _ => rfl
  | .list _, _ => rfl
  | .dict _, _ => rfl
theorem plain_some {z kind : Str} {ps : List PyData} {rs : List Str} (h : rolesZ z kind = some rs) : isPlain (.tuple (.str z :: ps)) kind = (decide (ps.length = rs.length) && allParts ps rs) := by
  show (match rolesZ z kind with | some rs => decide (ps.length = rs.length) && allParts ps rs | none => false) = _
  rw [h]
theorem roles_short {z kind : Str} {rs : List Str} (h : rolesZ z kind = some rs) : rs.length ≤ 3 := by
  unfold rolesZ at h
  repeat' split at h
  all_goals first | (cases h; decide) | (cases h)
theorem cut1 (x : V) (xs : List V) : cutV (x :: xs) (some 1) none = xs := by
  have e : HT.sIx (x :: xs).length 0 (some 1) = 1 := by
    have := HT.sIx_nat (x :: xs).length 0 1
    rw [show ((1 : Nat) : Int) = 1 from rfl] at this
    rw [this, List.length_cons]
    omega
  unfold cutV
  rw [e, HT.sIx_none]
  simp
theorem not_whole1 (x : V) (xs : List V) : ¬ (HT.sIx (x :: xs).length 0 (some 1) = 0 ∧ HT.sIx (x :: xs).length (x :: xs).length none = (x :: xs).length) := by
  intro h
  have e : HT.sIx (x :: xs).length 0 (some 1) = 1 := by
    have := HT.sIx_nat (x :: xs).length 0 1
    rw [show ((1 : Nat) : Int) = 1 from rfl] at this
    rw [this, List.length_cons]
    omega
  rw [e] at h
  exact absurd h.1 (by decide)
section
variable {P : Program} {w : World} {K : PySem.W.Frag} {mg : Str → Option Value} {base : Heap}
theorem scPlain : FnScope ["thing", "kind", "roles", "part", "role"] ["thing", "kind"] (defScope sPlain) := ⟨rfl, rfl, rfl, by decide +kernel, rfl, by decide +kernel, by decide +kernel⟩
theorem ok_plain {f : Addr} {fd : FuncData} (F : Fun K "is_plain_statement" "is_plain_statement" sPlain f fd) (T : Gs K mg) (CW : Cal P w K mg base 1 "word_of" ["thing"] (spWord K)) (CR : Cal P w K mg base 1 "roles_of" ["word", "kind"] (spRoles K))
    (CP : Cal P w K mg base 4 "is_part" ["thing", "role"] (spPart K)) : FnOk P w K mg base CX0 5 f fd ["thing", "kind"] (sp2 isPlain K) := by
  refine F.ok scPlain (fun vs H Q E h => ?_) (fun cdv A outer s H vs Q E hr h => ?_)
  · obtain ⟨v, d, kind, rfl, _⟩ := h
    rfl
  obtain ⟨v, d, kind, rfl, hd, ld, q⟩ := h
  have hr1 : Room 1 _ := hr.mono (by decide)
  refine ⟨_, pss_cons (ps_set (i := 2) scPlain.nd rfl (.inl rfl) (pe_call CR.G hr1 rfl CR.m CR.kp CR.b .nil pass0 (pa_cons (pe_call CW.G hr1 rfl CW.m CW.kp CW.b .nil pass0 (pa_cons (pv 0) pa_nil)) (pa_cons (pv 1) pa_nil))))
    (pss_cons (ps_if (PW.pt (pw_or (pt_cmpR op_isN (pv 2) pe_non (nomark _)) (pw_or1 (pt_cmpR op_ne (pe_callB call_len_seq (by rfl) T.len PySem.boot_len (pa_cons (pv 0) pa_nil)) (pe_op op_add pe_int (pe_callB call_len_seq (by rfl) T.len PySem.boot_len (pa_cons (pv 2) pa_nil))) (nomark _)))))
      (pss_one (ps_ret pe_bl)) pss_nil)
    (pss_one (ps_ret (pe_callB (cr_all rfl) (by rfl) T.all (by decide +kernel) (pa_cons
      (pe_lc (own := [("part", 3), ("role", 4)]) (g := gTup K 2 (gCons (gName 3) (gCons (gName 4) gNil))) (tt := tYes) rfl scPlain.nd
        (RZ.pi_zipA (by rfl) T.zip (pa_cons (pe_slice sl_tup (pv 0) (po_some pe_int) po_none) (pa_cons (pv 2) pa_nil)))
        (blkOk_by (N := ["thing", "kind", "roles", "part", "role"]) (sc := defScope sPlain) (by decide +kernel))
        (fun _ _ _ _ _ => pg_tup (by rfl) (pgs_cons (pg_name (i := 3) scPlain.nd rfl (.inl rfl)) (pgs_cons (pg_name (i := 4) scPlain.nd rfl (.inl rfl)) pgs_nil)))
        (fun _ _ _ _ _ => pts_nil)
        (fun _ _ _ _ _ => pe_call CP.G hr rfl CP.m CP.kp CP.b .nil pass0 (pa_cons (pv 3) (pa_cons (pv 4) pa_nil)))) pa_nil))))), ?_⟩
  refine ⟨_, rfl, v, d, rfl, hd, _, rfl, wordOf d, kind, rfl, fun hn => ?_, fun rs a hs ka => ?_⟩
  · rw [plain_none hn] at q
    exact ⟨_, rfl, rfl, _, rfl, ite2 (fun _ => iteT (q H (Same.refl H))) (fun c => absurd (decide_eq_true rfl) c)⟩
  · refine ⟨_, rfl, rfl, _, rfl, ite2 (fun c => nomatch (of_decide_eq_true c)) (fun _ => ?_)⟩
    cases hw : wordOf d with
    | none => rw [hw] at hs; cases hs
    | some z =>
      obtain ⟨ps, rfl⟩ := word_inv hw
      have hs' : rolesZ z kind = some rs := by rw [hw] at hs; exact hs
      have h3 := roles_short hs'
      rw [plain_some hs'] at q
      obtain ⟨a0, xs, rfl, h0, ha⟩ := dp_tup_inv hd
      cases ha with
      | cons hz hp =>
        rename_i x0 xr
        have hl := dpAll_len hp
        refine ⟨_, rfl, a0, _, rfl, .inr h0, _, rfl, a, _, rfl, .inr (ka _), _, _, rfl, rfl, rfl, _, rfl, ?_⟩
        by_cases c : ps.length = rs.length
        · have c' : V.int (((x0 :: xr).length : Nat) : Int) = V.int (1 + ((rs.map V.str).length : Nat)) := by
            rw [List.length_cons, List.length_map, hl, c]
            congr 1
            omega
          refine iteNS c' ?_
          rw [decide_eq_true c, Bool.true_and] at q
          refine ⟨_, rfl, _, rfl, a0, _, rfl, h0, not_whole1 _ _, fun p np => ⟨_, rfl, p, a, _, _, rfl, .inr ⟨SqT.of upd_same, ka _, fun D nD => ?_⟩⟩⟩
          rw [cut1] at nD ⊢
          have g1 : Same H (upd H p (.tup xr)) := same_new np _
          refine lc_zipT (K := K) (a := p) (b := a) (xs := xr) (ys := rs.map V.str) (by rw [List.length_map]; omega)
            (fun i H' => Same (upd H p (.tup xr)) H' ∧ H' D = some (.lst (((partsB ps rs).take i).map V.bl))) ⟨same_upd (Same.refl _) nD _, upd_same⟩
            (fun i H' P => ⟨SqT.of (P.1 _ _ upd_same), ka _⟩) ?_ ?_
          · rintro i x y T H' hx hy ⟨s1, eD⟩ nT
            obtain ⟨di, hdi, hxd⟩ := dpAll_get hp hx
            rw [List.getElem?_map] at hy
            cases hri : rs[i]? with
            | none => rw [hri] at hy; cases hy
            | some ri =>
              rw [hri] at hy
              cases hy
              have sT : Same H' (upd H' T (.tup [x, V.str ri])) := same_new nT _
              have nDT : D ≠ T := ne_of_none eD nT
              refine ⟨T, _, rfl, SqT.of upd_same, rfl, _, _, rfl, _, _, rfl, rfl, rfl, ?_⟩
              refine ⟨_, rfl, _, rfl, x, di, ri, rfl, dp_mono (g1.trans (s1.trans sT)) _ _ hxd, ?_, _, sT _ _ eD, ?_, ?_, ?_⟩
              · exact lay_mem (lay_tup ld) _ (List.mem_cons_of_mem _ (List.mem_of_getElem? hdi))
              · rw [List.length_map, List.length_take, partsB, List.length_map, List.length_zip]
                exact Nat.lt_of_le_of_lt (by omega : _ ≤ 1000) (by decide)
              · exact same_upd (s1.trans sT) nD _
              · rw [upd_same]
                congr 2
                have hz : (ps.zip rs)[i]? = some (di, ri) := by rw [List.getElem?_zip_eq_some]; exact ⟨hdi, hri⟩
                have hm : (partsB ps rs)[i]? = some (isPart di ri) := by rw [partsB, List.getElem?_map, hz]; rfl
                have hil : i < (partsB ps rs).length := (List.getElem?_eq_some_iff.mp hm).1
                rw [← List.take_append_getElem hil, List.map_append]
                congr 1
                rw [(List.getElem?_eq_some_iff.mp hm).2]
                rfl
          · rintro H' ⟨s1, eD⟩
            refine ⟨D, partsB ps rs, rfl, SqL.of ?_, q _ (g1.trans s1)⟩
            rw [eD, List.take_of_length_le]
            rw [partsB, List.length_map, List.length_zip]
            omega
        · rw [decide_eq_false c, Bool.false_and] at q
          refine ite2 (fun _ => q H (Same.refl H)) (fun c2 => absurd ?_ c2)
          rw [Bool.not_eq_true', decide_eq_false_iff_not]
          intro z
          have z' : (((x0 :: xr).length : Nat) : Int) = 1 + ((rs.map V.str).length : Nat) := by injection z
          rw [List.length_cons, List.length_map] at z'
          omega
end
theorem out_none {d : PyData} {kind : Str} (h : wordOf d = none) : isOut d kind = isPlain d kind := by
  match d, h with
  | .tuple [], _ => rfl
  | .tuple (.none :: _), _ => rfl
  | .tuple (.bool _ :: _), _ => rfl
  | .tuple (.int _ :: _), _ => rfl
  | .tuple (.list _ :: _), _ => rfl
  | .tuple (.tuple _ :: _), _ => rfl
  | .tuple (.dict _ :: _), _ => rfl
  | .none, _ => rfl
  | .bool _, _ => rfl
  | .int _, _ => rfl
  | .str _, _ => rfl
  | .list _, _ => rfl
  | .dict _, _ => rfl
theorem if_while : ¬ (("while" : Str) = "if") := by decide +kernel
theorem out_if {kind : Str} {ps : List PyData} : isOut (.tuple (.str "if" :: ps)) kind = cond3 ps := by
  simp [isOut]
theorem out_while {kind : Str} {ps : List PyData} : isOut (.tuple (.str "while" :: ps)) kind = cond2 ps := by
  simp [isOut, if_while]
theorem out_else {z kind : Str} {ps : List PyData} (h1 : ¬ z = "if") (h2 : ¬ z = "while") : isOut (.tuple (.str z :: ps)) kind = isPlain (.tuple (.str z :: ps)) kind := by
  show (if z = "if" then _ else if z = "while" then _ else _) = _
  rw [if_neg h1, if_neg h2]
theorem cut2 (xs : List V) : cutV xs (some 2) none = xs.drop 2 := by
  have e := HT.sIx_nat xs.length 0 2
  rw [show ((2 : Nat) : Int) = 2 from rfl] at e
  unfold cutV
  rw [e, HT.sIx_none]
  by_cases h : 2 ≤ xs.length
  · rw [Nat.min_eq_left h, List.take_of_length_le (by rw [List.length_drop]; omega)]
  · rw [Nat.min_eq_right (by omega), List.drop_of_length_le (Nat.le_refl _), List.drop_of_length_le (by omega)]
    simp
theorem not_whole2 {xs : List V} (h : 0 < xs.length) : ¬ (HT.sIx xs.length 0 (some 2) = 0 ∧ HT.sIx xs.length xs.length none = xs.length) := by
  intro c
  have e := HT.sIx_nat xs.length 0 2
  rw [show ((2 : Nat) : Int) = 2 from rfl] at e
  rw [e] at c
  omega
theorem dpAll_drop {K : PySem.W.Frag} {H : Hp} : ∀ (n : Nat) {xs : List V} {ds : List PyData}, DpAll K H xs ds → DpAll K H (xs.drop n) (ds.drop n)
  | 0, _, _, h => h
  | n + 1, _, _, .nil => .nil
  | n + 1, _, _, .cons _ t => dpAll_drop n t
def spBods (K : PySem.W.Frag) : Sp := fun vs H Q _ => ∃ (v : V) (z : Str) (ps : List PyData) (H0 : Hp), vs = [v] ∧ Same H0 H ∧ Dp K H0 v (.tuple (.str z :: ps)) ∧
  ∀ H' b ys, Same H H' → SqT K H' b ys → DpAll K H0 ys (bodsOf (.tuple (.str z :: ps))) → Q (.ref b) H'
section
variable {P : Program} {w : World} {K : PySem.W.Frag} {mg : Str → Option Value} {base : Heap}
theorem scOut : FnScope ["thing", "kind", "word"] ["thing", "kind"] (defScope sOut) := ⟨rfl, rfl, rfl, by decide +kernel, rfl, by decide +kernel, by decide +kernel⟩
theorem ok_out {f : Addr} {fd : FuncData} (F : Fun K "is_outside_of_statement" "is_outside_of_statement" sOut f fd) (T : Gs K mg) (D : Gd K w mg) (CW : Cal P w K mg base 1 "word_of" ["thing"] (spWord K))
    (CC : Cal P w K mg base 4 "is_condition" ["thing"] (sp1 isCond K)) (CP : Cal P w K mg base 5 "is_plain_statement" ["thing", "kind"] (sp2 isPlain K)) : FnOk P w K mg base CX0 6 f fd ["thing", "kind"] (sp2 isOut K) := by
  refine F.ok scOut (fun vs H Q E h => ?_) (fun cdv A outer s H vs Q E hr h => ?_)
  · obtain ⟨v, d, kind, rfl, _⟩ := h
    rfl
  obtain ⟨v, d, kind, rfl, hd, ld, q⟩ := h
  have hr1 : Room 1 _ := hr.mono (by decide)
  have hr3 : Room 4 _ := hr.mono (by decide)
  refine ⟨_, pss_cons (ps_set (i := 2) scOut.nd rfl (.inl rfl) (pe_call CW.G hr1 rfl CW.m CW.kp CW.b .nil pass0 (pa_cons (pv 0) pa_nil)))
    (pss_cons (ps_if (pt_cmpR op_inK (pv 2) (pe_gref rfl D.mB) (by rfl))
      (pss_one (ps_ret (pe_and (pe_cmpR op_eq (pe_callB call_len_seq (by rfl) T.len PySem.boot_len (pa_cons (pv 0) pa_nil)) (pe_op op_add pe_int (pe_ix ix_kdict (pe_gref rfl D.mB) (pv 2) (fun _ _ => rfl))) (nomark _))
        (pe_one (pe_call CC.G hr3 rfl CC.m CC.kp CC.b .nil pass0 (pa_cons (pe_ix ix_tup (pv 0) pe_int (fun _ _ => rfl)) pa_nil)))))) pss_nil)
    (pss_one (ps_ret (pe_call CP.G hr rfl CP.m CP.kp CP.b .nil pass0 (pa_cons (pv 0) (pa_cons (pv 1) pa_nil)))))), ?_⟩
  refine ⟨_, rfl, v, d, rfl, hd, _, rfl, D.aB, _, wordOf d, rfl, D.tB, rfl, _, rfl, ?_⟩
  cases hw : wordOf d with
  | none =>
    rw [out_none hw] at q
    exact iteF ⟨_, rfl, _, rfl, v, d, kind, rfl, hd, ld, q⟩
  | some z =>
    obtain ⟨ps, rfl⟩ := word_inv hw
    have eG : ∀ tab, getT tab (some z) = lookT tab z := fun _ => rfl
    rw [eG]
    obtain ⟨a0, xs, rfl, h0, ha⟩ := dp_tup_inv hd
    have hl := dpAll_len ha
    have lm := lay_mem (lay_tup ld)
    by_cases c1 : z = "if"
    · subst c1
      rw [lookT_eq]
      refine iteT ⟨_, rfl, a0, _, rfl, .inr h0, _, rfl, D.aB, _, _, rfl, rfl, ktab_ix D.tB lookT_eq, _, _, rfl, rfl, rfl, _, rfl, ?_⟩
      rw [out_if] at q
      by_cases c : xs.length = 4
      · rw [decide_eq_true (show V.int ((xs.length : Nat) : Int) = V.int (2 + 2) by rw [c]; rfl)]
        have c3 : ps.length = 3 := by rw [List.length_cons] at hl; omega
        match ps, c3, q, ha, lm with
        | [c0, b1, b2], _, q, .cons hz (.cons hc _), lm =>
          exact iteT ⟨_, rfl, a0, _, _, _, rfl, rfl, h0, atI_nat (j := 1) rfl, _, c0, rfl, hc, lm _ (by simp), q H (Same.refl H)⟩
      · rw [decide_eq_false (show ¬ V.int ((xs.length : Nat) : Int) = V.int (2 + 2) from fun e => c (by injection e; omega))]
        refine iteF ?_
        have c3 : ¬ ps.length = 3 := by rw [List.length_cons] at hl; omega
        match ps, c3, q with
        | [], _, q => exact q H (Same.refl H)
        | [_], _, q => exact q H (Same.refl H)
        | [_, _], _, q => exact q H (Same.refl H)
        | [_, _, _], c3, _ => exact absurd rfl c3
        | _ :: _ :: _ :: _ :: _, _, q => exact q H (Same.refl H)
    rw [lookT_ne c1]
    by_cases c2 : z = "while"
    · subst c2
      rw [lookT_eq]
      refine iteT ⟨_, rfl, a0, _, rfl, .inr h0, _, rfl, D.aB, _, _, rfl, rfl, ktab_ix D.tB (by rw [lookT_ne c1, lookT_eq]), _, _, rfl, rfl, rfl, _, rfl, ?_⟩
      rw [out_while] at q
      by_cases c : xs.length = 3
      · rw [decide_eq_true (show V.int ((xs.length : Nat) : Int) = V.int (2 + 1) by rw [c]; rfl)]
        have c3 : ps.length = 2 := by rw [List.length_cons] at hl; omega
        match ps, c3, q, ha, lm with
        | [c0, b1], _, q, .cons hz (.cons hc _), lm =>
          exact iteT ⟨_, rfl, a0, _, _, _, rfl, rfl, h0, atI_nat (j := 1) rfl, _, c0, rfl, hc, lm _ (by simp), q H (Same.refl H)⟩
      · rw [decide_eq_false (show ¬ V.int ((xs.length : Nat) : Int) = V.int (2 + 1) from fun e => c (by injection e; omega))]
        refine iteF ?_
        have c3 : ¬ ps.length = 2 := by rw [List.length_cons] at hl; omega
        match ps, c3, q with
        | [], _, q => exact q H (Same.refl H)
        | [_], _, q => exact q H (Same.refl H)
        | [_, _], c3, _ => exact absurd rfl c3
        | _ :: _ :: _ :: _, _, q => exact q H (Same.refl H)
    rw [lookT_ne c2]
    rw [out_else c1 c2] at q
    exact iteF ⟨_, rfl, _, rfl, _, _, kind, rfl, hd, ld, q⟩
theorem scBodies : FnScope ["statement"] ["statement"] (defScope sBodies) := ⟨rfl, rfl, rfl, by decide +kernel, rfl, by decide +kernel, by decide +kernel⟩
theorem ok_bodies {f : Addr} {fd : FuncData} (F : Fun K "bodies_of" "bodies_of" sBodies f fd) (T : Gs K mg) (D : Gd K w mg) : FnOk P w K mg base CX0 1 f fd ["statement"] (spBods K) := by
  refine F.ok scBodies (fun vs H Q E h => ?_) (fun cdv A outer s H vs Q E hr h => ?_)
  · obtain ⟨v, z, ps, H0, rfl, _⟩ := h
    rfl
  obtain ⟨v, z, ps, H0, rfl, s0, hd, q⟩ := h
  obtain ⟨a0, xs, rfl, h0', ha⟩ := dp_tup_inv hd
  have h0 : SqT K H a0 xs := Same.tup s0 h0'
  refine ⟨_, pss_one (ps_ret (pe_ifExp (pt_cmpR op_inK (pe_ix ix_tup (pv 0) pe_int (fun _ _ => rfl)) (pe_gref rfl D.mB) (by rfl)) (pe_slice sl_tup (pv 0) (po_some pe_int) po_none) (pe_tup pa_nil))), ?_⟩
  cases ha with
  | cons hz hp =>
    cases hz
    rename_i xr
    have eB : bodsOf (.tuple (.str z :: ps)) = if z = "if" ∨ z = "while" then ps.drop 1 else [] := rfl
    refine ⟨_, rfl, a0, _, _, _, rfl, rfl, h0, atI_nat (j := 0) rfl, D.aB, _, some z, rfl, D.tB, rfl, _, rfl, ?_⟩
    have eG : ∀ tab, getT tab (some z) = lookT tab z := fun _ => rfl
    rw [eG]
    rw [eB] at q
    by_cases c : z = "if" ∨ z = "while"
    · have e : (lookT [(("if" : Str), V.int 2), ("while", V.int 1)] z).isSome = true := by
        rcases c with rfl | rfl
        · rw [lookT_eq]; rfl
        · rw [lookT_ne if_while, lookT_eq]; rfl
      rw [if_pos c] at q
      refine ite2 (fun _ => ?_) (fun c2 => absurd e c2)
      refine ⟨_, rfl, _, rfl, a0, _, rfl, h0, not_whole2 (by rw [List.length_cons]; omega), fun p np => ?_⟩
      rw [cut2]
      exact q _ p _ (same_new np _) (SqT.of upd_same) (dpAll_drop 1 hp)
    · rw [if_neg c] at q
      have e : (lookT [(("if" : Str), V.int 2), ("while", V.int 1)] z).isSome = false := by
        rw [lookT_ne (fun e => c (.inl e)), lookT_ne (fun e => c (.inr e))]
        rfl
      refine ite2 (fun c2 => ?_) (fun _ => ⟨by show 0 ≤ sizeLine; decide, fun p np => ?_⟩)
      · have c3 : (lookT [(("if" : Str), V.int 2), ("while", V.int 1)] z).isSome = true := c2
        rw [e] at c3
        cases c3
      · exact q _ p _ (same_new np _) (SqT.of upd_same) .nil
end
/-! ### counting statements -/
def addO : Option Nat → Option Nat → Option Nat
  | some a, some b => some (a + b)
  | _, _ => none
def sumO : List (Option Nat) → Option Nat
  | [] => some 0
  | x :: r => addO x (sumO r)
theorem addO_none (x : Option Nat) : addO x none = none := by cases x <;> rfl
theorem none_addO (x : Option Nat) : addO none x = none := by cases x <;> rfl
theorem addO_assoc (x y z : Option Nat) : addO (addO x y) z = addO x (addO y z) := by
  cases x <;> cases y <;> cases z <;> simp [addO, Nat.add_assoc]
theorem addO_comm (x y : Option Nat) : addO x y = addO y x := by
  cases x <;> cases y <;> simp [addO, Nat.add_comm]
theorem zero_addO (x : Option Nat) : addO (some 0) x = x := by cases x <;> simp [addO]
theorem addO_zero (x : Option Nat) : addO x (some 0) = x := by cases x <;> simp [addO]
theorem sumO_append (xs ys : List (Option Nat)) : sumO (xs ++ ys) = addO (sumO xs) (sumO ys) := by
  induction xs with
  | nil => exact (zero_addO _).symm
  | cons x r ih => rw [List.cons_append]; simp only [sumO]; rw [ih, addO_assoc]
def bodyN (kind : Str) : Nat → PyData → Option Nat
  | 0, .tuple [] => some 0
  | 0, _ => none
  | r + 1, .tuple ss => sumO (ss.map fun s => if isOut s kind = true then addO (some 1) (sumO ((bodsOf s).map (bodyN kind r))) else none)
  | _ + 1, _ => none
def stN (kind : Str) (r : Nat) (s : PyData) : Option Nat := if isOut s kind = true then addO (some 1) (sumO ((bodsOf s).map (bodyN kind r))) else none
theorem bodyN_tup (kind : Str) (r : Nat) (ss : List PyData) : bodyN kind (r + 1) (.tuple ss) = sumO (ss.map (stN kind r)) := by
  simp only [bodyN]
  rfl
def okN (many : Nat) : Option Nat → Bool
  | some n => decide (many + n ≤ 24)
  | none => false
def isProg (d : PyData) : Bool := match d with
  | .tuple [.str k, b] => inS (.str k) kinds && okN 0 (bodyN k 4 b)
  | _ => false
def tot (kind : Str) (stk : List (PyData × Nat)) : Option Nat := sumO (stk.map fun p => bodyN kind (5 - p.2) p.1)
def good (kind : Str) (many : Nat) (stk : List (PyData × Nat)) : Bool := okN many (tot kind stk)
theorem tot_append (kind : Str) (a b : List (PyData × Nat)) : tot kind (a ++ b) = addO (tot kind a) (tot kind b) := by
  unfold tot
  rw [List.map_append, sumO_append]
theorem tot_one (kind : Str) (p : PyData × Nat) : tot kind [p] = bodyN kind (5 - p.2) p.1 := by
  unfold tot
  simp only [List.map_cons, List.map_nil, sumO, addO_zero]
theorem okN_none (m : Nat) : okN m none = false := rfl
theorem okN_add (m k : Nat) (x : Option Nat) : okN m (addO (some k) x) = okN (m + k) x := by
  cases x with
  | none => rfl
  | some n => simp only [addO, okN]; congr 1; rw [Nat.add_assoc]
theorem bodyN_no (kind : Str) (r : Nat) {d : PyData} (h : isT d "tuple" = false) : bodyN kind r d = none := by
  cases d <;> first | (cases r <;> rfl) | (simp [isT, tyN] at h)
theorem stN_ge {kind : Str} {r n : Nat} {s : PyData} (h : stN kind r s = some n) : 1 ≤ n := by
  unfold stN at h
  split at h
  · cases e : sumO ((bodsOf s).map (bodyN kind r)) with
    | none => rw [e] at h; cases h
    | some m =>
      rw [e] at h
      have : 1 + m = n := by injection h
      omega
  · cases h
theorem sumO_ge {kind : Str} {r : Nat} : ∀ {ss : List PyData} {n : Nat}, sumO (ss.map (stN kind r)) = some n → ss.length ≤ n
  | [], _, _ => Nat.zero_le _
  | s :: t, n, h => by
    simp only [List.map_cons, sumO] at h
    cases e1 : stN kind r s with
    | none => rw [e1, none_addO] at h; cases h
    | some a =>
      cases e2 : sumO (t.map (stN kind r)) with
      | none => rw [e2, addO_none] at h; cases h
      | some b =>
        rw [e1, e2] at h
        have e : a + b = n := by injection h
        have h1 := stN_ge e1
        have h2 := sumO_ge e2
        rw [List.length_cons]
        omega
/-- too many, or too deep -/
theorem good_over {kind : Str} {many dep : Nat} {st : List (PyData × Nat)} {ss : List PyData} (h : 24 < many + ss.length ∨ (0 < ss.length ∧ 4 < dep)) : good kind many (st ++ [(.tuple ss, dep)]) = false := by
  unfold good
  rw [tot_append, tot_one]
  show okN many (addO (tot kind st) (bodyN kind (5 - dep) (.tuple ss))) = false
  cases e : bodyN kind (5 - dep) (.tuple ss) with
  | none => rw [addO_none]; rfl
  | some n =>
    cases e1 : tot kind st with
    | none => rfl
    | some a =>
      show decide (many + (a + n) ≤ 24) = false
      rw [decide_eq_false_iff_not]
      cases hr : 5 - dep with
      | zero =>
        rw [hr] at e
        cases ss with
        | nil => rcases h with h | ⟨h, _⟩
                 · simp at h; omega
                 · simp at h
        | cons s t => simp [bodyN] at e
      | succ r =>
        rw [hr, bodyN_tup] at e
        have g := sumO_ge e
        rcases h with h | ⟨_, h⟩
        · omega
        · omega
theorem good_no {kind : Str} {many dep : Nat} {st : List (PyData × Nat)} {d : PyData} (h : isT d "tuple" = false) : good kind many (st ++ [(d, dep)]) = false := by
  unfold good
  rw [tot_append, tot_one]
  show okN many (addO (tot kind st) (bodyN kind (5 - dep) d)) = false
  rw [bodyN_no kind _ h, addO_none]
  rfl
theorem sumO_none {kind : Str} {r : Nat} {s : PyData} (h : isOut s kind = false) : ∀ {ss : List PyData}, s ∈ ss → sumO (ss.map (stN kind r)) = none
  | x :: t, m => by
    simp only [List.map_cons, sumO]
    rcases List.mem_cons.mp m with e | m
    · subst e
      have e : stN kind r s = none := by unfold stN; rw [if_neg (by rw [h]; decide)]
      rw [e, none_addO]
    · rw [sumO_none h m, addO_none]
theorem good_bad {kind : Str} {many dep : Nat} {st : List (PyData × Nat)} {ss : List PyData} {s : PyData} (h : isOut s kind = false) (m : s ∈ ss) : good kind many (st ++ [(.tuple ss, dep)]) = false := by
  unfold good
  rw [tot_append, tot_one]
  show okN many (addO (tot kind st) (bodyN kind (5 - dep) (.tuple ss))) = false
  have e : bodyN kind (5 - dep) (.tuple ss) = none := by
    cases 5 - dep with
    | zero =>
      cases ss with
      | nil => cases m
      | cons _ _ => rfl
    | succ r => rw [bodyN_tup, sumO_none h m]
  rw [e, addO_none]
  rfl
def pushes (dep : Nat) (ss : List PyData) : List (PyData × Nat) := ss.flatMap fun s => (bodsOf s).map fun b => (b, dep + 1)
theorem sumO_all {kind : Str} {r dep : Nat} (hr : 5 - (dep + 1) = r) : ∀ {ss : List PyData}, (∀ s ∈ ss, isOut s kind = true) → sumO (ss.map (stN kind r)) = addO (some ss.length) (tot kind (pushes dep ss))
  | [], _ => rfl
  | s :: t, h => by
    have ih := sumO_all hr (ss := t) (fun x m => h x (List.mem_cons_of_mem _ m))
    simp only [List.map_cons, sumO]
    rw [ih]
    have e : stN kind r s = addO (some 1) (sumO ((bodsOf s).map (bodyN kind r))) := by unfold stN; rw [if_pos (h s (by simp))]
    have e2 : tot kind (pushes dep (s :: t)) = addO (sumO ((bodsOf s).map (bodyN kind r))) (tot kind (pushes dep t)) := by
      unfold pushes
      rw [List.flatMap_cons, tot_append]
      congr 1
      unfold tot
      rw [List.map_map]
      congr 2
      funext b
      show bodyN kind (5 - (dep + 1)) b = _
      rw [hr]
    rw [e, e2]
    cases sumO ((bodsOf s).map (bodyN kind r)) with
    | none => simp [addO, none_addO]
    | some a =>
      cases tot kind (pushes dep t) with
      | none => simp [addO]
      | some b => simp only [addO, List.length_cons]; congr 1; omega
theorem good_step {kind : Str} {many dep : Nat} {st : List (PyData × Nat)} {ss : List PyData} (hd : dep ≤ 5) (h4 : 0 < ss.length → dep ≤ 4) (h : ∀ s ∈ ss, isOut s kind = true) :
    good kind (many + ss.length) (st ++ pushes dep ss) = good kind many (st ++ [(.tuple ss, dep)]) := by
  unfold good
  rw [tot_append, tot_append, tot_one]
  show _ = okN many (addO (tot kind st) (bodyN kind (5 - dep) (.tuple ss)))
  have e : bodyN kind (5 - dep) (.tuple ss) = addO (some ss.length) (tot kind (pushes dep ss)) := by
    by_cases c : dep ≤ 4
    · have e1 : 5 - dep = (5 - (dep + 1)) + 1 := by omega
      rw [e1, bodyN_tup, sumO_all (dep := dep) rfl h]
    · have z : ss = [] := by
        cases ss with
        | nil => rfl
        | cons _ _ => exact absurd (h4 (by simp)) c
      subst z
      have e1 : 5 - dep = 0 := by omega
      rw [e1]
      rfl
  rw [e, ← addO_assoc, addO_comm (tot kind st) (some ss.length), addO_assoc, okN_add]
/-! ### a measure -/
mutual
def sz : PyData → Nat
  | .tuple xs => 1 + szAll xs
  | .list xs => 1 + szAll xs
  | .none | .bool _ | .int _ | .str _ | .dict _ => 1
def szAll : List PyData → Nat
  | [] => 0
  | x :: xs => sz x + szAll xs
end
def tsz : List (PyData × Nat) → Nat
  | [] => 0
  | p :: r => sz p.1 + tsz r
theorem tsz_append : ∀ a b : List (PyData × Nat), tsz (a ++ b) = tsz a + tsz b
  | [], b => by simp [tsz]
  | x :: r, b => by rw [List.cons_append]; simp only [tsz]; rw [tsz_append r b]; omega
theorem tsz_map (dep : Nat) : ∀ bs : List PyData, tsz (bs.map fun b => (b, dep)) = szAll bs
  | [] => rfl
  | x :: r => by simp only [List.map_cons, tsz, szAll]; rw [tsz_map dep r]
theorem szAll_drop : ∀ (n : Nat) (bs : List PyData), szAll (bs.drop n) ≤ szAll bs
  | 0, bs => Nat.le_refl _
  | n + 1, [] => Nat.le_refl _
  | n + 1, x :: r => by
    rw [List.drop_succ_cons]
    have := szAll_drop n r
    simp only [szAll]
    omega
theorem bods_sz (s : PyData) : szAll (bodsOf s) ≤ sz s := by
  match s with
  | .tuple (.str z :: ps) =>
    show szAll (if z = "if" ∨ z = "while" then ps.drop 1 else []) ≤ _
    simp only [sz, szAll]
    split
    · have := szAll_drop 1 ps
      omega
    · simp [szAll]
  | .tuple [] => exact Nat.zero_le _
  | .tuple (.none :: _) => exact Nat.zero_le _
  | .tuple (.bool _ :: _) => exact Nat.zero_le _
  | .tuple (.int _ :: _) => exact Nat.zero_le _
  | .tuple (.list _ :: _) => exact Nat.zero_le _
  | .tuple (.tuple _ :: _) => exact Nat.zero_le _
  | .tuple (.dict _ :: _) => exact Nat.zero_le _
  | .none => exact Nat.zero_le _
  | .bool _ => exact Nat.zero_le _
  | .int _ => exact Nat.zero_le _
  | .str _ => exact Nat.zero_le _
  | .list _ => exact Nat.zero_le _
  | .dict _ => exact Nat.zero_le _
theorem pushes_sz (dep : Nat) : ∀ ss : List PyData, tsz (pushes dep ss) ≤ szAll ss
  | [] => Nat.le_refl _
  | s :: t => by
    have e : pushes dep (s :: t) = (bodsOf s).map (fun b => (b, dep + 1)) ++ pushes dep t := by unfold pushes; rw [List.flatMap_cons]
    rw [e, tsz_append, tsz_map]
    have h1 := bods_sz s
    have h2 := pushes_sz dep t
    simp only [szAll]
    omega
theorem out_word {s : PyData} {kind : Str} (h : isOut s kind = true) : ∃ z ps, s = .tuple (.str z :: ps) := by
  cases hw : wordOf s with
  | some z => obtain ⟨ps, e⟩ := word_inv hw; exact ⟨z, ps, e⟩
  | none =>
    rw [out_none hw] at h
    have : rolesOf (wordOf s) kind = none := by rw [hw]; rfl
    rw [plain_none this] at h
    cases h
theorem bods_short {s : PyData} {kind : Str} (h : isOut s kind = true) : (bodsOf s).length ≤ 2 := by
  obtain ⟨z, ps, rfl⟩ := out_word h
  show (if z = "if" ∨ z = "while" then ps.drop 1 else []).length ≤ 2
  split
  · rename_i c
    rcases c with rfl | rfl
    · rw [out_if] at h
      match ps, h with
      | [_, _, _], _ => simp
    · rw [out_while] at h
      match ps, h with
      | [_, _], _ => simp
  · decide
theorem pushes_len {kind : Str} (dep : Nat) : ∀ {ss : List PyData}, (∀ s ∈ ss, isOut s kind = true) → (pushes dep ss).length ≤ 2 * ss.length
  | [], _ => Nat.le_refl _
  | s :: t, h => by
    have e : pushes dep (s :: t) = (bodsOf s).map (fun b => (b, dep + 1)) ++ pushes dep t := by unfold pushes; rw [List.flatMap_cons]
    rw [e, List.length_append, List.length_map, List.length_cons]
    have h1 := bods_short (h s (by simp))
    have h2 := pushes_len dep (ss := t) (fun x m => h x (List.mem_cons_of_mem _ m))
    omega
theorem pushes_snoc (dep : Nat) (a : List PyData) (s : PyData) : pushes dep (a ++ [s]) = pushes dep a ++ (bodsOf s).map fun b => (b, dep + 1) := by
  unfold pushes
  rw [List.flatMap_append, List.flatMap_cons, List.flatMap_nil, List.append_nil]
theorem while_m {c : TT} {tb : TS} {D : Ends} {σ : L2.St} {H : Hp} (Pv : Nat → L2.St → Hp → Prop) {m0 : Nat} (h0 : Pv m0 σ H)
    (hs : ∀ m σ H, Pv m σ H → c σ H fun b H1 => if b = true then tb { D with nx := fun σ' H' => ∃ m', m' < m ∧ Pv m' σ' H', ct := fun σ' H' => ∃ m', m' < m ∧ Pv m' σ' H', bk := D.nx } σ H1 else D.nx σ H1)
    (mono : ∀ σ H Q Q', (∀ b H1, Q b H1 → Q' b H1) → c σ H Q → c σ H Q') : tWhile c tb D σ H := by
  refine ⟨Pv, ⟨_, h0⟩, ?_⟩
  intro m σ H p
  refine mono σ H _ _ (fun b H1 q => ?_) (hs m σ H p)
  cases b with
  | true => exact ⟨_, fun σ' H' p' => p', q⟩
  | false => exact q
theorem seq_while {c : TT} {tb u : TS} {D : Ends} {σ : L2.St} {H : Hp} (h : tWhile c tb { D with nx := u D } σ H) : tSeq (tWhile c tb) u D σ H := h
/-- the things on the pile: pairs (body, depth) -/
def Itm (K : PySem.W.Frag) (H0 H : Hp) (x : V) (p : PyData × Nat) : Prop := ∃ (t : Addr) (v : V), x = .ref t ∧ H t = some (.tup [v, .int (p.2 : Nat)]) ∧ Dp K H0 v p.1 ∧ Lay p.1 ∧ p.2 ≤ 5
inductive Items (K : PySem.W.Frag) (H0 H : Hp) : List V → List (PyData × Nat) → Prop
  | nil : Items K H0 H [] []
  | cons {x : V} {xs : List V} {p : PyData × Nat} {ps : List (PyData × Nat)} : Itm K H0 H x p → Items K H0 H xs ps → Items K H0 H (x :: xs) (p :: ps)
section
variable {K : PySem.W.Frag} {H0 H H' : Hp}
theorem Items.len : ∀ {xs : List V} {ps : List (PyData × Nat)}, Items K H0 H xs ps → xs.length = ps.length
  | _, _, .nil => rfl
  | _, _, .cons _ t => by rw [List.length_cons, List.length_cons, t.len]
theorem Items.append : ∀ {xs ys : List V} {ps qs : List (PyData × Nat)}, Items K H0 H xs ps → Items K H0 H ys qs → Items K H0 H (xs ++ ys) (ps ++ qs)
  | _, _, _, _, .nil, h => h
  | _, _, _, _, .cons i t, h => .cons i (t.append h)
theorem Items.snoc : ∀ (xs : List V) {y : V} {ps : List (PyData × Nat)}, Items K H0 H (xs ++ [y]) ps → ∃ st p, ps = st ++ [p] ∧ Items K H0 H xs st ∧ Itm K H0 H y p
  | [], _, _, .cons i .nil => ⟨[], _, rfl, .nil, i⟩
  | x :: r, _, _, .cons i t => by
    obtain ⟨st, p, e, h1, h2⟩ := Items.snoc r t
    exact ⟨_ :: st, p, by rw [e]; rfl, .cons i h1, h2⟩
theorem Itm.keep {l : Addr} {x : V} {p : PyData × Nat} (i : Itm K H0 H x p) (e : ∀ b o, b ≠ l → H b = some o → H' b = some o) {ys : List V} (hl : H l = some (.lst ys)) : Itm K H0 H' x p := by
  obtain ⟨t, v, e1, e2, r⟩ := i
  exact ⟨t, v, e1, e t _ (ne_of e2 hl (by intro z; cases z)) e2, r⟩
theorem Items.keep {l : Addr} {ys : List V} (e : ∀ b o, b ≠ l → H b = some o → H' b = some o) (hl : H l = some (.lst ys)) : ∀ {xs : List V} {ps : List (PyData × Nat)}, Items K H0 H xs ps → Items K H0 H' xs ps
  | _, _, .nil => .nil
  | _, _, .cons i t => .cons (i.keep e hl) (t.keep e hl)
theorem Items.mono (e : Same H H') : ∀ {xs : List V} {ps : List (PyData × Nat)}, Items K H0 H xs ps → Items K H0 H' xs ps
  | _, _, .nil => .nil
  | _, _, .cons ⟨t, v, e1, e2, r⟩ s => .cons ⟨t, v, e1, e _ _ e2, r⟩ (s.mono e)
end
def spProg (K : PySem.W.Frag) : Sp := fun vs H Q _ => ∃ (v : V) (d : PyData), vs = [v] ∧ Dp K H v d ∧ Lay d ∧ ∀ H', Same H H' → Q (.bl (isProg d)) H'
section
variable {P : Program} {w : World} {K : PySem.W.Frag} {mg : Str → Option Value} {base : Heap}
theorem scProg : FnScope ["thing", "kind", "many", "pending", "body", "depth", "statement", "inner"] ["thing"] (defScope sProg) := ⟨rfl, rfl, rfl, by decide +kernel, rfl, by decide +kernel, by decide +kernel⟩
theorem dp_two {H : Hp} {xs : List V} {ds : List PyData} (h : DpAll K H xs ds) (l : ds.length = 2) : ∃ x0 x1 d0 d1, xs = [x0, x1] ∧ ds = [d0, d1] ∧ Dp K H x0 d0 ∧ Dp K H x1 d1 := by
  match ds, l, h with
  | [d0, d1], _, .cons (v := x0) h0 (.cons (v := x1) h1 .nil) => exact ⟨x0, x1, d0, d1, rfl, rfl, h0, h1⟩
theorem take_snoc {α : Type} {l : List α} {j : Nat} {x : α} (h : l[j]? = some x) : l.take (j + 1) = l.take j ++ [x] := by
  rw [List.take_add_one, h]
  rfl
theorem bods_lay {s : PyData} (h : Lay s) : ∀ b ∈ bodsOf s, Lay b := by
  intro b m
  match s, h, m with
  | .tuple (.str z :: ps), h, m =>
    have m' : b ∈ (if z = "if" ∨ z = "while" then ps.drop 1 else []) := m
    split at m'
    · exact lay_mem (lay_tup h) b (List.mem_cons_of_mem _ (List.mem_of_mem_drop m'))
    · cases m'
theorem loop_ok {D : Ends} {H H1 : Hp} {k : Str} {n dep : Nat} {a0 pl ab : Addr} {xs ys : List V} {ss : List PyData} {st : List (PyData × Nat)} {s6 : Option V} (sH1 : Same H H1) (nplH : H pl = none) (hp1 : H1 pl = some (.lst ys)) (it1 : Items K H H1 ys st)
    (hab : SqT K H ab xs) (hss : DpAll K H xs ss) (lay : PyData.canLayAll0 ss = true) (hdep : dep ≤ 5) (h4 : 0 < ss.length → dep ≤ 4) (h24 : ss.length ≤ 24) (hst : st.length ≤ 100)
    (hF : ∀ s, s ∈ ss → isOut s k = false → ∀ H', Same H H' → D.rt (.bl false) H')
    (hN : ∀ H' ys' s6, (∀ s ∈ ss, isOut s k = true) → Same H H' → H' pl = some (.lst ys') → Items K H H' ys' (st ++ pushes dep ss) →
      D.nx [some (.ref a0), some (.str k), some (.int (n : Nat)), some (.ref pl), some (.ref ab), some (.int (dep : Nat)), s6, none] H') :
    tFor (iTup K (tVar 4)) (gName 6) (tSeq (tIfS (tNot (tB (tCall (sp2 isOut K) [] E0 (tCons (tVar 6) (tCons (tVar 1) tNil))))) (tRet (tC (.bl false))) tNext)
      (tDrop (tBM K "list" rExtend (tVar 3) (tCons (tLc (iTup K (tCall (spBods K) [] E0 (tCons (tVar 6) tNil))) (gName 7) tYes (tTup (tCons (tVar 7) (tCons (tOp (rI0 fun i j => V.int (i + j)) (tVar 5) (tC (V.int 1))) tNil))) [7]) tNil))))
      D [some (.ref a0), some (.str k), some (.int (n : Nat)), some (.ref pl), some (.ref ab), some (.int (dep : Nat)), s6, none] H1 := by
  have hl := dpAll_len hss
  refine ⟨_, rfl, ab, rfl, ⟨_, Same.tup sH1 hab⟩, for_tup (K := K) (a := ab) (xs := xs)
    (fun i σ H' => ∃ (ys' : List V) (s6 : Option V), σ = [some (.ref a0), some (.str k), some (.int (n : Nat)), some (.ref pl), some (.ref ab), some (.int (dep : Nat)), s6, none] ∧ (∀ s ∈ ss.take i, isOut s k = true) ∧ Same H H' ∧ H' pl = some (.lst ys') ∧
      Items K H H' ys' (st ++ pushes dep (ss.take i))) ⟨ys, s6, rfl, by simp, sH1, hp1, by simpa [pushes] using it1⟩ (fun i σ H' _ ⟨_, _, _, _, s1, _⟩ => Same.tup s1 hab) ?_ ?_⟩
  · rintro i x σ H' hx ⟨ys', s6', rfl, hall, s1, hp', it'⟩
    obtain ⟨si, hsi, hxd⟩ := dpAll_get hss hx
    have hil : i < ss.length := (List.getElem?_eq_some_iff.mp hsi).1
    have msi : si ∈ ss := List.mem_of_getElem? hsi
    have lsi : Lay si := lay_mem lay _ msi
    refine ⟨_, rfl, _, rfl, x, si, k, rfl, dp_mono s1 _ _ hxd, lsi, fun H2 s2 => ⟨_, rfl, ?_⟩⟩
    cases ho : isOut si k with
    | false => exact iteT (hF si msi ho H2 (s1.trans s2))
    | true =>
      refine iteF ?_
      obtain ⟨z, ps, rfl⟩ := out_word ho
      have h4' := h4 (by omega)
      refine ⟨_, rfl, .inl ⟨rfl, _, SqL.of (s2 _ _ hp')⟩, _, rfl, x, z, ps, H, rfl, s1.trans s2, hxd, fun H3 b zs s3 hb hz => ⟨b, rfl, ⟨_, hb⟩, fun Dn nD => ?_⟩⟩
      refine lc_tup (K := K) (a := b) (xs := zs) (fun j H4 => Same H3 H4 ∧ ∃ acc, H4 Dn = some (.lst acc) ∧ Items K H H4 acc (((bodsOf (.tuple (.str z :: ps))).take j).map fun b => (b, dep + 1)))
        ⟨same_upd (Same.refl _) nD _, [], upd_same, .nil⟩ (fun j H4 _ P => Same.tup P.1 hb) ?_ ?_
      · rintro j y H4 hy ⟨s4, acc, eD, itA⟩
        obtain ⟨bj, hbj, hyd⟩ := dpAll_get hz hy
        refine ⟨rfl, ?_⟩
        refine ⟨_, rfl, _, rfl, _, _, rfl, rfl, (by show 2 ≤ sizeLine; decide), fun T nT => ⟨acc, ?_, ?_, ?_, _, upd_same, ?_⟩⟩
        · rw [upd_ne (ne_of_none eD nT)]
          exact eD
        · have e := itA.len
          rw [List.length_map, List.length_take] at e
          have e2 := bods_short ho
          exact Nat.lt_of_le_of_lt (by omega : _ ≤ 1000) (by decide)
        · exact same_upd (s4.trans (same_new nT _)) nD _
        · rw [take_snoc hbj, List.map_append]
          have nTD : T ≠ Dn := fun e => by rw [← e, nT] at eD; cases eD
          have g : ∀ b o, b ≠ Dn → (upd H4 T (.tup [y, .int ((dep : Int) + 1)])) b = some o → (upd (upd H4 T (.tup [y, .int ((dep : Int) + 1)])) Dn (.lst (acc ++ [.ref T]))) b = some o := fun b o n e => by rw [upd_ne n]; exact e
          have eD' : (upd H4 T (.tup [y, .int ((dep : Int) + 1)])) Dn = some (.lst acc) := by rw [upd_ne (ne_of_none eD nT)]; exact eD
          refine ((itA.mono (same_new nT _)).keep g eD').append (.cons ⟨T, y, rfl, ?_, hyd, bods_lay lsi _ (List.mem_of_getElem? hbj), by show dep + 1 ≤ 5; omega⟩ .nil)
          rw [upd_ne nTD, upd_same]
          rfl
      · rintro H4 ⟨s4, acc, eD, itA⟩
        have hzl := dpAll_len hz
        rw [hzl, List.take_length] at itA
        have s24 := s2.trans (s3.trans s4)
        have hp4 := s24 _ _ hp'
        have nDp : Dn ≠ pl := fun e => by
          have := (s2.trans s3) _ _ hp'
          rw [← e, nD] at this
          cases this
        refine ⟨pl, Dn, ys', acc, rfl, rfl, hp4, eD, ?_, ys' ++ acc, _, rfl, ?_, same_upd (s1.trans s24) nplH _, upd_same, ?_⟩
        · have e1 := it'.len
          have e2 := itA.len
          have e3 := bods_short ho
          have e4 := pushes_len (kind := k) dep hall
          rw [List.length_append] at e1
          rw [List.length_map] at e2
          rw [List.length_take] at e4
          exact Nat.le_of_lt (Nat.lt_of_le_of_lt (by omega : _ ≤ 1000) (by decide))
        · intro s ms
          rw [take_snoc hsi] at ms
          rcases List.mem_append.mp ms with m | m
          · exact hall s m
          · rw [List.mem_singleton.mp m]
            exact ho
        · rw [take_snoc hsi, pushes_snoc, ← List.append_assoc]
          have g : ∀ b o, b ≠ pl → H4 b = some o → (upd H4 pl (.lst (ys' ++ acc))) b = some o := fun b o n e => by rw [upd_ne n]; exact e
          exact ((it'.mono s24).keep g hp4).append (itA.keep g hp4)
  · rintro σ H' ⟨ys', s6', rfl, hall, s1, hp', it'⟩
    rw [hl, List.take_length] at hall it'
    exact hN H' ys' s6' hall s1 hp' it'
theorem prog_no {d : PyData} (h : ∀ k b, d ≠ .tuple [.str k, b]) : isProg d = false := by
  unfold isProg
  split
  · rename_i k b; exact absurd rfl (h k b)
  · rfl
theorem ok_prog {f : Addr} {fd : FuncData} (F : Fun K "is_program" "is_program" sProg f fd) (T : Gs K mg) (CO : Cal P w K mg base 6 "is_outside_of_statement" ["thing", "kind"] (sp2 isOut K))
    (CB : Cal P w K mg base 1 "bodies_of" ["statement"] (spBods K)) : FnOk P w K mg base CX0 7 f fd ["thing"] (spProg K) := by
  refine F.ok scProg (fun vs H Q E h => ?_) (fun cdv A outer s H vs Q E hr h => ?_)
  · obtain ⟨v, d, rfl, _⟩ := h
    rfl
  obtain ⟨v, d, rfl, hd, ld, q⟩ := h
  have hr1 : Room 1 _ := hr.mono (by decide)
  refine ⟨_, pss_cons (ps_if (PW.pt (pw_or (pt_not (pt_val (pe_callB call_isi (by rfl) T.isi (by decide +kernel) (pa_cons (pv 0) (pa_cons (pe_bltn (v := .ty "tuple") (by rfl) T.tup (by decide +kernel) rfl) pa_nil)))))
      (pw_or (pt_cmpR op_ne (pe_callB call_len_seq (by rfl) T.len PySem.boot_len (pa_cons (pv 0) pa_nil)) pe_int (nomark _))
      (pw_or1 (pt_cmpR (op_notInS (hu65 hr)) (pe_ix ix_tup (pv 0) pe_int (fun _ _ => rfl)) (pe_gref rfl T.mK) (by rfl)))))) (pss_one (ps_ret pe_bl)) pss_nil)
    (pss_cons (ps_set (i := 1) scProg.nd rfl (.inl rfl) (pe_ix ix_tup (pv 0) pe_int (fun _ _ => rfl)))
    (pss_cons (ps_set (i := 2) scProg.nd rfl (.inl rfl) pe_int)
    (pss_cons (ps_set (i := 3) scProg.nd rfl (.inl rfl) (pe_lst (pa_cons (pe_tup (pa_cons (pe_ix ix_tup (pv 0) pe_int (fun _ _ => rfl)) (pa_cons pe_int pa_nil))) pa_nil)))
    (pss_cons (ps_while PassesOwn.never (pt_truth (pv 3) (by intro _; rfl))
      (pss_cons (ps_asg (pe_bm0 PySem.F.plainAttrs_list PySem.F.slot_list_pop PySem.F.type_list_pop mt_pop (pv 3)) (pg_tup (by rfl) (pgs_cons (pg_name (i := 4) scProg.nd rfl (.inl rfl)) (pgs_cons (pg_name (i := 5) scProg.nd rfl (.inr rfl)) pgs_nil))))
      (pss_cons (ps_if (pt_not (pt_val (pe_callB call_isi (by rfl) T.isi (by decide +kernel) (pa_cons (pv 4) (pa_cons (pe_bltn (v := .ty "tuple") (by rfl) T.tup (by decide +kernel) rfl) pa_nil))))) (pss_one (ps_ret pe_bl)) pss_nil)
      (pss_cons (ps_aug (i := 2) scProg.nd rfl (.inl rfl) (pe_callB call_len_seq (by rfl) T.len PySem.boot_len (pa_cons (pv 4) pa_nil)) ip_add)
      (pss_cons (ps_if (PW.pt (pw_or (pt_cmpR op_gt (pv 2) (pe_gint rfl T.mS) (nomark _)) (pw_or1 (PW.pt (pw_and (pt_cmpR op_gt (pe_callB call_len_seq (by rfl) T.len PySem.boot_len (pa_cons (pv 4) pa_nil)) pe_int (nomark _)) (pw_and1 (pt_cmpR op_gt (pv 5) (pe_gint rfl T.mD) (nomark _)))))))) (pss_one (ps_ret pe_bl)) pss_nil)
      (pss_one (ps_for PassesOwn.never rfl (pi_tup (pv 4)) (pg_name (i := 6) scProg.nd rfl (.inl rfl))
        (pss_cons (ps_if (pt_not (pt_val (pe_call CO.G hr rfl CO.m CO.kp CO.b .nil pass0 (pa_cons (pv 6) (pa_cons (pv 1) pa_nil))))) (pss_one (ps_ret pe_bl)) pss_nil)
        (pss_one (ps_expr (pe_bm PySem.F.plainAttrs_list PySem.F.slot_list_extend PySem.F.type_list_extend mt_extend (pv 3) (pa_cons
          (pe_lc (own := [("inner", 7)]) (g := gName 7) (tt := tYes) rfl scProg.nd (pi_tup (pe_call CB.G hr1 rfl CB.m CB.kp CB.b .nil pass0 (pa_cons (pv 6) pa_nil)))
            (blkOk_by (N := ["thing", "kind", "many", "pending", "body", "depth", "statement", "inner"]) (sc := defScope sProg) (by decide +kernel))
            (fun _ _ _ _ _ => pg_name (i := 7) scProg.nd rfl (.inl rfl)) (fun _ _ _ _ _ => pts_nil)
            (fun _ _ _ _ _ => pe_tup (pa_cons (pv 7) (pa_cons (pe_op op_add (pv 5) pe_int) pa_nil)))) pa_nil))))))))))))
    (pss_one (ps_ret pe_bl)))))), ?_⟩
  refine ⟨_, rfl, v, .ty "tuple", _, _, _, rfl, .ty _, dp_ty hd, kit_isT d (by simp) (dp_nd hd), _, rfl, ?_⟩
  cases ht : isT d "tuple" with
  | false =>
    refine iteT (iteT ?_)
    rw [prog_no (fun k b e => by rw [e] at ht; cases ht)] at q
    exact q H (Same.refl H)
  | true =>
    obtain ⟨ds, rfl⟩ := isT_tup ht
    obtain ⟨a0, xs, rfl, h0, ha⟩ := dp_tup_inv hd
    have hl := dpAll_len ha
    refine iteF ⟨_, rfl, a0, xs, rfl, .inr h0, rfl, _, rfl, ?_⟩
    by_cases h2 : ds.length = 2
    · refine iteNS (show V.int ((xs.length : Nat) : Int) = V.int 2 by rw [hl, h2]; rfl) ?_
      obtain ⟨x0, x1, d0, d1, rfl, rfl, hx0, hx1⟩ := dp_two ha h2
      have lm := lay_mem (lay_tup ld)
      refine ⟨_, rfl, a0, _, _, _, rfl, rfl, h0, atI_nat (j := 0) rfl, d0, kinds, T.aK, rfl, hx0, lm _ (by simp), T.kK _, by decide +kernel, _, rfl, ?_⟩
      cases hk : inS d0 kinds with
      | false =>
        refine iteT ?_
        have e : isProg (.tuple [d0, d1]) = false := by
          cases d0 with
          | str k => show (inS (.str k) kinds && _) = false; rw [hk]; rfl
          | _ => rfl
        rw [e] at q
        exact q H (Same.refl H)
      | true =>
        refine iteF ?_
        obtain ⟨k, rfl⟩ : ∃ k, d0 = .str k := by
          cases d0 with
          | str k => exact ⟨k, rfl⟩
          | _ => cases hk
        cases hx0
        refine ⟨_, rfl, a0, _, _, _, rfl, rfl, h0, atI_nat (j := 0) rfl, ?_⟩
        refine ⟨_, rfl, a0, _, _, _, rfl, rfl, h0, atI_nat (j := 1) rfl, (by show 2 ≤ sizeLine; decide), fun t nt => ⟨(by show 1 ≤ sizeLine; decide), fun pl npl => ?_⟩⟩
        have eP : good k 0 [(d1, 1)] = isProg (.tuple [.str k, d1]) := by
          show okN 0 (tot k [(d1, 1)]) = (inS (.str k) kinds && okN 0 (bodyN k 4 d1))
          rw [tot_one, hk]
          rfl
        have npt : pl ≠ t := fun e => by rw [e, upd_same] at npl; cases npl
        have nplH : H pl = none := by rw [upd_ne npt] at npl; exact npl
        have sH0 : Same H (upd (upd H t (.tup [x1, .int 1])) pl (.lst [.ref t])) := same_upd (same_new nt _) nplH _
        dsimp only [gName]
        refine seq_while ?_
        refine while_m (fun m σ H' => ∃ (many : Nat) (stk : List (PyData × Nat)) (ys : List V) (s4 s5 s6 : Option V), σ = [some (.ref a0), some (.str k), some (.int (many : Nat)), some (.ref pl), s4, s5, s6, none] ∧
            Same H H' ∧ H' pl = some (.lst ys) ∧ Items K H H' ys stk ∧ good k many stk = isProg (.tuple [.str k, d1]) ∧ many ≤ 24 ∧ stk.length ≤ 1 + 2 * many ∧ m = tsz stk)
          (m0 := tsz [(d1, 1)]) ⟨0, [(d1, 1)], [.ref t], none, none, none, rfl, sH0, upd_same, .cons ⟨t, x1, rfl, by rw [upd_ne npt.symm, upd_same]; rfl, hx1, lm _ (by simp), (by show 1 ≤ 5; decide)⟩ .nil, eP, by decide, Nat.le_refl 1, rfl⟩ ?_ ?_
        · rintro m σ H' ⟨many, stk, ys, s4, s5, s6, rfl, sH, hp, it, hg, hm, hlen, rfl⟩
          refine ⟨_, rfl, !ys.isEmpty, .inl ⟨ys, SqL.of hp, rfl⟩, ?_⟩
          rcases List.eq_nil_or_concat ys with e0 | ⟨ys', y, e0⟩
          · subst e0
            refine iteF ?_
            cases it
            have e : isProg (.tuple [.str k, d1]) = true := by
              rw [← hg]
              exact decide_eq_true hm
            rw [e] at q
            exact q H' sH
          rw [List.concat_eq_append] at e0
          subst e0
          obtain ⟨st, p, e0, it', ⟨t', v, e1, ht', hdv, hlay, h5⟩⟩ := Items.snoc ys' it
          subst e0 e1
          obtain ⟨b, dep⟩ := p
          refine ite2 (fun _ => ?_) (fun c => absurd (by simp) c)
          have ntp : t' ≠ pl := ne_of ht' hp (by intro z; cases z)
          refine ⟨_, rfl, .inl ⟨rfl, _, SqL.of hp⟩, pl, _, V.ref t', rfl, rfl, hp, (by simp), ?_⟩
          rw [show (ys' ++ [V.ref t']).dropLast = ys' by simp]
          refine ⟨t', _, rfl, SqT.of (by rw [upd_ne ntp]; exact ht'), rfl, _, _, rfl, _, _, rfl, rfl, ?_⟩
          have sH1 : Same H (upd H' pl (.lst ys')) := same_upd sH nplH _
          have kp1 : ∀ b o, b ≠ pl → H' b = some o → (upd H' pl (.lst ys')) b = some o := fun b o n e => by rw [upd_ne n]; exact e
          have it1 := it'.keep kp1 hp
          have hp1 : (upd H' pl (.lst ys')) pl = some (.lst ys') := upd_same
          have hdv1 : Dp K (upd H' pl (.lst ys')) v b := dp_mono sH1 _ _ hdv
          generalize upd H' pl (.lst ys') = H1 at sH1 it1 hp1 hdv1 ⊢
          refine ⟨_, rfl, v, .ty "tuple", _, _, _, rfl, .ty _, dp_ty hdv1, kit_isT b (by simp) (dp_nd hdv), _, rfl, ?_⟩
          cases hb : isT b "tuple" with
          | false =>
            refine iteT ?_
            rw [good_no hb] at hg
            rw [← hg] at q
            exact q H1 sH1
          | true =>
            refine iteF ?_
            obtain ⟨ss, rfl⟩ := isT_tup hb
            obtain ⟨ab, xs, rfl, hab, hss⟩ := dp_tup_inv hdv
            have hab1 : SqT K H1 ab xs := Same.tup sH1 hab
            have hl := dpAll_len hss
            refine ⟨_, rfl, _, rfl, ab, xs, rfl, .inr hab1, _, _, rfl, rfl, ?_⟩
            have lss : PyData.canLayAll0 ss = true := lay_tup hlay
            have hst : st.length ≤ 100 := by rw [List.length_append] at hlen; simp at hlen; omega
            have hover : (24 < many + ss.length ∨ (0 < ss.length ∧ 4 < dep)) → ∀ H', Same H H' → Q (.bl false) H' := fun c H2 s2 => by
              have e := good_over (kind := k) (st := st) c
              have e2 : isProg (.tuple [.str k, d1]) = false := hg.symm.trans e
              rw [e2] at q
              exact q H2 s2
            have hF : ∀ s, s ∈ ss → isOut s k = false → ∀ H', Same H H' → Q (.bl false) H' := fun s ms ho H2 s2 => by
              have e2 : isProg (.tuple [.str k, d1]) = false := hg.symm.trans (good_bad ho ms)
              rw [e2] at q
              exact q H2 s2
            have hN : many + ss.length ≤ 24 → (0 < ss.length → dep ≤ 4) → ∀ (H2 : Hp) (ys2 : List V) (s6 : Option V), (∀ s ∈ ss, isOut s k = true) → Same H H2 → H2 pl = some (.lst ys2) → Items K H H2 ys2 (st ++ pushes dep ss) →
                ∃ m', m' < tsz (st ++ [(.tuple ss, dep)]) ∧ ∃ (many' : Nat) (stk : List (PyData × Nat)) (ys : List V) (s4 s5 s6' : Option V), ([some (.ref a0), some (.str k), some (.int ((many + xs.length : Nat) : Int)), some (.ref pl), some (.ref ab), some (.int (dep : Nat)), s6, none] : L2.St) = [some (.ref a0), some (.str k), some (.int (many' : Nat)), some (.ref pl), s4, s5, s6', none] ∧
                Same H H2 ∧ H2 pl = some (.lst ys) ∧ Items K H H2 ys stk ∧ good k many' stk = isProg (.tuple [.str k, d1]) ∧ many' ≤ 24 ∧ stk.length ≤ 1 + 2 * many' ∧ m' = tsz stk := by
              intro h24 h4 H2 ys2 s6 hall s2 hp2 it2
              refine ⟨tsz (st ++ pushes dep ss), ?_, many + xs.length, st ++ pushes dep ss, ys2, _, _, _, rfl, s2, hp2, it2, ?_, by omega, ?_, rfl⟩
              · rw [tsz_append, tsz_append]
                have e1 := pushes_sz dep ss
                have e2 : tsz [(PyData.tuple ss, dep)] = 1 + szAll ss := by simp [tsz, sz]
                omega
              · rw [hl, good_step h5 h4 hall]
                exact hg
              · have e1 := pushes_len (kind := k) dep hall
                rw [List.length_append] at hlen ⊢
                simp only [List.length_cons, List.length_nil] at hlen
                omega
            refine ⟨_, rfl, _, _, rfl, rfl, _, rfl, ?_⟩
            by_cases c24 : (24 : Int) < (many : Nat) + (xs.length : Nat)
            · rw [decide_eq_true c24]
              exact iteT (iteT (hover (.inl (by omega)) H1 sH1))
            rw [decide_eq_false c24]
            refine iteF ⟨_, rfl, ab, xs, rfl, .inr hab1, _, _, rfl, rfl, _, rfl, ?_⟩
            by_cases c0 : (0 : Int) < (xs.length : Nat)
            · rw [decide_eq_true c0]
              refine iteT ⟨_, rfl, _, _, rfl, rfl, _, rfl, ?_⟩
              by_cases c4 : (4 : Int) < (dep : Nat)
              · rw [decide_eq_true (show (4 : Int) < (((PyData.tuple ss, dep).snd : Nat) : Int) from c4)]
                exact iteT (hover (.inr ⟨by omega, by omega⟩) H1 sH1)
              · rw [decide_eq_false (show ¬ (4 : Int) < (((PyData.tuple ss, dep).snd : Nat) : Int) from c4)]
                refine iteF ?_
                exact loop_ok (n := many + xs.length) (dep := dep) (s6 := s6) sH1 nplH hp1 it1 hab hss lss h5 (fun _ => by omega) (by omega) hst hF (hN (by omega) (fun _ => by omega))
            · rw [decide_eq_false c0]
              refine iteF (iteF ?_)
              exact loop_ok (n := many + xs.length) (dep := dep) (s6 := s6) sH1 nplH hp1 it1 hab hss lss h5 (fun h => by omega) (by omega) hst hF (hN (by omega) (fun h => by omega))
        · rintro σ H' Q1 Q2 h ⟨v, e, k, t, q⟩
          exact ⟨v, e, k, t, h _ _ q⟩
    · refine ite2 (fun _ => iteT ?_) (fun c => absurd ?_ c)
      · rw [prog_no (fun k b e => h2 (by injection e with e; rw [e]; rfl))] at q
        exact q H (Same.refl H)
      · rw [Bool.not_eq_true', decide_eq_false_iff_not]
        intro z
        have z' : ((xs.length : Nat) : Int) = 2 := by injection z
        omega
end
abbrev sBag : Stmt := top 44
abbrev sDraw : Stmt := top 45
abbrev sLarge : Stmt := top 46
abbrev sSteps : Stmt := top 47
abbrev sTermL : Stmt := top 48
abbrev sCondL : Stmt := top 49
abbrev sSimple : Stmt := top 50
/-! ### the bag: a list of two numbers, drawn from -/
def Bag (H : Hp) (b : Addr) : Prop := ∃ c s : Int, H b = some (.lst [.int c, .int s]) ∧ 0 ≤ c ∧ 0 ≤ s ∧ s < 2147483648
/-- all but b stays -/
def Fr (b : Addr) (H H' : Hp) : Prop := ∀ a o, a ≠ b → H a = some o → H' a = some o
def hide (b : Addr) (H : Hp) : Hp := fun a => if a = b then none else H a
theorem Fr.refl (b : Addr) (H : Hp) : Fr b H H := fun _ _ _ h => h
theorem Fr.trans {b : Addr} {H H1 H2 : Hp} (x : Fr b H H1) (y : Fr b H1 H2) : Fr b H H2 := fun a o n h => y a o n (x a o n h)
theorem Fr.of {b : Addr} {H H' : Hp} (x : Same H H') : Fr b H H' := fun a o _ h => x a o h
theorem Fr.upd {b : Addr} {H : Hp} (o : HO) : Fr b H (upd H b o) := fun a u n h => by rw [upd_ne n]; exact h
theorem hide_same (b : Addr) (H : Hp) : Same (hide b H) H := fun a o h => by
  unfold hide at h
  split at h
  · cases h
  · exact h
theorem hide_mono {b : Addr} {H H' : Hp} (x : Fr b H H') : Same (hide b H) (hide b H') := fun a o h => by
  unfold hide at h ⊢
  split at h
  · cases h
  · rename_i n
    rw [if_neg n]
    exact x a o n h
theorem hide_get {b a : Addr} {H : Hp} {o : HO} (n : a ≠ b) (h : H a = some o) : hide b H a = some o := by
  unfold hide
  rw [if_neg n]
  exact h
theorem Bag.ne {H : Hp} {b p : Addr} (h : Bag H b) (n : H p = none) : b ≠ p := by
  obtain ⟨c, s, e, _⟩ := h
  exact ne_of_none e n
theorem Bag.keep {H H' : Hp} {b : Addr} (h : Bag H b) (s : Same H H') : Bag H' b := by
  obtain ⟨c, t, e, r⟩ := h
  exact ⟨c, t, s _ _ e, r⟩
/-- a datum, apart from the bag -/
abbrev Da (K : PySem.W.Frag) (b : Addr) (H : Hp) (v : V) (d : PyData) : Prop := Dp K (hide b H) v d
theorem Da.fr {K : PySem.W.Frag} {b : Addr} {H H' : Hp} {v : V} {d : PyData} (h : Da K b H v d) (x : Fr b H H') : Da K b H' v d := dp_mono (hide_mono x) _ _ h
theorem Da.dp {K : PySem.W.Frag} {b : Addr} {H : Hp} {v : V} {d : PyData} (h : Da K b H v d) : Dp K H v d := dp_mono (hide_same b H) _ _ h
theorem da_tup {K : PySem.W.Frag} {b p : Addr} {H : Hp} {xs : List V} {ds : List PyData} (n : p ≠ b) (h : H p = some (.tup xs)) (a : DpAll K (hide b H) xs ds) : Da K b H (.ref p) (.tuple ds) := .tup (SqT.of (hide_get n h)) a
def spBag (K : PySem.W.Frag) : Sp := fun vs H Q _ => ∃ (a : Addr) (ns : List Int) (k : Nat), vs = [.ref a, .int (k : Nat)] ∧ SqL K H a (ns.map V.int) ∧ ns.length ≤ 63 ∧ k < 64 ∧ ∀ H' p, Same H H' → H p = none → Bag H' p → Q (.ref p) H'
def spDraw : Sp := fun vs H Q _ => ∃ (b : Addr) (m : Int), vs = [.ref b, .int m] ∧ Bag H b ∧ 0 < m ∧ m < 1073741824 ∧ ∀ H' r, Fr b H H' → Bag H' b → 0 ≤ r → r < m → Q (.int r) H'
def spLarge : Sp := fun vs H Q _ => ∃ (b : Addr) (m : Int), vs = [.ref b, .int m] ∧ Bag H b ∧ 0 < m ∧ ∀ H' r, Fr b H H' → Bag H' b → 0 ≤ r → r < m → Q (.int r) H'
section
variable {P : Program} {w : World} {K : PySem.W.Frag} {mg : Str → Option Value} {base : Heap}
theorem scDraw : FnScope ["_law_bag_here", "_law_many", "_law_found"] ["_law_bag_here", "_law_many"] (defScope sDraw) := ⟨rfl, rfl, rfl, by decide +kernel, rfl, by decide +kernel, by decide +kernel⟩
theorem ok_draw {f : Addr} {fd : FuncData} (F : Fun K "_law_draw" "_law_draw" sDraw f fd) : FnOk P w K mg base CX0 1 f fd ["_law_bag_here", "_law_many"] spDraw := by
  refine F.ok scDraw (fun vs H Q E h => ?_) (fun cdv A outer s H vs Q E hr h => ?_)
  · obtain ⟨b, m, rfl, _⟩ := h
    rfl
  obtain ⟨b, m, rfl, ⟨c, t, hb, c0, t0, t1⟩, m0, m1, q⟩ := h
  refine ⟨_, pss_cons (ps_if (pt_cmpR op_gt (pe_ix ix_list (pv 0) pe_int (fun _ _ => rfl)) pe_int (nomark _))
      (pss_cons (ps_set (i := 2) scDraw.nd rfl (.inl rfl) (pe_op op_mod (pe_ix ix_list (pv 0) pe_int (fun _ _ => rfl)) (pv 1)))
      (pss_cons (ps_asg (pe_op op_fdiv (pe_ix ix_list (pv 0) pe_int (fun _ _ => rfl)) (pv 1)) (pg_sub (pv 0) pe_int set_list)) (pss_one (ps_ret (pv 2))))) pss_nil)
    (pss_cons (ps_asg (pe_op op_mod (pe_op op_mul (pe_ix ix_list (pv 0) pe_int (fun _ _ => rfl)) pe_int) pe_int) (pg_sub (pv 0) pe_int set_list))
    (pss_one (ps_ret (pe_op op_mod (pe_op op_fdiv (pe_op op_mod (pe_op op_mul (pe_ix ix_list (pv 0) pe_int (fun _ _ => rfl)) (pe_op op_add (pe_op op_fdiv (pe_ix ix_list (pv 0) pe_int (fun _ _ => rfl)) pe_int) pe_int)) pe_int) pe_int) (pv 1))))), ?_⟩
  refine ⟨_, rfl, b, _, _, _, rfl, rfl, SqL.of hb, atI_nat (j := 0) rfl, _, _, rfl, rfl, _, rfl, ?_⟩
  by_cases h : (0 : Int) < c
  · rw [decide_eq_true h]
    refine iteT ⟨_, rfl, b, _, _, _, rfl, rfl, SqL.of hb, atI_nat (j := 0) rfl, _, rfl, _, _, rfl, rfl, m0, ?_⟩
    refine ⟨_, rfl, b, _, _, _, rfl, rfl, SqL.of hb, atI_nat (j := 0) rfl, _, rfl, _, _, rfl, rfl, ⟨m0, m1⟩, _, rfl, b, _, _, 0, rfl, rfl, hb, rfl, ?_⟩
    refine ⟨_, rfl, q _ _ (Fr.upd _) ⟨c / m, t, upd_same, Int.ediv_nonneg c0 (by omega), t0, t1⟩ (Int.emod_nonneg _ (by omega)) (Int.emod_lt_of_pos _ m0)⟩
  · rw [decide_eq_false h]
    refine iteF ⟨_, rfl, b, _, _, _, rfl, rfl, SqL.of hb, atI_nat (j := 1) rfl, _, _, rfl, rfl, .inr (by decide), _, _, rfl, rfl, (by show (0 : Int) < 2147483647; decide), _, rfl, b, _, _, 1, rfl, rfl, hb, rfl, ?_⟩
    have n0 : 0 ≤ t * 48271 % 2147483647 := Int.emod_nonneg _ (by decide)
    have n1 : t * 48271 % 2147483647 < 2147483647 := Int.emod_lt_of_pos _ (by decide)
    have hb1 : (upd H b (.lst ([V.int c, V.int t].set 1 (V.int (t * 48271 % 2147483647))))) b = some (.lst [.int c, .int (t * 48271 % 2147483647)]) := upd_same
    have fr : Fr b H (upd H b (.lst ([V.int c, V.int t].set 1 (V.int (t * 48271 % 2147483647))))) := Fr.upd _
    generalize upd H b (.lst ([V.int c, V.int t].set 1 (V.int (t * 48271 % 2147483647)))) = H1 at hb1 fr ⊢
    generalize t * 48271 % 2147483647 = u at n0 n1 hb1 ⊢
    refine ⟨_, rfl, b, _, _, _, rfl, rfl, SqL.of hb1, atI_nat (j := 1) rfl, _, rfl, b, _, _, _, rfl, rfl, SqL.of hb1, atI_nat (j := 1) rfl, _, _, rfl, rfl, ⟨by decide, by decide⟩, _, _, rfl, rfl, _, _, rfl, rfl, .inl ⟨by omega, by omega⟩,
      _, _, rfl, rfl, (by show (0 : Int) < 2147483629; decide), _, _, rfl, rfl, ⟨by decide, by decide⟩, _, rfl, _, _, rfl, rfl, m0, ?_⟩
    exact q _ _ fr ⟨c, u, hb1, c0, n0, by omega⟩ (Int.emod_nonneg _ (by omega)) (Int.emod_lt_of_pos _ m0)
end
theorem seq_setC {v : V} {i : Nat} {u : TS} {D : Ends} {σ : L2.St} {H : Hp} (h : u D (σ.set i (some v)) H) : tSeq (tAsg (tC v) (gName i)) u D σ H := h
theorem at2 {x y : V} {r : Int} (h0 : 0 ≤ r) (h1 : r < 2) : ∃ v, atI [x, y] r = some v ∧ (v = x ∨ v = y) := by
  have : r = 0 ∨ r = 1 := by omega
  rcases this with rfl | rfl
  · exact ⟨x, rfl, .inl rfl⟩
  · exact ⟨y, rfl, .inr rfl⟩
theorem at3 {x y z : V} {r : Int} (h0 : 0 ≤ r) (h1 : r < 3) : ∃ v, atI [x, y, z] r = some v ∧ (v = x ∨ v = y ∨ v = z) := by
  have : r = 0 ∨ r = 1 ∨ r = 2 := by omega
  rcases this with rfl | rfl | rfl
  · exact ⟨x, rfl, .inl rfl⟩
  · exact ⟨y, rfl, .inr (.inl rfl)⟩
  · exact ⟨z, rfl, .inr (.inr rfl)⟩
theorem ab_at {r : Int} (h0 : 0 ≤ r) (h1 : r < 2) : ∃ c, atI ("ab" : Str).cps.toList r = some c ∧ inS (.str ⟨#[c]⟩) vars = true ∧ PyData.strOk ⟨#[c]⟩ = true := by
  have : r = 0 ∨ r = 1 := by omega
  rcases this with rfl | rfl
  · exact ⟨97, by decide +kernel, by decide +kernel, by decide +kernel⟩
  · exact ⟨98, by decide +kernel, by decide +kernel, by decide +kernel⟩
theorem asks_at {r : Int} (h0 : 0 ≤ r) (h1 : r < 3) : ∃ c, atI ("+-=" : Str).cps.toList r = some c ∧ inS (.str ⟨#[c]⟩) asks = true ∧ PyData.strOk ⟨#[c]⟩ = true := by
  have : r = 0 ∨ r = 1 ∨ r = 2 := by omega
  rcases this with rfl | rfl | rfl
  · exact ⟨43, by decide +kernel, by decide +kernel, by decide +kernel⟩
  · exact ⟨45, by decide +kernel, by decide +kernel, by decide +kernel⟩
  · exact ⟨61, by decide +kernel, by decide +kernel, by decide +kernel⟩
def spSteps : Sp := fun vs H Q _ => ∃ (b : Addr), vs = [.ref b] ∧ Bag H b ∧ ∀ H' r, Fr b H H' → Bag H' b → 1 ≤ r → r ≤ longest → Q (.int r) H'
def spTermL (K : PySem.W.Frag) : Sp := fun vs H Q _ => ∃ (b : Addr), vs = [.ref b] ∧ Bag H b ∧ ∀ H' v d, Fr b H H' → Bag H' b → (∀ H0, Dp K H0 v d) → isTerm d = true → Lay d → Q v H'
def spCondL (K : PySem.W.Frag) : Sp := fun vs H Q _ => ∃ (b : Addr), vs = [.ref b] ∧ Bag H b ∧ ∀ H' v d, Fr b H H' → Bag H' b → Da K b H' v d → isCond d = true → Lay d → Q v H'
def spKind : Sp := fun vs H Q _ => ∃ (b : Addr), vs = [.ref b] ∧ Bag H b ∧ ∀ H' (k : Str), Fr b H H' → Bag H' b → (k = "teller" ∨ k = "collector") → Q (.str k) H'
section
variable {P : Program} {w : World} {K : PySem.W.Frag} {mg : Str → Option Value} {base : Heap}
theorem scLarge : FnScope ["_law_bag_here", "_law_many", "_law_number", "_law_room"] ["_law_bag_here", "_law_many"] (defScope sLarge) := ⟨rfl, rfl, rfl, by decide +kernel, rfl, by decide +kernel, by decide +kernel⟩
theorem ok_large {f : Addr} {fd : FuncData} (F : Fun K "_law_large" "_law_large" sLarge f fd) (CD : Cal P w K mg base 1 "_law_draw" ["_law_bag_here", "_law_many"] spDraw) : FnOk P w K mg base CX0 2 f fd ["_law_bag_here", "_law_many"] spLarge := by
  refine F.ok scLarge (fun vs H Q E h => ?_) (fun cdv A outer s H vs Q E hr h => ?_)
  · obtain ⟨b, m, rfl, _⟩ := h
    rfl
  obtain ⟨b, m, rfl, hb, m0, q⟩ := h
  refine ⟨_, pss_cons (ps_set (i := 2) scLarge.nd rfl (.inl rfl) pe_int) (pss_cons (ps_set (i := 3) scLarge.nd rfl (.inl rfl) pe_int)
    (pss_cons (ps_while PassesOwn.never (pt_cmpR op_lt (pv 3) (pv 1) (nomark _))
      (pss_cons (ps_set (i := 2) scLarge.nd rfl (.inl rfl) (pe_op op_add (pe_op op_mul (pv 2) pe_int) (pe_call CD.G hr rfl CD.m CD.kp CD.b .nil pass0 (pa_cons (pv 0) (pa_cons pe_int pa_nil)))))
      (pss_one (ps_set (i := 3) scLarge.nd rfl (.inl rfl) (pe_op op_mul (pv 3) pe_int)))))
    (pss_one (ps_ret (pe_op op_mod (pv 2) (pv 1)))))), ?_⟩
  refine seq_setC (seq_setC (seq_while ?_))
  refine while_m (fun n σ H' => ∃ x r : Int, σ = [some (.ref b), some (.int m), some (.int x), some (.int r)] ∧ Fr b H H' ∧ Bag H' b ∧ 1 ≤ r ∧ n = (m - r).toNat) (m0 := (m - 1).toNat) ⟨0, 1, rfl, Fr.refl _ _, hb, by decide, rfl⟩ ?_ ?_
  · rintro n σ H' ⟨x, r, rfl, f1, hb1, r1, rfl⟩
    refine ⟨_, rfl, _, rfl, _, _, rfl, rfl, _, rfl, ?_⟩
    by_cases c : r < m
    · rw [decide_eq_true c]
      refine iteT ⟨_, rfl, _, _, rfl, rfl, .inr (by decide), _, rfl, b, 1048576, rfl, hb1, by decide, by decide, fun H2 u f2 hb2 _ _ => ⟨_, _, rfl, rfl, _, rfl, _, _, rfl, rfl, .inr (by decide), ?_⟩⟩
      exact ⟨(m - r * 1048576).toNat, by omega, _, _, rfl, f1.trans f2, hb2, by omega, rfl⟩
    · rw [decide_eq_false c]
      exact iteF ⟨_, rfl, _, rfl, _, _, rfl, rfl, m0, q _ _ f1 hb1 (Int.emod_nonneg _ (by omega)) (Int.emod_lt_of_pos _ m0)⟩
  · rintro σ H' Q1 Q2 h ⟨v, e, v2, e2, i, j, e3, e4, k, e5, q⟩
    exact ⟨v, e, v2, e2, i, j, e3, e4, k, e5, h _ _ q⟩
theorem scSteps : FnScope ["_law_bag_here"] ["_law_bag_here"] (defScope sSteps) := ⟨rfl, rfl, rfl, by decide +kernel, rfl, by decide +kernel, by decide +kernel⟩
theorem pow30 : (10 : Int) ^ (30 : Int).toNat = longest := by decide +kernel
theorem ok_steps {f : Addr} {fd : FuncData} (F : Fun K "_law_steps" "_law_steps" sSteps f fd) (CD : Cal P w K mg base 1 "_law_draw" ["_law_bag_here", "_law_many"] spDraw) (CL : Cal P w K mg base 2 "_law_large" ["_law_bag_here", "_law_many"] spLarge) :
    FnOk P w K mg base CX0 3 f fd ["_law_bag_here"] spSteps := by
  refine F.ok scSteps (fun vs H Q E h => ?_) (fun cdv A outer s H vs Q E hr h => ?_)
  · obtain ⟨b, rfl, _⟩ := h
    rfl
  obtain ⟨b, rfl, hb, q⟩ := h
  have hr1 : Room 1 _ := hr.mono (by decide)
  refine ⟨_, pss_one (ps_ret (pe_ix ix_list (pe_lst (pa_cons (pe_op op_add pe_int (pe_call CD.G hr1 rfl CD.m CD.kp CD.b .nil pass0 (pa_cons (pv 0) (pa_cons pe_int pa_nil))))
      (pa_cons (pe_op op_add pe_int (pe_call CL.G hr rfl CL.m CL.kp CL.b .nil pass0 (pa_cons (pv 0) (pa_cons (pe_op op_pow pe_int pe_int) pa_nil))))
      (pa_cons (pe_op op_sub (pe_op op_pow pe_int pe_int) (pe_call CD.G hr1 rfl CD.m CD.kp CD.b .nil pass0 (pa_cons (pv 0) (pa_cons pe_int pa_nil)))) pa_nil))))
    (pe_op op_fdiv (pe_call CD.G hr1 rfl CD.m CD.kp CD.b .nil pass0 (pa_cons (pv 0) (pa_cons pe_int pa_nil))) pe_int) (fun _ _ => rfl))), ?_⟩
  refine ⟨_, rfl, b, 4, rfl, hb, by decide, by decide, fun H1 r1 f1 b1 r10 r11 => ⟨_, _, rfl, rfl, _, rfl, _, _, rfl, rfl, ⟨by decide, by decide, by decide⟩, b, _, rfl, b1, (by rw [pow30]; decide), fun H2 r2 f2 b2 r20 r21 => ⟨_, _, rfl, rfl, _, _, rfl, rfl, ⟨by decide, by decide, by decide⟩, _, rfl, b, 2, rfl, b2, by decide, by decide,
    fun H3 r3 f3 b3 r30 r31 => ⟨_, _, rfl, rfl, (by show 3 ≤ sizeLine; decide), fun p np => ⟨_, rfl, b, 8, rfl, b3.keep (same_new np _), by decide, by decide, fun H4 r4 f4 b4 r40 r41 => ⟨_, _, rfl, rfl, ⟨by decide, by decide⟩, ?_⟩⟩⟩⟩⟩⟩
  have np4 : p ≠ b := (b3.ne np).symm
  have hp4 := f4 p _ np4 upd_same
  obtain ⟨v, hv, hc⟩ := at3 (x := V.int (1 + r1)) (y := V.int (1 + r2)) (z := V.int (10 ^ (30 : Int).toNat - r3)) (r := r4 / 3) (by omega) (by omega)
  refine ⟨p, _, _, _, rfl, rfl, SqL.of hp4, hv, ?_⟩
  have fr : Fr b H H4 := f1.trans (f2.trans (f3.trans ((Fr.of (same_new np _)).trans f4)))
  rw [pow30] at hc r21
  have e30 : longest = 1000000000000000000000000000000 := rfl
  rcases hc with rfl | rfl | rfl
  · exact q _ _ fr b4 (by omega) (by omega)
  · exact q _ _ fr b4 (by omega) (by omega)
  · exact q _ _ fr b4 (by omega) (by omega)
end
structure G2 (mg : Str → Option Value) : Prop where
  abs : mg "abs" = none
  max : mg "max" = none
  min : mg "min" = none
  range : mg "range" = none
theorem one_or (b : Bool) : -(2 ^ 64) < (if b = true then (1 : Int) else 0) ∧ (if b = true then (1 : Int) else 0) < 2 ^ 64 := by cases b <;> decide
theorem part_variable (d : PyData) : isPart d "variable" = inS d vars := by unfold isPart; rw [if_pos rfl]
theorem part_term (d : PyData) : isPart d "term" = isTerm d := by unfold isPart; rw [if_neg (by decide +kernel), if_pos rfl]
theorem part_sign (d : PyData) : isPart d "sign" = inS d asks := by unfold isPart; rw [if_neg (by decide +kernel), if_neg (by decide +kernel), if_pos rfl]
theorem part_steps (d : PyData) : isPart d "steps" = intIn d 1 longest := by unfold isPart; rw [if_neg (by decide +kernel), if_neg (by decide +kernel), if_neg (by decide +kernel), if_pos rfl]
theorem part_answer (d : PyData) : isPart d "answer" = intIn d 0 1 := by unfold isPart; rw [if_neg (by decide +kernel), if_neg (by decide +kernel), if_neg (by decide +kernel), if_neg (by decide +kernel), if_pos rfl]
theorem part_value (d : PyData) : isPart d "value" = intIn d 0 15 := by unfold isPart; rw [if_neg (by decide +kernel), if_neg (by decide +kernel), if_neg (by decide +kernel), if_neg (by decide +kernel), if_neg (by decide +kernel)]
theorem roles_set (k : Str) : rolesZ "set" k = some (["variable", "value"] : List Str) := by unfold rolesZ; rw [if_pos rfl]
theorem roles_add (k : Str) : rolesZ "add" k = some (["variable", "term"] : List Str) := by unfold rolesZ; rw [if_neg (by decide +kernel), if_pos rfl]
theorem roles_wait (k : Str) : rolesZ "wait" k = some (["steps"] : List Str) := by unfold rolesZ; rw [if_neg (by decide +kernel), if_neg (by decide +kernel), if_pos rfl]
theorem roles_ask : rolesZ "ask" "teller" = some (["sign", "term", "variable"] : List Str) := by decide +kernel
theorem roles_answer : rolesZ "answer" "teller" = some (["answer"] : List Str) := by decide +kernel
theorem roles_grow : rolesZ "grow" "collector" = some (["term"] : List Str) := by decide +kernel
theorem roles_list : rolesZ "list" "collector" = some (["term"] : List Str) := by decide +kernel
theorem plain1 {z k r : Str} {p : PyData} (h : rolesZ z k = some [r]) (e : isPart p r = true) : isPlain (.tuple [.str z, p]) k = true := by
  rw [plain_some h]; simp [allParts, e]
theorem plain2 {z k r1 r2 : Str} {p1 p2 : PyData} (h : rolesZ z k = some [r1, r2]) (e1 : isPart p1 r1 = true) (e2 : isPart p2 r2 = true) : isPlain (.tuple [.str z, p1, p2]) k = true := by
  rw [plain_some h]; simp [allParts, e1, e2]
theorem plain3 {z k r1 r2 r3 : Str} {p1 p2 p3 : PyData} (h : rolesZ z k = some [r1, r2, r3]) (e1 : isPart p1 r1 = true) (e2 : isPart p2 r2 = true) (e3 : isPart p3 r3 = true) : isPlain (.tuple [.str z, p1, p2, p3]) k = true := by
  rw [plain_some h]; simp [allParts, e1, e2, e3]
theorem lay_str {z : Str} (h : PyData.strOk z = true) : Lay (.str z) := by unfold Lay; simp only [PyData.canLay0]; exact h
theorem lay_int (i : Int) : Lay (.int i) := by unfold Lay; simp only [PyData.canLay0]
theorem lay_nil : Lay (.tuple []) := by unfold Lay; simp only [PyData.canLay0, PyData.canLayAll0]
theorem lay_all : ∀ {ds : List PyData}, (∀ d ∈ ds, Lay d) → PyData.canLayAll0 ds = true
  | [], _ => by simp only [PyData.canLayAll0]
  | d :: r, h => by
    simp only [PyData.canLayAll0, Bool.and_eq_true]
    exact ⟨h d (by simp), lay_all fun x m => h x (List.mem_cons_of_mem _ m)⟩
theorem lay_tuple {ds : List PyData} (h : ∀ d ∈ ds, Lay d) : Lay (.tuple ds) := by unfold Lay; simp only [PyData.canLay0]; exact lay_all h
theorem lay2 {a b : PyData} (ha : Lay a) (hb : Lay b) : Lay (.tuple [a, b]) := lay_tuple (by intro d m; simp at m; rcases m with rfl | rfl <;> assumption)
theorem lay3 {a b c : PyData} (ha : Lay a) (hb : Lay b) (hc : Lay c) : Lay (.tuple [a, b, c]) := lay_tuple (by intro d m; simp at m; rcases m with rfl | rfl | rfl <;> assumption)
theorem lay4 {a b c e : PyData} (ha : Lay a) (hb : Lay b) (hc : Lay c) (he : Lay e) : Lay (.tuple [a, b, c, e]) := lay_tuple (by intro d m; simp at m; rcases m with rfl | rfl | rfl | rfl <;> assumption)
def spSimple (K : PySem.W.Frag) : Sp := fun vs H Q _ => ∃ (b : Addr) (k : Str), vs = [.ref b, .str k] ∧ Bag H b ∧ (k = "teller" ∨ k = "collector") ∧ ∀ H' v d, Fr b H H' → Bag H' b → Da K b H' v d → isPlain d k = true → Lay d → Q v H'
section
variable {P : Program} {w : World} {K : PySem.W.Frag} {mg : Str → Option Value} {base : Heap}
theorem scBag : FnScope ["_law_script", "_law_k", "_law_cell", "_law_state"] ["_law_script", "_law_k"] (defScope sBag) := ⟨rfl, rfl, rfl, by decide +kernel, rfl, by decide +kernel, by decide +kernel⟩
theorem ok_bag {f : Addr} {fd : FuncData} (F : Fun K "_law_bag" "_law_bag" sBag f fd) (T : Gs K mg) (T2 : G2 mg) : FnOk P w K mg base CX0 1 f fd ["_law_script", "_law_k"] (spBag K) := by
  refine F.ok scBag (fun vs H Q E h => ?_) (fun cdv A outer s H vs Q E hr h => ?_)
  · obtain ⟨a, ns, k, rfl, _⟩ := h
    rfl
  obtain ⟨a, ns, k, rfl, hS, h63, hk, q⟩ := h
  refine ⟨_, pss_cons (ps_set (i := 2) scBag.nd rfl (.inl rfl) pe_int)
    (pss_cons (ps_if (pt_cmpR op_lt (pv 1) (pe_callB call_len_seq (by rfl) T.len PySem.boot_len (pa_cons (pv 0) pa_nil)) (nomark _)) (pss_one (ps_set (i := 2) scBag.nd rfl (.inl rfl) (pe_callB call_abs (by rfl) T2.abs (by decide +kernel) (pa_cons (pe_ix ix_list (pv 0) (pv 1) (fun _ _ => rfl)) pa_nil)))) pss_nil)
    (pss_cons (ps_set (i := 3) scBag.nd rfl (.inl rfl) (pe_op op_add pe_int (pe_op op_mod (pe_op op_add (pe_op op_add (pe_op op_add (pe_op op_mul (pe_op op_mod (pv 2) pe_int) pe_int) (pe_op op_mul (pe_op op_mul pe_int (pv 1)) (pv 1))) (pe_op op_mul pe_int (pv 1))) pe_int) pe_int)))
    (pss_one (ps_ret (pe_lst (pa_cons (pe_op op_mul (pv 2) (pe_callTy call_int1 (by rfl) T.int (by decide +kernel) (pa_cons (pe_cmpR op_ge (pv 2) (pe_op op_pow pe_int pe_int) (nomark _)) pa_nil))) (pa_cons (pv 3) pa_nil))))))), ?_⟩
  have hl : (ns.map V.int).length = ns.length := List.length_map _
  refine ⟨_, rfl, _, rfl, a, _, rfl, .inl hS, _, _, rfl, rfl, _, rfl, ?_⟩
  have fin : ∀ (cell : Int) (z : Int), 0 ≤ cell → ∀ p, H p = none → Q (.ref p) (upd H p (.lst [.int (cell * (if decide ((10 : Int) ^ (18 : Int).toNat ≤ cell) then 1 else 0)), .int (1 + z % 2147483646)])) := fun cell z h0 p np => by
    refine q _ p (same_new np _) np ⟨_, _, upd_same, ?_, ?_, ?_⟩
    · split
      · omega
      · omega
    · have := Int.emod_nonneg z (show (2147483646 : Int) ≠ 0 by decide); omega
    · have := Int.emod_lt_of_pos z (show (0 : Int) < 2147483646 by decide); omega
  refine ite2 (fun c => ?_) (fun c => ?_)
  · have c' := of_decide_eq_true c
    rw [hl] at c'
    have hkn : k < ns.length := by omega
    have hat : atI (ns.map V.int) ((k : Nat) : Int) = some (.int ns[k]) := atI_nat (by rw [List.getElem?_map, List.getElem?_eq_getElem hkn]; rfl)
    have h0 : 0 ≤ (if ns[k] < 0 then -ns[k] else ns[k]) := by split <;> omega
    refine ⟨_, rfl, _, rfl, a, _, _, _, rfl, rfl, hS, hat, _, rfl, ?_⟩
    exact ⟨_, rfl, _, _, rfl, rfl, (by show (0 : Int) < 2147483647; decide), _, _, rfl, rfl, .inr (by decide), _, rfl, _, _, rfl, rfl, .inl (by decide), _, rfl, _, _, rfl, rfl, .inr ⟨by omega, by omega⟩, _, _, rfl, rfl, _, rfl, _, _, rfl, rfl, .inl (by decide), _, _, rfl, rfl, _, _, rfl, rfl, _, _, rfl, rfl, (by show (0 : Int) < 2147483646; decide), _, _, rfl, rfl,
      _, rfl, _, rfl, _, _, rfl, rfl, ⟨by decide, by decide, by decide⟩, _, _, rfl, rfl, .inr ⟨_, rfl, _, _, rfl, rfl, Or.inr (one_or _), _, rfl, (by show 2 ≤ sizeLine; decide), fun p np => fin _ _ h0 p np⟩⟩
  · exact ⟨_, rfl, _, _, rfl, rfl, (by show (0 : Int) < 2147483647; decide), _, _, rfl, rfl, .inr (by decide), _, rfl, _, _, rfl, rfl, .inl (by decide), _, rfl, _, _, rfl, rfl, .inr ⟨by omega, by omega⟩, _, _, rfl, rfl, _, rfl, _, _, rfl, rfl, .inl (by decide), _, _, rfl, rfl, _, _, rfl, rfl, _, _, rfl, rfl, (by show (0 : Int) < 2147483646; decide), _, _, rfl, rfl,
      _, rfl, _, rfl, _, _, rfl, rfl, ⟨by decide, by decide, by decide⟩, _, _, rfl, rfl, .inr ⟨_, rfl, _, _, rfl, rfl, Or.inr (one_or _), _, rfl, (by show 2 ≤ sizeLine; decide), fun p np => fin _ _ (Int.le_refl 0) p np⟩⟩
theorem scTermL : FnScope ["_law_bag_here", "_law_value"] ["_law_bag_here"] (defScope sTermL) := ⟨rfl, rfl, rfl, by decide +kernel, rfl, by decide +kernel, by decide +kernel⟩
theorem ok_termL {f : Addr} {fd : FuncData} (F : Fun K "_law_term" "_law_term" sTermL f fd) (CD : Cal P w K mg base 1 "_law_draw" ["_law_bag_here", "_law_many"] spDraw) : FnOk P w K mg base CX0 2 f fd ["_law_bag_here"] (spTermL K) := by
  refine F.ok scTermL (fun vs H Q E h => ?_) (fun cdv A outer s H vs Q E hr h => ?_)
  · obtain ⟨b, rfl, _⟩ := h
    rfl
  obtain ⟨b, rfl, hb, q⟩ := h
  refine ⟨_, pss_cons (ps_set (i := 1) scTermL.nd rfl (.inl rfl) (pe_call CD.G hr rfl CD.m CD.kp CD.b .nil pass0 (pa_cons (pv 0) (pa_cons pe_int pa_nil))))
    (pss_cons (ps_if (pt_cmpR op_gt (pv 1) pe_int (nomark _)) (pss_one (ps_ret (pe_ix ix_str pe_str (pe_op op_mod (pv 1) pe_int) (fun _ _ => rfl)))) pss_nil) (pss_one (ps_ret (pv 1)))), ?_⟩
  refine ⟨_, rfl, b, 20, rfl, hb, by decide, by decide, fun H1 r f1 b1 r0 r1 => ⟨_, rfl, _, _, rfl, rfl, _, rfl, ?_⟩⟩
  refine ite2 (fun c => ?_) (fun c => ?_)
  · obtain ⟨ch, hc, hv, ho⟩ := ab_at (r := r % 2) (by omega) (by omega)
    refine ⟨_, rfl, _, _, rfl, rfl, (by show (0 : Int) < 2; decide), _, _, _, rfl, rfl, by decide +kernel, hc, ?_⟩
    refine q _ _ _ f1 b1 (fun H0 => .str _) ?_ (lay_str ho)
    unfold isTerm
    rw [hv]
    rfl
  · have c' : ¬ (15 : Int) < r := of_decide_eq_false (Bool.eq_false_iff.mpr c)
    refine ⟨_, rfl, q _ _ _ f1 b1 (fun H0 => .int _) ?_ (lay_int _)⟩
    have e : intIn (.int r) 0 15 = true := by simp [intIn]; omega
    unfold isTerm
    rw [e, Bool.or_true]
theorem scCondL : FnScope ["_law_bag_here"] ["_law_bag_here"] (defScope sCondL) := ⟨rfl, rfl, rfl, by decide +kernel, rfl, by decide +kernel, by decide +kernel⟩
theorem ok_condL {f : Addr} {fd : FuncData} (F : Fun K "_law_condition" "_law_condition" sCondL f fd) (CD : Cal P w K mg base 1 "_law_draw" ["_law_bag_here", "_law_many"] spDraw) (CT : Cal P w K mg base 2 "_law_term" ["_law_bag_here"] (spTermL K)) :
    FnOk P w K mg base CX0 3 f fd ["_law_bag_here"] (spCondL K) := by
  refine F.ok scCondL (fun vs H Q E h => ?_) (fun cdv A outer s H vs Q E hr h => ?_)
  · obtain ⟨b, rfl, _⟩ := h
    rfl
  obtain ⟨b, rfl, hb, q⟩ := h
  have hr1 : Room 1 _ := hr.mono (by decide)
  refine ⟨_, pss_one (ps_ret (pe_tup (pa_cons (pe_ix ix_str pe_str (pe_call CD.G hr1 rfl CD.m CD.kp CD.b .nil pass0 (pa_cons (pv 0) (pa_cons pe_int pa_nil))) (fun _ _ => rfl))
    (pa_cons (pe_ix ix_list (pe_lst (pa_cons pe_str (pa_cons pe_str (pa_cons pe_str pa_nil)))) (pe_call CD.G hr1 rfl CD.m CD.kp CD.b .nil pass0 (pa_cons (pv 0) (pa_cons pe_int pa_nil))) (fun _ _ => rfl))
    (pa_cons (pe_call CT.G hr rfl CT.m CT.kp CT.b .nil pass0 (pa_cons (pv 0) pa_nil)) pa_nil))))), ?_⟩
  refine ⟨_, rfl, b, 2, rfl, hb, by decide, by decide, fun H1 r f1 b1 r0 r1 => ?_⟩
  obtain ⟨ch, hc, hv, ho⟩ := ab_at r0 r1
  refine ⟨_, _, _, rfl, rfl, by decide +kernel, hc, (by show 3 ≤ sizeLine; decide), fun p np => ⟨_, rfl, b, 3, rfl, b1.keep (same_new np _), by decide, by decide, fun H2 r2 f2 b2 r20 r21 => ?_⟩⟩
  have hp := f2 p _ (b1.ne np).symm upd_same
  obtain ⟨v, hv2, hc2⟩ := at3 (x := V.str "==") (y := V.str "!=") (z := V.str "<") r20 r21
  refine ⟨p, _, _, _, rfl, rfl, SqL.of hp, hv2, _, rfl, b, rfl, b2, fun H3 v3 d3 f3 b3 hd3 ht3 l3 => ⟨(by show 3 ≤ sizeLine; decide), fun t nt => ?_⟩⟩
  have fr : Fr b H (upd H3 t (.tup [.str ⟨#[ch]⟩, v, v3])) := f1.trans ((Fr.of (same_new np _)).trans (f2.trans (f3.trans (Fr.of (same_new nt _)))))
  have key : ∀ z : Str, v = .str z → inS (.str z) signs = true → PyData.strOk z = true → Q (.ref t) (upd H3 t (.tup [.str ⟨#[ch]⟩, v, v3])) := fun z e hz oz => by
    subst e
    refine q _ _ (.tuple [.str ⟨#[ch]⟩, .str z, d3]) fr (b3.keep (same_new nt _)) (da_tup (b3.ne nt).symm upd_same (.cons (.str _) (.cons (.str _) (.cons (hd3 _) .nil)))) ?_ (lay3 (lay_str ho) (lay_str oz) l3)
    show (inS (.str ⟨#[ch]⟩) vars && inS (.str z) signs && isTerm d3) = true
    rw [hv, hz, ht3]
    rfl
  rcases hc2 with e | e | e
  · exact key _ e (by decide +kernel) (by decide +kernel)
  · exact key _ e (by decide +kernel) (by decide +kernel)
  · exact key _ e (by decide +kernel) (by decide +kernel)
theorem scSimple : FnScope ["_law_bag_here", "_law_kind", "_law_way", "_law_variable"] ["_law_bag_here", "_law_kind"] (defScope sSimple) := ⟨rfl, rfl, rfl, by decide +kernel, rfl, by decide +kernel, by decide +kernel⟩
theorem ok_simple {f : Addr} {fd : FuncData} (F : Fun K "_law_simple" "_law_simple" sSimple f fd) (CD : Cal P w K mg base 1 "_law_draw" ["_law_bag_here", "_law_many"] spDraw) (CT : Cal P w K mg base 2 "_law_term" ["_law_bag_here"] (spTermL K)) (CS : Cal P w K mg base 3 "_law_steps" ["_law_bag_here"] spSteps) :
    FnOk P w K mg base CX0 4 f fd ["_law_bag_here", "_law_kind"] (spSimple K) := by
  refine F.ok scSimple (fun vs H Q E h => ?_) (fun cdv A outer s H vs Q E hr h => ?_)
  · obtain ⟨b, k, rfl, _⟩ := h
    rfl
  obtain ⟨b, k, rfl, hb, hk, q⟩ := h
  have hr1 : Room 1 _ := hr.mono (by decide)
  have hr2 : Room 2 _ := hr.mono (by decide)
  refine ⟨_, pss_cons (ps_set (i := 2) scSimple.nd rfl (.inl rfl) (pe_call CD.G hr1 rfl CD.m CD.kp CD.b .nil pass0 (pa_cons (pv 0) (pa_cons pe_int pa_nil))))
    (pss_cons (ps_set (i := 3) scSimple.nd rfl (.inl rfl) (pe_ix ix_str pe_str (pe_call CD.G hr1 rfl CD.m CD.kp CD.b .nil pass0 (pa_cons (pv 0) (pa_cons pe_int pa_nil))) (fun _ _ => rfl)))
    (pss_cons (ps_if (pt_cmpR op_eq (pv 2) pe_int (nomark _)) (pss_one (ps_ret (pe_tup (pa_cons pe_str (pa_cons (pe_call CS.G hr rfl CS.m CS.kp CS.b .nil pass0 (pa_cons (pv 0) pa_nil)) pa_nil))))) pss_nil)
    (pss_cons (ps_if (pt_cmpR op_lt (pv 2) pe_int (nomark _)) (pss_one (ps_ret (pe_tup (pa_cons pe_str (pa_cons (pv 3) (pa_cons (pe_call CD.G hr1 rfl CD.m CD.kp CD.b .nil pass0 (pa_cons (pv 0) (pa_cons pe_int pa_nil))) pa_nil)))))) pss_nil)
    (pss_cons (ps_if (pt_cmpR op_lt (pv 2) pe_int (nomark _)) (pss_one (ps_ret (pe_tup (pa_cons pe_str (pa_cons (pv 3) (pa_cons (pe_call CT.G hr2 rfl CT.m CT.kp CT.b .nil pass0 (pa_cons (pv 0) pa_nil)) pa_nil)))))) pss_nil)
    (pss_cons (ps_if (pt_cmpR op_eq (pv 1) pe_str (nomark _)) (pss_one (ps_ret (pe_tup (pa_cons (pe_ix ix_list (pe_lst (pa_cons pe_str (pa_cons pe_str pa_nil))) (pe_op op_mod (pv 2) pe_int) (fun _ _ => rfl)) (pa_cons (pe_call CT.G hr2 rfl CT.m CT.kp CT.b .nil pass0 (pa_cons (pv 0) pa_nil)) pa_nil))))) pss_nil)
    (pss_cons (ps_if (PW.pt (pw_and (pt_cmpR op_eq (pv 2) pe_int (nomark _)) (pw_and1 (pt_cmpR op_eq (pe_call CD.G hr1 rfl CD.m CD.kp CD.b .nil pass0 (pa_cons (pv 0) (pa_cons pe_int pa_nil))) pe_int (nomark _)))))
      (pss_one (ps_ret (pe_tup (pa_cons pe_str (pa_cons (pe_call CD.G hr1 rfl CD.m CD.kp CD.b .nil pass0 (pa_cons (pv 0) (pa_cons pe_int pa_nil))) pa_nil))))) pss_nil)
    (pss_one (ps_ret (pe_tup (pa_cons pe_str (pa_cons (pe_ix ix_str pe_str (pe_call CD.G hr1 rfl CD.m CD.kp CD.b .nil pass0 (pa_cons (pv 0) (pa_cons pe_int pa_nil))) (fun _ _ => rfl)) (pa_cons (pe_call CT.G hr2 rfl CT.m CT.kp CT.b .nil pass0 (pa_cons (pv 0) pa_nil)) (pa_cons (pv 3) pa_nil))))))))))))), ?_⟩
  refine ⟨_, rfl, b, 8, rfl, hb, by decide, by decide, fun H1 r f1 b1 r0 r1 => ⟨_, rfl, b, 2, rfl, b1, by decide, by decide, fun H2 r2 f2 b2 r20 r21 => ?_⟩⟩
  obtain ⟨ch, hc, hv, ho⟩ := ab_at r20 r21
  have f12 := f1.trans f2
  refine ⟨_, _, _, rfl, rfl, by decide +kernel, hc, ?_⟩
  refine ⟨_, rfl, rfl, _, rfl, ite2 (fun c => ?_) (fun c => ?_)⟩
  · refine ⟨_, rfl, b, rfl, b2, fun H3 x f3 b3 x0 x1 => ⟨(by show 2 ≤ sizeLine; decide), fun t nt => ?_⟩⟩
    refine q _ _ (.tuple [.str "wait", .int x]) (f12.trans (f3.trans (Fr.of (same_new nt _)))) (b3.keep (same_new nt _)) (da_tup (b3.ne nt).symm upd_same (.cons (.str _) (.cons (.int _) .nil))) (plain1 (roles_wait k) ?_) (lay2 (lay_str (by decide +kernel)) (lay_int _))
    rw [part_steps]; simp [intIn, x0, x1]
  refine ⟨_, rfl, _, _, rfl, rfl, _, rfl, ite2 (fun c => ?_) (fun c => ?_)⟩
  · refine ⟨_, rfl, _, rfl, b, 16, rfl, b2, by decide, by decide, fun H3 x f3 b3 x0 x1 => ⟨(by show 3 ≤ sizeLine; decide), fun t nt => ?_⟩⟩
    refine q _ _ (.tuple [.str "set", .str ⟨#[ch]⟩, .int x]) (f12.trans (f3.trans (Fr.of (same_new nt _)))) (b3.keep (same_new nt _)) (da_tup (b3.ne nt).symm upd_same (.cons (.str _) (.cons (.str _) (.cons (.int _) .nil)))) (plain2 (roles_set k) (by rw [part_variable]; exact hv) ?_) (lay3 (lay_str (by decide +kernel)) (lay_str ho) (lay_int _))
    rw [part_value]; simp [intIn, x0]; omega
  refine ⟨_, rfl, _, _, rfl, rfl, _, rfl, ite2 (fun c => ?_) (fun c => ?_)⟩
  · refine ⟨_, rfl, _, rfl, b, rfl, b2, fun H3 x d3 f3 b3 hd3 t3 l3 => ⟨(by show 3 ≤ sizeLine; decide), fun t nt => ?_⟩⟩
    exact q _ _ (.tuple [.str "add", .str ⟨#[ch]⟩, d3]) (f12.trans (f3.trans (Fr.of (same_new nt _)))) (b3.keep (same_new nt _)) (da_tup (b3.ne nt).symm upd_same (.cons (.str _) (.cons (.str _) (.cons (hd3 _) .nil)))) (plain2 (roles_add k) (by rw [part_variable]; exact hv) (by rw [part_term]; exact t3)) (lay3 (lay_str (by decide +kernel)) (lay_str ho) l3)
  refine ⟨_, rfl, rfl, _, rfl, ite2 (fun c => ?_) (fun c => ?_)⟩
  · have ek : k = "collector" := by
      have c' := of_decide_eq_true c
      injection c'
    subst ek
    refine ⟨(by show 2 ≤ sizeLine; decide), fun p np => ?_⟩
    obtain ⟨v, hv2, hc2⟩ := at2 (x := V.str "grow") (y := V.str "list") (r := r % 2) (by omega) (by omega)
    refine ⟨_, rfl, _, _, rfl, rfl, (by show (0 : Int) < 2; decide), p, _, _, _, rfl, rfl, SqL.of upd_same, hv2, _, rfl, b, rfl, b2.keep (same_new np _), fun H3 x d3 f3 b3 hd3 t3 l3 => ⟨(by show 2 ≤ sizeLine; decide), fun t nt => ?_⟩⟩
    have fr : Fr b H (upd H3 t (.tup [v, x])) := f12.trans ((Fr.of (same_new np _)).trans (f3.trans (Fr.of (same_new nt _))))
    rcases hc2 with rfl | rfl
    · exact q _ _ (.tuple [.str "grow", d3]) fr (b3.keep (same_new nt _)) (da_tup (b3.ne nt).symm upd_same (.cons (.str _) (.cons (hd3 _) .nil))) (plain1 roles_grow (by rw [part_term]; exact t3)) (lay2 (lay_str (by decide +kernel)) l3)
    · exact q _ _ (.tuple [.str "list", d3]) fr (b3.keep (same_new nt _)) (da_tup (b3.ne nt).symm upd_same (.cons (.str _) (.cons (hd3 _) .nil))) (plain1 roles_list (by rw [part_term]; exact t3)) (lay2 (lay_str (by decide +kernel)) l3)
  have ek : k = "teller" := by
    rcases hk with e | e
    · exact e
    · exact absurd (decide_eq_true (by rw [e])) c
  subst ek
  have ask : ∀ (H3 : Hp), Fr b H H3 → Bag H3 b → ∀ (H4 : Hp) (r4 : Int) (f4 : Fr b H3 H4) (b4 : Bag H4 b) (r40 : 0 ≤ r4) (r41 : r4 < 3) (c4 : Nat), atI ("+-=" : Str).cps.toList r4 = some c4 → inS (.str ⟨#[c4]⟩) asks = true → PyData.strOk ⟨#[c4]⟩ = true →
      ∀ (H5 : Hp) (x : V) (d5 : PyData) (f5 : Fr b H4 H5) (b5 : Bag H5 b) (hd5 : ∀ H0, Dp K H0 x d5) (t5 : isTerm d5 = true) (l5 : Lay d5) (t : Addr) (nt : H5 t = none), Q (.ref t) (upd H5 t (.tup [.str "ask", .str ⟨#[c4]⟩, x, .str ⟨#[ch]⟩])) := by
    intro H3 f3 b3 H4 r4 f4 b4 r40 r41 c4 hc4 hi4 ho4 H5 x d5 f5 b5 hd5 t5 l5 t nt
    exact q _ _ (.tuple [.str "ask", .str ⟨#[c4]⟩, d5, .str ⟨#[ch]⟩]) (f3.trans (f4.trans (f5.trans (Fr.of (same_new nt _))))) (b5.keep (same_new nt _)) (da_tup (b5.ne nt).symm upd_same (.cons (.str _) (.cons (.str _) (.cons (hd5 _) (.cons (.str _) .nil)))))
      (plain3 roles_ask (by rw [part_sign]; exact hi4) (by rw [part_term]; exact t5) (by rw [part_variable]; exact hv)) (lay4 (lay_str (by decide +kernel)) (lay_str ho4) l5 (lay_str ho))
  refine ⟨_, rfl, rfl, _, rfl, ite2 (fun c => ?_) (fun c => ?_)⟩
  · refine ⟨_, rfl, b, 3, rfl, b2, by decide, by decide, fun H3 x f3 b3 x0 x1 => ⟨rfl, _, rfl, ite2 (fun c => ?_) (fun c => ?_)⟩⟩
    · refine ⟨_, rfl, b, 2, rfl, b3, by decide, by decide, fun H4 y f4 b4 y0 y1 => ⟨(by show 2 ≤ sizeLine; decide), fun t nt => ?_⟩⟩
      refine q _ _ (.tuple [.str "answer", .int y]) (f12.trans (f3.trans (f4.trans (Fr.of (same_new nt _))))) (b4.keep (same_new nt _)) (da_tup (b4.ne nt).symm upd_same (.cons (.str _) (.cons (.int _) .nil))) (plain1 roles_answer ?_) (lay2 (lay_str (by decide +kernel)) (lay_int _))
      rw [part_answer]; simp [intIn, y0]; omega
    · refine ⟨_, rfl, b, 3, rfl, b3, by decide, by decide, fun H4 r4 f4 b4 r40 r41 => ?_⟩
      obtain ⟨c4, hc4, hi4, ho4⟩ := asks_at r40 r41
      exact ⟨_, _, _, rfl, rfl, by decide +kernel, hc4, _, rfl, b, rfl, b4, fun H5 x d5 f5 b5 hd5 t5 l5 => ⟨_, rfl, (by show 4 ≤ sizeLine; decide), fun t nt => ask H3 (f12.trans f3) b3 H4 r4 f4 b4 r40 r41 c4 hc4 hi4 ho4 H5 x d5 f5 b5 hd5 t5 l5 t nt⟩⟩
  · refine iteF ⟨_, rfl, b, 3, rfl, b2, by decide, by decide, fun H4 r4 f4 b4 r40 r41 => ?_⟩
    obtain ⟨c4, hc4, hi4, ho4⟩ := asks_at r40 r41
    exact ⟨_, _, _, rfl, rfl, by decide +kernel, hc4, _, rfl, b, rfl, b4, fun H5 x d5 f5 b5 hd5 t5 l5 => ⟨_, rfl, (by show 4 ≤ sizeLine; decide), fun t nt => ask H2 f12 b2 H4 r4 f4 b4 r40 r41 c4 hc4 hi4 ho4 H5 x d5 f5 b5 hd5 t5 l5 t nt⟩⟩
end
theorem lay1 {a : PyData} (ha : Lay a) : Lay (.tuple [a]) := lay_tuple (by intro d m; simp at m; rcases m with rfl; assumption)
theorem body_nil (k : Str) (r : Nat) : bodyN k r (.tuple []) = some 0 := by cases r <;> rfl
theorem bods_if {ps : List PyData} : bodsOf (.tuple (.str "if" :: ps)) = ps.drop 1 := by
  show (if ("if" : Str) = "if" ∨ ("if" : Str) = "while" then ps.drop 1 else []) = _
  rw [if_pos (.inl rfl)]
theorem bods_while {ps : List PyData} : bodsOf (.tuple (.str "while" :: ps)) = ps.drop 1 := by
  show (if ("while" : Str) = "if" ∨ ("while" : Str) = "while" then ps.drop 1 else []) = _
  rw [if_pos (.inr rfl)]
theorem body_one (k : Str) (r : Nat) (s : PyData) : bodyN k (r + 1) (.tuple [s]) = stN k r s := by
  rw [bodyN_tup]
  simp only [List.map_cons, List.map_nil, sumO, addO_zero]
theorem bods_else {z : Str} {ps : List PyData} (h1 : ¬ z = "if") (h2 : ¬ z = "while") : bodsOf (.tuple (.str z :: ps)) = [] := by
  show (if z = "if" ∨ z = "while" then ps.drop 1 else []) = _
  rw [if_neg (by rintro (e | e); exact h1 e; exact h2 e)]
theorem roles_if (k : Str) : rolesZ "if" k = none := by
  unfold rolesZ
  rw [if_neg (by decide +kernel), if_neg (by decide +kernel), if_neg (by decide +kernel)]
  split
  · rw [if_neg (by decide +kernel), if_neg (by decide +kernel)]
  · rw [if_neg (by decide +kernel), if_neg (by decide +kernel)]
theorem roles_while (k : Str) : rolesZ "while" k = none := by
  unfold rolesZ
  rw [if_neg (by decide +kernel), if_neg (by decide +kernel), if_neg (by decide +kernel)]
  split
  · rw [if_neg (by decide +kernel), if_neg (by decide +kernel)]
  · rw [if_neg (by decide +kernel), if_neg (by decide +kernel)]
theorem plain_inv {d : PyData} {k : Str} (h : isPlain d k = true) : ∃ z ps rs, d = .tuple (.str z :: ps) ∧ rolesZ z k = some rs ∧ ps.length = rs.length ∧ allParts ps rs = true := by
  cases hw : wordOf d with
  | none =>
    have e : rolesOf (wordOf d) k = none := by rw [hw]; rfl
    rw [plain_none e] at h
    cases h
  | some z =>
    obtain ⟨ps, rfl⟩ := word_inv hw
    cases hz : rolesZ z k with
    | none =>
      have e : rolesOf (wordOf (.tuple (.str z :: ps))) k = none := hz
      rw [plain_none e] at h
      cases h
    | some rs =>
      rw [plain_some hz, Bool.and_eq_true] at h
      exact ⟨z, ps, rs, rfl, hz, of_decide_eq_true h.1, h.2⟩
theorem plain_st {d : PyData} {k : Str} (h : isPlain d k = true) : isOut d k = true ∧ bodsOf d = [] := by
  obtain ⟨z, ps, rs, rfl, hz, _⟩ := plain_inv h
  have n1 : ¬ z = "if" := fun e => by rw [e, roles_if] at hz; cases hz
  have n2 : ¬ z = "while" := fun e => by rw [e, roles_while] at hz; cases hz
  exact ⟨(out_else n1 n2).trans h, bods_else n1 n2⟩
theorem stN_plain {d : PyData} {k : Str} {r : Nat} (h : isPlain d k = true) : stN k r d = some 1 := by
  obtain ⟨h1, h2⟩ := plain_st h
  unfold stN
  rw [if_pos h1, h2]
  rfl
theorem sum_plain {k : Str} {r : Nat} : ∀ {ds : List PyData}, (∀ d ∈ ds, isPlain d k = true) → sumO (ds.map (stN k r)) = some ds.length
  | [], _ => rfl
  | d :: t, h => by
    simp only [List.map_cons, sumO]
    rw [stN_plain (h d (by simp)), sum_plain fun x m => h x (List.mem_cons_of_mem _ m)]
    simp only [addO, List.length_cons]
    congr 1
    omega
theorem kinds_in {k : Str} (h : k = "teller" ∨ k = "collector") : inS (.str k) kinds = true := by
  rcases h with rfl | rfl <;> decide +kernel
theorem strOk_kind {k : Str} (h : k = "teller" ∨ k = "collector") : PyData.strOk k = true := by
  rcases h with rfl | rfl <;> decide +kernel
/-! ### data without lists -/
mutual
def noL : PyData → Bool
  | .list _ => false
  | .tuple xs => noLAll xs
  | .none | .bool _ | .int _ | .str _ | .dict _ => true
def noLAll : List PyData → Bool
  | [] => true
  | x :: xs => noL x && noLAll xs
end
mutual
theorem dp_keepL {K : PySem.W.Frag} {H H' : Hp} {D : Addr} {ys : List V} (e : ∀ a o, a ≠ D → H a = some o → H' a = some o) (hD : H D = some (.lst ys)) : ∀ (d : PyData) (v : V), noL d = true → Dp K H v d → Dp K H' v d
  | .none, _, _, h => by cases h; exact .non
  | .bool b, _, _, h => by cases h; exact .bl b
  | .int i, _, _, h => by cases h; exact .int i
  | .str x, _, _, h => by cases h; exact .str x
  | .list ds, _, n, h => by simp [noL] at n
  | .tuple ds, _, n, h => by
    cases h with
    | tup hs ha =>
      refine .tup ?_ (dpAll_keepL e hD ds _ (by simpa [noL] using n) ha)
      rcases hs with (h | ⟨o, h⟩) | h
      · exact .inl (.inl (e _ _ (ne_of h hD (by intro z; cases z)) h))
      · exact .inl (.inr ⟨o, e _ _ (ne_of h hD (by intro z; cases z)) h⟩)
      · exact .inr h
  | .dict _, _, _, h => by cases h
theorem dpAll_keepL {K : PySem.W.Frag} {H H' : Hp} {D : Addr} {ys : List V} (e : ∀ a o, a ≠ D → H a = some o → H' a = some o) (hD : H D = some (.lst ys)) : ∀ (ds : List PyData) (vs : List V), noLAll ds = true → DpAll K H vs ds → DpAll K H' vs ds
  | [], _, _, h => by cases h; exact .nil
  | d :: ds, _, n, h => by
    simp only [noLAll, Bool.and_eq_true] at n
    cases h with
    | cons hd ht => exact .cons (dp_keepL e hD d _ n.1 hd) (dpAll_keepL e hD ds _ n.2 ht)
end
theorem part_noL {p : PyData} {r : Str} (h : isPart p r = true) : noL p = true := by
  cases p with
  | list xs => unfold isPart at h; repeat' split at h
               all_goals simp [inS, isTerm, intIn] at h
  | tuple xs => unfold isPart at h; repeat' split at h
                all_goals simp [inS, isTerm, intIn] at h
  | _ => rfl
theorem parts_noL : ∀ {ps : List PyData} {rs : List Str}, ps.length = rs.length → allParts ps rs = true → noLAll ps = true
  | [], _, _, _ => rfl
  | p :: ps, [], l, _ => by simp at l
  | p :: ps, r :: rs, l, h => by
    have h' : isPart p r = true ∧ allParts ps rs = true := by
      simpa [allParts] using h
    simp only [noLAll, Bool.and_eq_true]
    exact ⟨part_noL h'.1, parts_noL (by simpa using l) h'.2⟩
theorem plain_noL {d : PyData} {k : Str} (h : isPlain d k = true) : noL d = true := by
  obtain ⟨z, ps, rs, rfl, hz, hl, hp⟩ := plain_inv h
  simp only [noL, noLAll, Bool.true_and]
  exact parts_noL hl hp
theorem all_noL {k : Str} : ∀ {ds : List PyData}, (∀ d ∈ ds, isPlain d k = true ∧ Lay d) → noLAll ds = true
  | [], _ => rfl
  | d :: t, h => by
    simp only [noLAll, Bool.and_eq_true]
    exact ⟨plain_noL (h d (by simp)).1, all_noL fun x m => h x (List.mem_cons_of_mem _ m)⟩
theorem dpAll_append {K : PySem.W.Frag} {H : Hp} : ∀ {xs ys : List V} {ds es : List PyData}, DpAll K H xs ds → DpAll K H ys es → DpAll K H (xs ++ ys) (ds ++ es)
  | _, _, _, _, .nil, h => h
  | _, _, _, _, .cons a t, h => .cons a (dpAll_append t h)
theorem dpAll_take {K : PySem.W.Frag} {H : Hp} : ∀ (n : Nat) {xs : List V} {ds : List PyData}, DpAll K H xs ds → DpAll K H (xs.take n) (ds.take n)
  | 0, _, _, _ => .nil
  | n + 1, _, _, .nil => .nil
  | n + 1, _, _, .cons a t => .cons a (dpAll_take n t)
theorem cut_lo (xs : List V) (n : Nat) : cutV xs none (some (n : Int)) = xs.take n := by
  unfold cutV
  rw [HT.sIx_nat, HT.sIx_none, List.drop_zero, Nat.sub_zero, List.take_eq_take_iff]
  omega
theorem cut_hi (xs : List V) (n : Nat) : cutV xs (some (n : Int)) none = xs.drop n := by
  unfold cutV
  rw [HT.sIx_nat, HT.sIx_none]
  by_cases h : n ≤ xs.length
  · rw [Nat.min_eq_left h, List.take_of_length_le (by rw [List.length_drop]; omega)]
  · rw [Nat.min_eq_right (by omega), List.drop_of_length_le (Nat.le_refl _), List.drop_of_length_le (by omega)]
    simp
theorem and_one {c e : Bool} {tb : TE} {σ : L2.St} {H : Hp} {Q : VK} (h : ∀ Q' : VK, Q' (.bl e) H → tb σ H Q') (q : Q (.bl (c && e)) H) : if c = true then tb σ H Q else Q (.bl false) H := by
  cases c with
  | true => exact iteT (h _ q)
  | false => exact iteF q
theorem Bag.upd {H : Hp} {b D : Addr} {o : HO} (h : Bag H b) (n : D ≠ b) : Bag (upd H D o) b := by
  obtain ⟨c, s, e, r⟩ := h
  exact ⟨c, s, by rw [upd_ne n.symm]; exact e, r⟩
theorem hide_upd {b D : Addr} {H : Hp} {o : HO} : ∀ a u, a ≠ D → hide b H a = some u → hide b (L2.upd H D o) a = some u := fun a u n h => by
  unfold hide at h ⊢
  split at h
  · cases h
  · rename_i nb
    rw [if_neg nb, upd_ne n]
    exact h
theorem fr_upd {b D : Addr} {H H' : Hp} (f : Fr b H H') (n : H D = none) (o : HO) : Fr b H (upd H' D o) := fun x u nx h => by
  rw [upd_ne (ne_of_none h n)]
  exact f _ _ nx h
abbrev sStmt : Stmt := top 51
abbrev sBody : Stmt := top 52
abbrev sProgL : Stmt := top 53
def Fr2 (b m : Addr) (H H' : Hp) : Prop := ∀ a o, a ≠ b → a ≠ m → H a = some o → H' a = some o
theorem Fr2.refl (b m : Addr) (H : Hp) : Fr2 b m H H := fun _ _ _ _ h => h
theorem Fr2.trans {b m : Addr} {H H1 H2 : Hp} (x : Fr2 b m H H1) (y : Fr2 b m H1 H2) : Fr2 b m H H2 := fun a o n1 n2 h => y a o n1 n2 (x a o n1 n2 h)
theorem Fr.two {b m : Addr} {H H' : Hp} (x : Fr b H H') : Fr2 b m H H' := fun a o n _ h => x a o n h
theorem Same.two {b m : Addr} {H H' : Hp} (x : Same H H') : Fr2 b m H H' := fun a o _ _ h => x a o h
theorem Fr2.updm {b m : Addr} {H : Hp} (o : HO) : Fr2 b m H (upd H m o) := fun a u _ n h => by rw [upd_ne n]; exact h
def Rm (H : Hp) (m : Addr) (r : Nat) : Prop := H m = some (.lst [.int (r : Nat)])
theorem da_fr2 {K : PySem.W.Frag} {b m : Addr} {H H' : Hp} {v : V} {d : PyData} {ys : List V} (n : noL d = true) (h : Da K b H v d) (f : Fr2 b m H H') (hm : H m = some (.lst ys)) (nm : m ≠ b) : Da K b H' v d := by
  refine dp_keepL (D := m) (ys := ys) (fun a o na ha => ?_) (hide_get nm hm) d v n h
  unfold hide at ha ⊢
  split at ha
  · cases ha
  · rename_i nb
    rw [if_neg nb]
    exact f a o nb na ha
theorem daAll_fr2 {K : PySem.W.Frag} {b m : Addr} {H H' : Hp} {vs : List V} {ds : List PyData} {ys : List V} (n : noLAll ds = true) (h : DpAll K (hide b H) vs ds) (f : Fr2 b m H H') (hm : H m = some (.lst ys)) (nm : m ≠ b) : DpAll K (hide b H') vs ds := by
  refine dpAll_keepL (D := m) (ys := ys) (fun a o na ha => ?_) (hide_get nm hm) ds vs n h
  unfold hide at ha ⊢
  split at ha
  · cases ha
  · rename_i nb
    rw [if_neg nb]
    exact f a o nb na ha
theorem term_noL {d : PyData} (h : isTerm d = true) : noL d = true := by
  cases d with
  | list xs => simp [isTerm, inS, intIn] at h
  | tuple xs => simp [isTerm, inS, intIn] at h
  | _ => rfl
theorem inS_noL {d : PyData} {zs : List Str} (h : inS d zs = true) : noL d = true := by
  cases d with
  | list xs => simp [inS] at h
  | tuple xs => simp [inS] at h
  | _ => rfl
theorem cond_noL {d : PyData} (h : isCond d = true) : noL d = true := by
  match d, h with
  | .tuple [x, y, z], h =>
    have h' : (inS x vars && inS y signs && isTerm z) = true := h
    rw [Bool.and_eq_true, Bool.and_eq_true] at h'
    simp only [noL, noLAll, inS_noL h'.1.1, inS_noL h'.1.2, term_noL h'.2]
    rfl
def spBody (K : PySem.W.Frag) (n : Nat) : Sp := fun vs H Q _ => ∃ (b m : Addr) (k : Str) (r : Nat) (dep mo : Int), vs = [.ref b, .str k, .ref m, .int dep, .int mo] ∧ dep = 5 - (n : Int) ∧ n ≤ 4 ∧ Bag H b ∧ Rm H m r ∧ m ≠ b ∧ (k = "teller" ∨ k = "collector") ∧ mo < 1000 ∧
  ∀ H' v d r' c, Fr2 b m H H' → Bag H' b → Rm H' m r' → Da K b H' v d → noL d = true → Lay d → bodyN k n d = some c → r' + c = r → Q v H'
def spStmt (K : PySem.W.Frag) (n : Nat) : Sp := fun vs H Q _ => ∃ (b m : Addr) (k : Str) (r : Nat) (dep : Int), vs = [.ref b, .str k, .ref m, .int dep] ∧ dep = 4 - (n : Int) ∧ n ≤ 3 ∧ Bag H b ∧ Rm H m r ∧ m ≠ b ∧ (k = "teller" ∨ k = "collector") ∧
  ∀ H' v d r' c, Fr2 b m H H' → Bag H' b → Rm H' m r' → Da K b H' v d → noL d = true → Lay d → stN k n d = some (1 + c) → r' + c = r → Q v H'
theorem sumO_snoc (xs : List (Option Nat)) (x : Option Nat) : sumO (xs ++ [x]) = addO (sumO xs) x := by
  rw [sumO_append]
  simp only [sumO, addO_zero]
theorem noLAll_snoc : ∀ {ds : List PyData} {d : PyData}, noLAll ds = true → noL d = true → noLAll (ds ++ [d]) = true
  | [], d, _, h => by simp [noLAll, h]
  | x :: r, d, h, h2 => by
    simp only [noLAll, Bool.and_eq_true] at h
    rw [List.cons_append]
    simp only [noLAll, Bool.and_eq_true]
    exact ⟨h.1, noLAll_snoc h.2 h2⟩
section
variable {P : Program} {w : World} {K : PySem.W.Frag} {mg : Str → Option Value} {base : Heap}
theorem scBody : FnScope ["_law_bag_here", "_law_kind", "_law_room", "_law_depth", "_law_most", "_law_body_here", "_law_turn"] ["_law_bag_here", "_law_kind", "_law_room", "_law_depth", "_law_most"] (defScope sBody) := ⟨rfl, rfl, rfl, by decide +kernel, rfl, by decide +kernel, by decide +kernel⟩
theorem ok_body {f : Addr} {fd : FuncData} {lv n : Nat} (hlv : 1 ≤ lv) (F : Fun K "_law_body" "_law_body" sBody f fd) (T : Gs K mg) (T2 : G2 mg) (CD : Cal P w K mg base 1 "_law_draw" ["_law_bag_here", "_law_many"] spDraw)
    (CS : Cal P w K mg base lv "_law_statement" ["_law_bag_here", "_law_kind", "_law_room", "_law_depth"] (fun vs H Q E => n ≠ 0 ∧ spStmt K (n - 1) vs H Q E)) :
    FnOk P w K mg base CX0 (lv + 1) f fd ["_law_bag_here", "_law_kind", "_law_room", "_law_depth", "_law_most"] (spBody K n) := by
  refine F.ok scBody (fun vs H Q E h => ?_) (fun cdv A outer s H vs Q E hr h => ?_)
  · obtain ⟨b, m, k, r, dep, mo, rfl, _⟩ := h
    rfl
  obtain ⟨b, m, k, r, dep, mo, rfl, hdep, hn, hb, hm, nmb, hk, hmo, q⟩ := h
  have hr1 : Room 1 _ := hr.mono hlv
  refine ⟨_, pss_cons (ps_set (i := 5) scBody.nd rfl (.inl rfl) (pe_lst pa_nil))
    (pss_cons (ps_for PassesOwn.never rfl (pi_range1 (by rfl) T2.range (pa_cons (pe_call CD.G hr1 rfl CD.m CD.kp CD.b .nil pass0 (pa_cons (pv 0) (pa_cons (pe_callB (call_max2 rfl) (by rfl) T2.max (by decide +kernel) (pa_cons pe_int (pa_cons (pv 4) pa_nil))) pa_nil))) pa_nil)) (pg_name (i := 6) scBody.nd rfl (.inl rfl))
      (pss_one (ps_if (PW.pt (pw_and (pt_cmpR op_gt (pe_ix ix_list (pv 2) pe_int (fun _ _ => rfl)) pe_int (nomark _)) (pw_and1 (pt_cmpR op_lt (pv 3) pe_int (nomark _)))))
        (pss_cons (ps_asg (pe_op op_sub (pe_ix ix_list (pv 2) pe_int (fun _ _ => rfl)) pe_int) (pg_sub (pv 2) pe_int set_list))
        (pss_one (ps_expr (pe_bm PySem.F.plainAttrs_list PySem.F.slot_list_append PySem.F.type_list_append mt_append (pv 5) (pa_cons (pe_call CS.G hr rfl CS.m CS.kp CS.b .nil pass0 (pa_cons (pv 0) (pa_cons (pv 1) (pa_cons (pv 2) (pa_cons (pv 3) pa_nil))))) pa_nil))))) pss_nil)))
    (pss_one (ps_ret (pe_callTy call_tuple_of (by rfl) T.tup (by decide +kernel) (pa_cons (pv 5) pa_nil))))), ?_⟩
  refine ⟨(by show 0 ≤ sizeLine; decide), fun l nl => ?_⟩
  have nlb : l ≠ b := (hb.ne nl).symm
  have nlm : l ≠ m := fun e => by rw [e, hm] at nl; cases nl
  refine ⟨_, rfl, _, rfl, _, _, rfl, b, _, rfl, hb.keep (same_new nl _), ?_, ?_, fun H1 t f1 b1 t0 t1 => ?_⟩
  · split <;> omega
  · split <;> omega
  have hm1 : Rm H1 m r := f1 m _ nmb (by rw [upd_ne nlm.symm]; exact hm)
  have hl1 : H1 l = some (.lst []) := f1 l _ nlb upd_same
  have t1000 : t < 1000 := by split at t1 <;> omega
  refine ⟨_, rfl, by omega, by omega, for_range (lo := 0) (n := t.toNat) (fun i σ H' => ∃ (xs : List V) (ds : List PyData) (r1 c1 : Nat) (s6 : Option V), σ = [some (.ref b), some (.str k), some (.ref m), some (.int dep), some (.int mo), some (.ref l), s6] ∧
      Fr2 b m H H' ∧ Bag H' b ∧ Rm H' m r1 ∧ H' l = some (.lst xs) ∧ DpAll K (hide b H') xs ds ∧ noLAll ds = true ∧ (∀ d ∈ ds, Lay d) ∧ bodyN k n (.tuple ds) = some c1 ∧ r1 + c1 = r ∧ xs.length ≤ i)
    ⟨[], [], r, 0, none, rfl, ((Fr.of (same_new nl _)).two).trans f1.two, b1, hm1, hl1, .nil, rfl, by simp, body_nil k n, rfl, Nat.le_refl 0⟩ ?_ ?_⟩
  · rintro i σ H2 hi ⟨xs, ds, r1, c1, s6, rfl, f2, b2, hm2, hl2, hds, hno, hly, hc1, hrc, hxl⟩
    refine ⟨_, rfl, m, _, _, _, rfl, rfl, SqL.of hm2, atI_nat (j := 0) rfl, _, _, rfl, rfl, _, rfl, ?_⟩
    have keep : ∃ (xs : List V) (ds : List PyData) (r1 c1 : Nat) (s6' : Option V), ([some (.ref b), some (.str k), some (.ref m), some (.int dep), some (.int mo), some (.ref l), some (.int (0 + (i : Nat)))] : L2.St) = [some (.ref b), some (.str k), some (.ref m), some (.int dep), some (.int mo), some (.ref l), s6'] ∧
      Fr2 b m H H2 ∧ Bag H2 b ∧ Rm H2 m r1 ∧ H2 l = some (.lst xs) ∧ DpAll K (hide b H2) xs ds ∧ noLAll ds = true ∧ (∀ d ∈ ds, Lay d) ∧ bodyN k n (.tuple ds) = some c1 ∧ r1 + c1 = r ∧ xs.length ≤ i + 1 := ⟨xs, ds, r1, c1, _, rfl, f2, b2, hm2, hl2, hds, hno, hly, hc1, hrc, by omega⟩
    by_cases c0 : (0 : Int) < (r1 : Nat)
    · rw [decide_eq_true c0]
      refine iteT ⟨_, rfl, _, _, rfl, rfl, _, rfl, ?_⟩
      by_cases c5 : dep < 5
      · rw [decide_eq_true c5]
        refine iteT ⟨_, rfl, m, _, _, _, rfl, rfl, SqL.of hm2, atI_nat (j := 0) rfl, _, _, rfl, rfl, _, rfl, m, _, _, 0, rfl, rfl, hm2, rfl, ?_⟩
        obtain ⟨r2, rfl⟩ : ∃ r2, r1 = r2 + 1 := ⟨r1 - 1, by omega⟩
        have hm3 : Rm (upd H2 m (.lst ([V.int ((r2 + 1 : Nat) : Int)].set 0 (V.int (((r2 + 1 : Nat) : Int) - 1))))) m r2 := by
          show _ = some (HO.lst [V.int (r2 : Nat)])
          rw [upd_same]
          show some (HO.lst [V.int (((r2 + 1 : Nat) : Int) - 1)]) = _
          rw [show (((r2 + 1 : Nat) : Int) - 1) = ((r2 : Nat) : Int) by omega]
        have b3 : Bag (upd H2 m (.lst ([V.int ((r2 + 1 : Nat) : Int)].set 0 (V.int (((r2 + 1 : Nat) : Int) - 1))))) b := b2.upd nmb
        have f3 : Fr2 b m H2 (upd H2 m (.lst ([V.int ((r2 + 1 : Nat) : Int)].set 0 (V.int (((r2 + 1 : Nat) : Int) - 1))))) := Fr2.updm _
        have hl3 : (upd H2 m (.lst ([V.int ((r2 + 1 : Nat) : Int)].set 0 (V.int (((r2 + 1 : Nat) : Int) - 1))))) l = some (.lst xs) := by rw [upd_ne nlm]; exact hl2
        have hds3 := daAll_fr2 hno hds f3 hm2 nmb
        generalize upd H2 m (.lst ([V.int ((r2 + 1 : Nat) : Int)].set 0 (V.int (((r2 + 1 : Nat) : Int) - 1)))) = H3 at hm3 b3 f3 hl3 hds3 ⊢
        refine ⟨_, rfl, .inl ⟨rfl, _, SqL.of hl3⟩, _, rfl, _, rfl, _, rfl, _, rfl, by omega, b, m, k, r2, dep, rfl, by omega, by omega, b3, hm3, nmb, hk, fun H4 v d r4 c4 f4 b4 hm4 hd4 no4 ly4 hc4 hr4 => ?_⟩
        have hl4 := f4 l _ nlb nlm hl3
        have hds4 := daAll_fr2 hno hds3 f4 hm3 nmb
        refine ⟨l, _, _, rfl, rfl, hl4, ?_, xs ++ [v], ds ++ [d], r4, c1 + (1 + c4), _, rfl, ?_, b4.upd nlb, ?_, upd_same, ?_, noLAll_snoc hno no4, ?_, ?_, by omega, by rw [List.length_append]; show xs.length + 1 ≤ _; omega⟩
        · exact Nat.lt_of_le_of_lt (by omega : _ ≤ 1000) (by decide)
        · intro a o n1 n2 ha
          have nal : a ≠ l := ne_of_none ha nl
          rw [upd_ne nal]
          exact (f2.trans (f3.trans f4)) a o n1 n2 ha
        · show _ = _
          rw [upd_ne nlm.symm]
          exact hm4
        · have eD : hide b H4 l = some (.lst xs) := hide_get nlb hl4
          exact dpAll_append (dpAll_keepL hide_upd eD _ _ hno hds4) (.cons (dp_keepL hide_upd eD _ _ no4 hd4) .nil)
        · intro x mx
          rcases List.mem_append.mp mx with mx | mx
          · exact hly x mx
          · rw [List.mem_singleton.mp mx]; exact ly4
        · obtain ⟨n', rfl⟩ : ∃ n', n = n' + 1 := ⟨n - 1, by omega⟩
          rw [bodyN_tup] at hc1 ⊢
          rw [List.map_append]
          show sumO (ds.map (stN k n') ++ [stN k n' d]) = _
          rw [sumO_snoc, hc1]
          have e4 : stN k n' d = some (1 + c4) := hc4
          rw [e4]
          rfl
      · rw [decide_eq_false c5]
        exact iteF keep
    · rw [decide_eq_false c0]
      exact iteF (iteF keep)
  · rintro σ H2 ⟨xs, ds, r1, c1, s6, rfl, f2, b2, hm2, hl2, hds, hno, hly, hc1, hrc, hxl⟩
    refine ⟨_, rfl, l, _, rfl, .inl ⟨SqL.of hl2, fun t nt => ?_⟩⟩
    have g : Fr b H2 (upd H2 t (.tup xs)) := Fr.of (same_new nt _)
    refine q _ _ (.tuple ds) r1 c1 (f2.trans g.two) (b2.keep (same_new nt _)) (same_new nt _ _ _ hm2) (da_tup (b2.ne nt).symm upd_same (dpAll_mono (hide_mono g) _ _ hds)) ?_ (lay_tuple hly) hc1 hrc
    simp only [noL]
    exact hno
theorem scStmt : FnScope ["_law_bag_here", "_law_kind", "_law_room", "_law_depth", "_law_way", "_law_condition_here", "_law_first"] ["_law_bag_here", "_law_kind", "_law_room", "_law_depth"] (defScope sStmt) := ⟨rfl, rfl, rfl, by decide +kernel, rfl, by decide +kernel, by decide +kernel⟩
theorem ok_stmt {f : Addr} {fd : FuncData} {lv n : Nat} (hlv : 4 ≤ lv) (F : Fun K "_law_statement" "_law_statement" sStmt f fd) (CD : Cal P w K mg base 1 "_law_draw" ["_law_bag_here", "_law_many"] spDraw) (CM : Cal P w K mg base 4 "_law_simple" ["_law_bag_here", "_law_kind"] (spSimple K)) (CC : Cal P w K mg base 3 "_law_condition" ["_law_bag_here"] (spCondL K))
    (CB : Cal P w K mg base lv "_law_body" ["_law_bag_here", "_law_kind", "_law_room", "_law_depth", "_law_most"] (spBody K n)) :
    FnOk P w K mg base CX0 (lv + 1) f fd ["_law_bag_here", "_law_kind", "_law_room", "_law_depth"] (spStmt K n) := by
  refine F.ok scStmt (fun vs H Q E h => ?_) (fun cdv A outer s H vs Q E hr h => ?_)
  · obtain ⟨b, m, k, r, dep, rfl, _⟩ := h
    rfl
  obtain ⟨b, m, k, r, dep, rfl, hdep, hn, hb, hm, nmb, hk, q⟩ := h
  have hr1 : Room 1 _ := hr.mono (by omega)
  have hr3 : Room 3 _ := hr.mono (by omega)
  have hr4 : Room 4 _ := hr.mono (by omega)
  refine ⟨_, pss_cons (ps_set (i := 4) scStmt.nd rfl (.inl rfl) (pe_call CD.G hr1 rfl CD.m CD.kp CD.b .nil pass0 (pa_cons (pv 0) (pa_cons pe_int pa_nil))))
    (pss_cons (ps_if (pt_cmpR op_gt (pv 4) pe_int (nomark _)) (pss_one (ps_ret (pe_call CM.G hr4 rfl CM.m CM.kp CM.b .nil pass0 (pa_cons (pv 0) (pa_cons (pv 1) pa_nil))))) pss_nil)
    (pss_cons (ps_set (i := 5) scStmt.nd rfl (.inl rfl) (pe_call CC.G hr3 rfl CC.m CC.kp CC.b .nil pass0 (pa_cons (pv 0) pa_nil)))
    (pss_cons (ps_set (i := 6) scStmt.nd rfl (.inl rfl) (pe_call CB.G hr rfl CB.m CB.kp CB.b .nil pass0 (pa_cons (pv 0) (pa_cons (pv 1) (pa_cons (pv 2) (pa_cons (pe_op op_add (pv 3) pe_int) (pa_cons pe_int pa_nil)))))))
    (pss_cons (ps_if (pt_cmpR op_eq (pv 4) pe_int (nomark _)) (pss_one (ps_ret (pe_tup (pa_cons pe_str (pa_cons (pv 5) (pa_cons (pv 6) pa_nil)))))) pss_nil)
    (pss_one (ps_ret (pe_tup (pa_cons pe_str (pa_cons (pv 5) (pa_cons (pv 6) (pa_cons (pe_call CB.G hr rfl CB.m CB.kp CB.b .nil pass0 (pa_cons (pv 0) (pa_cons (pv 1) (pa_cons (pv 2) (pa_cons (pe_op op_add (pv 3) pe_int) (pa_cons (pe_op op_mul pe_int (pe_op op_sub (pv 4) pe_int)) pa_nil)))))) pa_nil))))))))))), ?_⟩
  refine ⟨_, rfl, b, 7, rfl, hb, by decide, by decide, fun H1 wy f1 b1 w0 w1 => ⟨_, rfl, _, _, rfl, rfl, _, rfl, ?_⟩⟩
  have hm1 : Rm H1 m r := f1 m _ nmb hm
  refine ite2 (fun c => ?_) (fun c => ?_)
  · refine ⟨_, rfl, _, rfl, b, k, rfl, b1, hk, fun H2 v d f2 b2 hd hp hl => ?_⟩
    exact q _ _ d r 0 (f1.trans f2).two b2 (f2 m _ nmb hm1) hd (plain_noL hp) hl (by rw [stN_plain hp]) rfl
  have c' : ¬ (2 : Int) < wy := of_decide_eq_false (Bool.eq_false_iff.mpr c)
  refine ⟨_, rfl, b, rfl, b1, fun H2 v2 d2 f2 b2 hd2 hc2 l2 => ?_⟩
  have hm2 : Rm H2 m r := f2 m _ nmb hm1
  refine ⟨_, rfl, _, rfl, _, rfl, _, rfl, _, _, rfl, rfl, b, m, k, r, _, _, rfl, by omega, by omega, b2, hm2, nmb, hk, by decide, fun H3 v3 d3 r3 c3 f3 b3 hm3 hd3 no3 l3 hb3 hr3' => ?_⟩
  have hd2' : Da K b H3 v2 d2 := da_fr2 (cond_noL hc2) hd2 f3 hm2 nmb
  have f13 : Fr2 b m H H3 := (f1.two).trans ((f2.two).trans f3)
  refine ⟨_, rfl, rfl, _, rfl, ite2 (fun c => ?_) (fun c => ?_)⟩
  · refine ⟨_, rfl, _, rfl, (by show 3 ≤ sizeLine; decide), fun t nt => ?_⟩
    have g : Fr b H3 (upd H3 t (.tup [.str "while", v2, v3])) := Fr.of (same_new nt _)
    refine q _ _ (.tuple [.str "while", d2, d3]) r3 c3 (f13.trans g.two) (b3.keep (same_new nt _)) (same_new nt _ _ _ hm3) (da_tup (b3.ne nt).symm upd_same (.cons (.str _) (.cons (hd2'.fr g) (.cons (hd3.fr g) .nil)))) ?_ (lay3 (lay_str (by decide +kernel)) l2 l3) ?_ hr3'
    · simp only [noL, noLAll, cond_noL hc2, no3]
      rfl
    · unfold stN
      have e : isOut (.tuple (.str "while" :: [d2, d3])) k = true := out_while.trans hc2
      rw [if_pos e, bods_while]
      simp only [List.drop_succ_cons, List.drop_zero, List.map_cons, List.map_nil, sumO, addO_zero, hb3]
      rfl
  · refine ⟨_, rfl, _, rfl, _, rfl, _, rfl, _, rfl, _, rfl, _, _, rfl, rfl, _, rfl, _, _, rfl, rfl, _, _, rfl, rfl, .inl (by decide), b, m, k, r3, _, _, rfl, by omega, by omega, b3, hm3, nmb, hk, by omega, fun H4 v4 d4 r4 c4 f4 b4 hm4 hd4 no4 l4 hb4 hr4' => ⟨(by show 4 ≤ sizeLine; decide), fun t nt => ?_⟩⟩
    have hd2'' : Da K b H4 v2 d2 := da_fr2 (cond_noL hc2) hd2' f4 hm3 nmb
    have hd3' : Da K b H4 v3 d3 := da_fr2 no3 hd3 f4 hm3 nmb
    have g : Fr b H4 (upd H4 t (.tup [.str "if", v2, v3, v4])) := Fr.of (same_new nt _)
    refine q _ _ (.tuple [.str "if", d2, d3, d4]) r4 (c3 + c4) (f13.trans (f4.trans g.two)) (b4.keep (same_new nt _)) (same_new nt _ _ _ hm4) (da_tup (b4.ne nt).symm upd_same (.cons (.str _) (.cons (hd2''.fr g) (.cons (hd3'.fr g) (.cons (hd4.fr g) .nil))))) ?_ (lay4 (lay_str (by decide +kernel)) l2 l3 l4) ?_ (by omega)
    · simp only [noL, noLAll, cond_noL hc2, no3, no4]
      rfl
    · unfold stN
      have e : isOut (.tuple (.str "if" :: [d2, d3, d4])) k = true := out_if.trans hc2
      rw [if_pos e, bods_if]
      simp only [List.drop_succ_cons, List.drop_zero, List.map_cons, List.map_nil, sumO, addO_zero, hb3, hb4]
      rfl
theorem none_stmt {f : Addr} {fd : FuncData} (lv : Nat) : FnOk P w K mg base CX0 lv f fd ["_law_bag_here", "_law_kind", "_law_room", "_law_depth"] (fun vs H Q E => 0 ≠ 0 ∧ spStmt K (0 - 1) vs H Q E) :=
  ⟨fun vs H Q E h => absurd rfl h.1, fun A outer s H args us vs Q E _ _ _ _ h => absurd rfl h.1⟩
theorem both {f g : Addr} {fd gd : FuncData} (FB : Fun K "_law_body" "_law_body" sBody f fd) (bB : Binds K fd ["_law_bag_here", "_law_kind", "_law_room", "_law_depth", "_law_most"] []) (mB : mg "_law_body" = some (.ref f))
    (FS : Fun K "_law_statement" "_law_statement" sStmt g gd) (bS : Binds K gd ["_law_bag_here", "_law_kind", "_law_room", "_law_depth"] []) (mS : mg "_law_statement" = some (.ref g)) (T : Gs K mg) (T2 : G2 mg)
    (CD : Cal P w K mg base 1 "_law_draw" ["_law_bag_here", "_law_many"] spDraw) (CM : Cal P w K mg base 4 "_law_simple" ["_law_bag_here", "_law_kind"] (spSimple K)) (CC : Cal P w K mg base 3 "_law_condition" ["_law_bag_here"] (spCondL K)) :
    ∀ n : Nat, FnOk P w K mg base CX0 (5 + 2 * n) f fd ["_law_bag_here", "_law_kind", "_law_room", "_law_depth", "_law_most"] (spBody K n)
  | 0 => ok_body (lv := 4) (by decide) FB T T2 CD ⟨g, gd, none_stmt 4, bS, FS.kp, mS⟩
  | n + 1 => by
    have ih := both FB bB mB FS bS mS T T2 CD CM CC n
    have st := ok_stmt (lv := 5 + 2 * n) (n := n) (by omega) FS CD CM CC ⟨f, fd, ih, bB, FB.kp, mB⟩
    have st2 : FnOk P w K mg base CX0 (5 + 2 * n + 1) g gd ["_law_bag_here", "_law_kind", "_law_room", "_law_depth"] (fun vs H Q E => n + 1 ≠ 0 ∧ spStmt K (n + 1 - 1) vs H Q E) :=
      ⟨fun vs H Q E h => st.len vs H Q E h.2, fun A outer s H args us vs Q E h1 h2 h3 h4 h => st.run A outer s H args us vs Q E h1 h2 h3 h4 h.2⟩
    exact ok_body (lv := 5 + 2 * n + 1) (n := n + 1) (by omega) FB T T2 CD ⟨g, gd, st2, bS, FS.kp, mS⟩
def spProgL (K : PySem.W.Frag) : Sp := fun vs H Q _ => ∃ (b : Addr) (k : Str), vs = [.ref b, .str k, .int 24] ∧ Bag H b ∧ (k = "teller" ∨ k = "collector") ∧
  ∀ H' t v d, Fr b H H' → Bag H' b → H' t = some (.tup [.str k, v]) → t ≠ b → Da K b H' v d → isProg (.tuple [.str k, d]) = true → Lay d → noL d = true → Q (.ref t) H'
theorem scProgL : FnScope ["_law_bag_here", "_law_kind", "_law_most", "_law_room"] ["_law_bag_here", "_law_kind", "_law_most"] (defScope sProgL) := ⟨rfl, rfl, rfl, by decide +kernel, rfl, by decide +kernel, by decide +kernel⟩
theorem ok_progL {f : Addr} {fd : FuncData} (F : Fun K "_law_program" "_law_program" sProgL f fd) (CD : Cal P w K mg base 1 "_law_draw" ["_law_bag_here", "_law_many"] spDraw) (CB : Cal P w K mg base 13 "_law_body" ["_law_bag_here", "_law_kind", "_law_room", "_law_depth", "_law_most"] (spBody K 4)) :
    FnOk P w K mg base CX0 14 f fd ["_law_bag_here", "_law_kind", "_law_most"] (spProgL K) := by
  refine F.ok scProgL (fun vs H Q E h => ?_) (fun cdv A outer s H vs Q E hr h => ?_)
  · obtain ⟨b, k, rfl, _⟩ := h
    rfl
  obtain ⟨b, k, rfl, hb, hk, q⟩ := h
  have hr1 : Room 1 _ := hr.mono (by decide)
  refine ⟨_, pss_cons (ps_set (i := 3) scProgL.nd rfl (.inl rfl) (pe_lst (pa_cons (pe_call CD.G hr1 rfl CD.m CD.kp CD.b .nil pass0 (pa_cons (pv 0) (pa_cons (pe_op op_add (pv 2) pe_int) pa_nil))) pa_nil)))
    (pss_one (ps_ret (pe_tup (pa_cons (pv 1) (pa_cons (pe_call CB.G hr rfl CB.m CB.kp CB.b .nil pass0 (pa_cons (pv 0) (pa_cons (pv 1) (pa_cons (pv 3) (pa_cons pe_int (pa_cons (pe_ix ix_list (pe_lst (pa_cons pe_int (pa_cons (pe_op op_add (pv 2) pe_int) pa_nil))) (pe_call CD.G hr1 rfl CD.m CD.kp CD.b .nil pass0 (pa_cons (pv 0) (pa_cons pe_int pa_nil))) (fun _ _ => rfl)) pa_nil)))))) pa_nil))))), ?_⟩
  refine ⟨_, rfl, _, rfl, _, _, rfl, rfl, b, _, rfl, hb, by decide, by decide, fun H1 r f1 b1 r0 r1 => ⟨(by show 1 ≤ sizeLine; decide), fun m nm => ?_⟩⟩
  obtain ⟨rn, rfl⟩ : ∃ rn : Nat, r = rn := ⟨r.toNat, by omega⟩
  have nmb : m ≠ b := (b1.ne nm).symm
  have b2 := b1.keep (same_new nm (.lst [.int (rn : Nat)]))
  have g2 : Fr b H1 (upd H1 m (.lst [.int (rn : Nat)])) := Fr.of (same_new nm _)
  have hm2 : Rm (upd H1 m (.lst [.int (rn : Nat)])) m rn := upd_same
  generalize upd H1 m (.lst [.int (rn : Nat)]) = H2 at b2 g2 hm2 ⊢
  refine ⟨_, rfl, _, rfl, _, rfl, _, rfl, _, rfl, _, _, rfl, rfl, (by show 2 ≤ sizeLine; decide), fun l nl => ?_⟩
  have nlb : l ≠ b := (b2.ne nl).symm
  have b3 := b2.keep (same_new nl (.lst [.int 7, .int (24 + 1)]))
  refine ⟨_, rfl, b, 2, rfl, b3, by decide, by decide, fun H4 r4 f4 b4 r40 r41 => ?_⟩
  have hm4 : Rm H4 m rn := f4 m _ nmb (same_new nl _ _ _ hm2)
  obtain ⟨x, hx, hc⟩ := at2 (x := V.int 7) (y := V.int (24 + 1)) r40 r41
  refine ⟨l, _, _, _, rfl, rfl, SqL.of (f4 l _ nlb upd_same), hx, ?_⟩
  obtain ⟨mo, rfl, hmo⟩ : ∃ mo : Int, x = .int mo ∧ mo < 1000 := by
    rcases hc with rfl | rfl
    · exact ⟨_, rfl, by decide⟩
    · exact ⟨_, rfl, by decide⟩
  refine ⟨b, m, k, rn, 1, mo, rfl, by decide, by decide, b4, hm4, nmb, hk, hmo, fun H5 v d r5 c5 f5 b5 hm5 hd5 no5 ly5 hc5 hr5 => ⟨(by show 2 ≤ sizeLine; decide), fun t nt => ?_⟩⟩
  have g6 : Fr b H5 (upd H5 t (.tup [.str k, v])) := Fr.of (same_new nt _)
  have fr : Fr b H (upd H5 t (.tup [.str k, v])) := by
    intro a o n1 ha
    have ha1 := f1 a o n1 ha
    have nam : a ≠ m := ne_of_none ha1 nm
    exact g6 a o n1 (f5 a o n1 nam (f4 a o n1 (same_new nl _ _ _ (g2 a o n1 ha1))))
  refine q _ _ _ d fr (b5.keep (same_new nt _)) upd_same (b5.ne nt).symm (hd5.fr g6) ?_ ly5 no5
  show (inS (.str k) kinds && okN 0 (bodyN k 4 d)) = true
  rw [kinds_in hk, hc5]
  exact decide_eq_true (by omega)
end
abbrev sWhole : Stmt := top 54
section
variable {X : Cx}
def rInSL (K : PySem.W.Frag) (neg : Bool) : R2 := fun x y H Q => ∃ (d : PyData) (zs : List Str) (p : Addr), y = .ref p ∧ Dp K H x d ∧ d.canLay0 = true ∧ H p = some (.lst (zs.map V.str)) ∧ zs.all PyData.strOk = true ∧
  Q (.bl (if neg then !inS d zs else inS d zs)) H
theorem op_inSL (hu : X.A.units + 65 < cLine) : OpR X (compareOp .In) (rInSL X.K false) := by
  intro pins s σ H x y v u Q I rx ry h
  obtain ⟨d, zs, p, rfl, hd, ld, hz, oz, q⟩ := h
  obtain ⟨as, r1⟩ := Dp.reads I d x v hd rx
  obtain ⟨bs, r2⟩ := Dp.reads I (.list (zs.map PyData.str)) (.ref p) u (.lst (SqL.of hz) (dp_strs zs)) ry
  refine SeqAt.in_list_reads r2 r1 (lay_strs zs oz) ld ?_ ⟨.bl _, H, I, rfl, ?_⟩
  · rw [depth_strs]
    have := Nat.min_le_left 0 d.depth
    omega
  · rw [any_strs]; exact q
theorem op_notInSL (hu : X.A.units + 65 < cLine) : OpR X (compareOp .NotIn) (rInSL X.K true) := by
  intro pins s σ H x y v u Q I rx ry h
  obtain ⟨d, zs, p, rfl, hd, ld, hz, oz, q⟩ := h
  obtain ⟨as, r1⟩ := Dp.reads I d x v hd rx
  obtain ⟨bs, r2⟩ := Dp.reads I (.list (zs.map PyData.str)) (.ref p) u (.lst (SqL.of hz) (dp_strs zs)) ry
  refine SeqAt.notIn_list_reads r2 r1 (lay_strs zs oz) ld ?_ ⟨.bl _, H, I, rfl, ?_⟩
  · rw [depth_strs]
    have := Nat.min_le_left 0 d.depth
    omega
  · rw [any_strs]; exact q
end
def isInt (d : PyData) : Bool := match d with | .int _ => true | _ => false
def spL1 (f : PyData → Bool) (K : PySem.W.Frag) : Sp := fun vs H Q _ => ∃ (v : V) (d : PyData), vs = [v] ∧ Dp K H v d ∧ Lay d ∧ ∀ H', Same H H' → Q (.bl (f d)) H'
theorem isT_int {d : PyData} : (isT d "int" && !isT d "bool") = isInt d := by cases d <;> rfl
section
variable {P : Program} {w : World} {K : PySem.W.Frag} {mg : Str → Option Value} {base : Heap}
theorem scWhole : FnScope ["_law_thing"] ["_law_thing"] (defScope sWhole) := ⟨rfl, rfl, rfl, by decide +kernel, rfl, by decide +kernel, by decide +kernel⟩
theorem ok_whole {f : Addr} {fd : FuncData} (F : Fun K "_law_whole" "_law_whole" sWhole f fd) (T : Gs K mg) : FnOk P w K mg base CX0 1 f fd ["_law_thing"] (spL1 isInt K) := by
  refine F.ok scWhole (fun vs H Q E h => ?_) (fun cdv A outer s H vs Q E hr h => ?_)
  · obtain ⟨v, d, rfl, _⟩ := h
    rfl
  obtain ⟨v, d, rfl, hd, ld, q⟩ := h
  refine ⟨_, pss_one (ps_ret (pe_and (pe_callB call_isi (by rfl) T.isi (by decide +kernel) (pa_cons (pv 0) (pa_cons (pe_bltn (v := .ty "int") (by rfl) T.int (by decide +kernel) rfl) pa_nil)))
    (pe_one (pe_not (pe_callB call_isi (by rfl) T.isi (by decide +kernel) (pa_cons (pv 0) (pa_cons (pe_bltn (v := .ty "bool") (by rfl) T.bool (by decide +kernel) rfl) pa_nil))))))), ?_⟩
  refine ⟨_, rfl, v, .ty "int", _, _, _, rfl, .ty _, dp_ty hd, kit_isT d (by simp) (dp_nd hd), _, rfl, ?_⟩
  refine and_one (e := !isT d "bool") (fun Q' q' => ⟨_, rfl, v, .ty "bool", _, _, _, rfl, .ty _, dp_ty hd, kit_isT d (by simp) (dp_nd hd), _, rfl, q'⟩) ?_
  rw [isT_int]
  exact q H (Same.refl H)
def isVar (d : PyData) : Bool := inS d vars
theorem dp_three {H : Hp} {xs : List V} {ds : List PyData} (h : DpAll K H xs ds) (l : ds.length = 3) : ∃ x0 x1 x2 d0 d1 d2, xs = [x0, x1, x2] ∧ ds = [d0, d1, d2] ∧ Dp K H x0 d0 ∧ Dp K H x1 d1 ∧ Dp K H x2 d2 := by
  match ds, l, h with
  | [d0, d1, d2], _, .cons (v := x0) h0 (.cons (v := x1) h1 (.cons (v := x2) h2 .nil)) => exact ⟨x0, x1, x2, d0, d1, d2, rfl, rfl, h0, h1, h2⟩
end
theorem strT {z : Str} {A B : Prop} (h : A) : if decide (V.str z = V.str z) = true then A else B := by
  rw [if_pos (decide_eq_true rfl)]; exact h
theorem strF {z y : Str} {A B : Prop} (n : ¬ z = y) (h : B) : if decide (V.str z = V.str y) = true then A else B := by
  rw [if_neg (by intro c; have c' := of_decide_eq_true c; injection c' with c''; exact n c'')]; exact h
def lenOf (z : Str) : Int := if z = "set" then 2 else if z = "add" then 2 else if z = "wait" then 1 else if z = "ask" then 3 else if z = "answer" then 1 else if z = "grow" then 1 else if z = "list" then 1 else -1
def kv7 : List (Key × V) := [(.inr "set", .int 2), (.inr "add", .int 2), (.inr "wait", .int 1), (.inr "ask", .int 3), (.inr "answer", .int 1), (.inr "grow", .int 1), (.inr "list", .int 1)]
theorem merge7 : mergeK [] kv7 = kv7 := by decide +kernel
theorem valV_eq {k : Key} {v : V} {r : List (Key × V)} : valV ((k, v) :: r) k = some v := by
  unfold valV; rw [List.find?_cons_of_pos (by exact decide_eq_true rfl)]; rfl
theorem valV_ne {z x : Str} {v : V} {r : List (Key × V)} (n : ¬ z = x) : valV (((Sum.inr x : Key), v) :: r) (Sum.inr z) = valV r (Sum.inr z) := by
  unfold valV; rw [List.find?_cons_of_neg (by intro c; have c' := of_decide_eq_true c; injection c' with c''; exact n c''.symm)]
theorem get7 (z : Str) : (valV kv7 (.inr z)).getD (.int (-1)) = .int (lenOf z) := by
  unfold kv7 lenOf
  by_cases h1 : z = "set"
  · subst h1; rw [valV_eq, if_pos rfl]; rfl
  rw [valV_ne h1, if_neg h1]
  by_cases h2 : z = "add"
  · subst h2; rw [valV_eq, if_pos rfl]; rfl
  rw [valV_ne h2, if_neg h2]
  by_cases h3 : z = "wait"
  · subst h3; rw [valV_eq, if_pos rfl]; rfl
  rw [valV_ne h3, if_neg h3]
  by_cases h4 : z = "ask"
  · subst h4; rw [valV_eq, if_pos rfl]; rfl
  rw [valV_ne h4, if_neg h4]
  by_cases h5 : z = "answer"
  · subst h5; rw [valV_eq, if_pos rfl]; rfl
  rw [valV_ne h5, if_neg h5]
  by_cases h6 : z = "grow"
  · subst h6; rw [valV_eq, if_pos rfl]; rfl
  rw [valV_ne h6, if_neg h6]
  by_cases h7 : z = "list"
  · subst h7; rw [valV_eq, if_pos rfl]; rfl
  rw [valV_ne h7, if_neg h7]
  rfl
theorem l_set : lenOf "set" = 2 := by decide +kernel
theorem l_add : lenOf "add" = 2 := by decide +kernel
theorem l_wait : lenOf "wait" = 1 := by decide +kernel
theorem l_answer : lenOf "answer" = 1 := by decide +kernel
theorem l_ask : lenOf "ask" = 3 := by decide +kernel
theorem dp_one {K : PySem.W.Frag} {H : Hp} {xs : List V} {ds : List PyData} (h : DpAll K H xs ds) (l : ds.length = 1) : ∃ x0 d0, xs = [x0] ∧ ds = [d0] ∧ Dp K H x0 d0 := by
  match ds, l, h with
  | [d0], _, .cons (v := x0) h0 .nil => exact ⟨x0, d0, rfl, rfl, h0⟩
theorem plain_len {z k : Str} {ps : List PyData} (hk : k = "teller" ∨ k = "collector") (h : isPlain (.tuple (.str z :: ps)) k = true) : (ps.length : Int) = lenOf z := by
  obtain ⟨z', ps', rs, e, hz, hl, _⟩ := plain_inv h
  injection e with e
  injection e with e1 e2
  injection e1 with e1
  subst e1 e2
  rw [hl]
  unfold rolesZ at hz
  unfold lenOf
  rcases hk with rfl | rfl
  all_goals
    repeat' split at hz
    all_goals first | cases hz | skip
    all_goals (subst_vars; first | decide +kernel | (rename_i h1; revert h1; decide +kernel))
def spSimpleL (K : PySem.W.Frag) : Sp := fun vs H Q _ => ∃ (v : V) (k z : Str) (ps : List PyData), vs = [.str k, v] ∧ Dp K H v (.tuple (.str z :: ps)) ∧ Lay (.tuple (.str z :: ps)) ∧ (k = "teller" ∨ k = "collector") ∧ ∀ H', Same H H' → Q (.bl (isPlain (.tuple (.str z :: ps)) k)) H'
theorem plainE1 {z k r : Str} {p : PyData} (h : rolesZ z k = some [r]) : isPlain (.tuple [.str z, p]) k = isPart p r := by rw [plain_some h]; simp [allParts]
theorem plainE2 {z k r1 r2 : Str} {p1 p2 : PyData} (h : rolesZ z k = some [r1, r2]) : isPlain (.tuple [.str z, p1, p2]) k = (isPart p1 r1 && isPart p2 r2) := by rw [plain_some h]; simp [allParts]
theorem plainE3 {z k r1 r2 r3 : Str} {p1 p2 p3 : PyData} (h : rolesZ z k = some [r1, r2, r3]) : isPlain (.tuple [.str z, p1, p2, p3]) k = (isPart p1 r1 && (isPart p2 r2 && isPart p3 r3)) := by rw [plain_some h]; simp [allParts]
theorem plainE0 {z k : Str} {ps : List PyData} (h : rolesZ z k = none) : isPlain (.tuple (.str z :: ps)) k = false := plain_none (d := .tuple (.str z :: ps)) h
/-- an integer within bounds, asked by the law's words -/
theorem within {lo hi : Int} {K : PySem.W.Frag} {H : Hp} {v : V} {d : PyData} (hd : Dp K H v d) : (isInt d = true → ∃ i, v = .int i ∧ d = .int i) ∧ (isInt d = false → intIn d lo hi = false) := by
  cases hd with
  | int i => exact ⟨fun _ => ⟨i, rfl, rfl⟩, fun h => (nomatch h)⟩
  | _ => exact ⟨fun h => (nomatch h), fun _ => rfl⟩
section
variable {P : Program} {w : World} {K : PySem.W.Frag} {mg : Str → Option Value} {base : Heap}
end
def oV : Option Nat → V
  | some n => .int (n : Nat)
  | none => .non
def oneN (k : Str) : Nat → PyData → Option Nat
  | 0, _ => none
  | n + 1, d => stN k n d
theorem body_oneN (k : Str) (n : Nat) (ss : List PyData) : bodyN k n (.tuple ss) = sumO (ss.map (oneN k n)) := by
  cases n with
  | zero =>
    cases ss with
    | nil => rfl
    | cons s t =>
      show none = _
      simp only [List.map_cons, sumO, oneN, none_addO]
  | succ n => exact bodyN_tup k n ss
theorem flat_oV : ∀ os : List (Option Nat), (os.map oV).all flatV = true
  | [] => rfl
  | o :: r => by
    rw [List.map_cons, List.all_cons, flat_oV r, Bool.and_true]
    cases o <;> rfl
theorem inV_oV : ∀ os : List (Option Nat), inV .non (os.map oV) = os.any (·.isNone)
  | [] => rfl
  | o :: r => by
    have ih := inV_oV r
    unfold inV at ih ⊢
    rw [List.map_cons, List.any_cons, List.any_cons, ih]
    cases o <;> rfl
theorem sumO_any : ∀ {os : List (Option Nat)}, os.any (·.isNone) = true → sumO os = none
  | o :: r, h => by
    rw [List.any_cons, Bool.or_eq_true] at h
    simp only [sumO]
    rcases h with h | h
    · cases o with
      | none => exact none_addO _
      | some _ => cases h
    · rw [sumO_any h, addO_none]
theorem sumO_some : ∀ {os : List (Option Nat)}, os.any (·.isNone) = false → ∃ ns : List Nat, os.map oV = (ns.map (fun n : Nat => (n : Int))).map V.int ∧ sumO os = some ns.sum
  | [], _ => ⟨[], rfl, rfl⟩
  | o :: r, h => by
    rw [List.any_cons, Bool.or_eq_false_iff] at h
    obtain ⟨ns, e1, e2⟩ := sumO_some h.2
    cases o with
    | none => cases h.1
    | some n =>
      refine ⟨n :: ns, ?_, ?_⟩
      · rw [List.map_cons, e1]; rfl
      · simp only [sumO, e2, addO, List.sum_cons]
theorem sum_cast (ns : List Nat) : (ns.map (fun n : Nat => (n : Int))).sum = ((ns.sum : Nat) : Int) := by
  induction ns with
  | nil => rfl
  | cons n r ih => rw [List.map_cons, List.sum_cons, ih, List.sum_cons]; omega
mutual
def wd (m : Nat) : PyData → Bool
  | .tuple xs => decide (xs.length ≤ m) && wdAll m xs
  | .list xs => decide (xs.length ≤ m) && wdAll m xs
  | .none | .bool _ | .int _ | .str _ | .dict _ => true
def wdAll (m : Nat) : List PyData → Bool
  | [] => true
  | x :: xs => wd m x && wdAll m xs
end
mutual
theorem wd_mono {m m' : Nat} (h : m ≤ m') : ∀ d : PyData, wd m d = true → wd m' d = true
  | .none, _ => by simp only [wd]
  | .bool _, _ => by simp only [wd]
  | .int _, _ => by simp only [wd]
  | .str _, _ => by simp only [wd]
  | .dict _, _ => by simp only [wd]
  | .tuple xs, e => by
    simp only [wd, Bool.and_eq_true, decide_eq_true_eq] at e ⊢
    exact ⟨by omega, wdAll_mono h xs e.2⟩
  | .list xs, e => by
    simp only [wd, Bool.and_eq_true, decide_eq_true_eq] at e ⊢
    exact ⟨by omega, wdAll_mono h xs e.2⟩
theorem wdAll_mono {m m' : Nat} (h : m ≤ m') : ∀ ds : List PyData, wdAll m ds = true → wdAll m' ds = true
  | [], _ => by simp only [wdAll]
  | x :: xs, e => by
    simp only [wdAll, Bool.and_eq_true] at e ⊢
    exact ⟨wd_mono h x e.1, wdAll_mono h xs e.2⟩
end
theorem wdAll_iff {m : Nat} : ∀ {ds : List PyData}, wdAll m ds = true ↔ ∀ d ∈ ds, wd m d = true
  | [] => by simp [wdAll]
  | x :: xs => by
    simp only [wdAll, Bool.and_eq_true, wdAll_iff (ds := xs)]
    constructor
    · intro h d md
      rcases List.mem_cons.mp md with e | md
      · rw [e]; exact h.1
      · exact h.2 d md
    · intro h
      exact ⟨h x (by simp), fun d md => h d (List.mem_cons_of_mem _ md)⟩
theorem wd_tup {m : Nat} {ds : List PyData} : wd m (.tuple ds) = true ↔ ds.length ≤ m ∧ ∀ d ∈ ds, wd m d = true := by
  simp only [wd, Bool.and_eq_true, decide_eq_true_eq, wdAll_iff]
theorem wd_of_noDeep {m : Nat} {d : PyData} (h : isT d "tuple" = false) (h2 : noL d = true) : wd m d = true := by
  cases d with
  | tuple xs => cases h
  | list xs => simp [noL] at h2
  | _ => simp only [wd]
theorem part_wd {m : Nat} {p : PyData} {r : Str} (h : isPart p r = true) : wd m p = true := by
  cases p with
  | list xs => unfold isPart at h; repeat' split at h
               all_goals simp [inS, isTerm, intIn] at h
  | tuple xs => unfold isPart at h; repeat' split at h
                all_goals simp [inS, isTerm, intIn] at h
  | _ => simp only [wd]
theorem parts_wd {m : Nat} : ∀ {ps : List PyData} {rs : List Str}, ps.length = rs.length → allParts ps rs = true → wdAll m ps = true
  | [], _, _, _ => by simp only [wdAll]
  | p :: ps, [], l, _ => by simp at l
  | p :: ps, r :: rs, l, h => by
    have h' : isPart p r = true ∧ allParts ps rs = true := by
      simpa [allParts] using h
    simp only [wdAll, Bool.and_eq_true]
    exact ⟨part_wd h'.1, parts_wd (by simpa using l) h'.2⟩
theorem plain_wd {d : PyData} {k : Str} (h : isPlain d k = true) : wd 30 d = true := by
  obtain ⟨z, ps, rs, rfl, hz, hl, hp⟩ := plain_inv h
  have h3 := roles_short hz
  simp only [wd, wdAll, Bool.true_and, Bool.and_eq_true, decide_eq_true_eq, List.length_cons]
  exact ⟨by omega, parts_wd hl hp⟩
theorem cond_wd {d : PyData} (h : isCond d = true) : wd 30 d = true := by
  match d, h with
  | .tuple [x, y, z], h =>
    have h' : (inS x vars && inS y signs && isTerm z) = true := h
    rw [Bool.and_eq_true, Bool.and_eq_true] at h'
    have a1 : wd 30 x = true := part_wd (r := "variable") (by rw [part_variable]; exact h'.1.1)
    have a2 : wd 30 y = true := by
      cases y with
      | list _ => simp [inS] at h'
      | tuple _ => simp [inS] at h'
      | _ => simp only [wd]
    have a3 : wd 30 z = true := part_wd (r := "term") (by rw [part_term]; exact h'.2)
    simp only [wd, wdAll, a1, a2, a3]
    rfl
theorem addO_le {x y : Option Nat} {c : Nat} (h : addO x y = some c) : ∃ a b, x = some a ∧ y = some b ∧ a ≤ c ∧ b ≤ c := by
  cases x with
  | none => rw [none_addO] at h; cases h
  | some a =>
    cases y with
    | none => cases h
    | some b =>
      have e : a + b = c := by injection h
      exact ⟨a, b, rfl, rfl, by omega, by omega⟩
theorem sumO_mem {xs : List (Option Nat)} : ∀ {c : Nat}, sumO xs = some c → ∀ x ∈ xs, ∃ a, x = some a ∧ a ≤ c := by
  induction xs with
  | nil => intro c _ x m; cases m
  | cons y r ih =>
    intro c h x m
    obtain ⟨a, b, e1, e2, l1, l2⟩ := addO_le (show addO y (sumO r) = some c from h)
    rcases List.mem_cons.mp m with rfl | m
    · exact ⟨a, e1, l1⟩
    · obtain ⟨a', e, l⟩ := ih e2 x m
      exact ⟨a', e, by omega⟩
theorem body_wd {k : Str} : ∀ {n c : Nat} {d : PyData}, c ≤ 24 → bodyN k n d = some c → wd 30 d = true
  | 0, c, d, hc, h => by
    match d, h with
    | .tuple [], _ => rfl
  | n + 1, c, d, hc, h => by
    cases ht : isT d "tuple" with
    | false => rw [bodyN_no k _ ht] at h; cases h
    | true =>
      obtain ⟨ss, rfl⟩ := isT_tup ht
      rw [bodyN_tup] at h
      have hl := sumO_ge h
      rw [wd_tup]
      refine ⟨by omega, fun s ms => ?_⟩
      obtain ⟨a, ea, la⟩ := sumO_mem h (stN k n s) (List.mem_map_of_mem ms)
      unfold stN at ea
      split at ea
      · rename_i ho
        obtain ⟨a1, b1, _, e2, _, l2⟩ := addO_le ea
        obtain ⟨z, ps, rfl⟩ := out_word ho
        have hb : ∀ b ∈ bodsOf (.tuple (.str z :: ps)), wd 30 b = true := fun b mb => by
          obtain ⟨x, ex, lx⟩ := sumO_mem e2 _ (List.mem_map_of_mem mb)
          exact body_wd (n := n) (c := x) (by omega) ex
        by_cases h1 : z = "if"
        · subst h1
          rw [out_if] at ho
          rw [bods_if] at hb
          match ps, ho, hb with
          | [c0, b1, b2], ho, hb =>
            have w1 := cond_wd (d := c0) ho
            have w2 := hb b1 (by simp)
            have w3 := hb b2 (by simp)
            simp only [wd, wdAll, w1, w2, w3]
            rfl
        by_cases h2 : z = "while"
        · subst h2
          rw [out_while] at ho
          rw [bods_while] at hb
          match ps, ho, hb with
          | [c0, b1], ho, hb =>
            have w1 := cond_wd (d := c0) ho
            have w2 := hb b1 (by simp)
            simp only [wd, wdAll, w1, w2]
            rfl
        · rw [out_else h1 h2] at ho
          exact plain_wd ho
      · cases ea
theorem prog_wd {d : PyData} (h : isProg d = true) : wd 30 d = true := by
  match d, h with
  | .tuple [.str k, b], h =>
    have h' : (inS (.str k) kinds && okN 0 (bodyN k 4 b)) = true := h
    rw [Bool.and_eq_true] at h'
    cases e : bodyN k 4 b with
    | none => rw [e] at h'; cases h'.2
    | some c =>
      rw [e] at h'
      have hc : 0 + c ≤ 24 := of_decide_eq_true h'.2
      have w := body_wd (by omega) e
      simp only [wd, wdAll, w]
      rfl
def spOne (K : PySem.W.Frag) (n : Nat) : Sp := fun vs H Q _ => ∃ (v : V) (d : PyData) (k : Str) (dep : Int), vs = [.str k, v, .int dep] ∧ dep = 5 - (n : Int) ∧ n ≤ 4 ∧ Dp K H v d ∧ Lay d ∧ wd 31 d = true ∧ (k = "teller" ∨ k = "collector") ∧ ∀ H', Same H H' → Q (oV (oneN k n d)) H'
def spCnt (K : PySem.W.Frag) (n : Nat) : Sp := fun vs H Q _ => ∃ (v : V) (d : PyData) (k : Str) (dep : Int), vs = [.str k, v, .int dep] ∧ dep = 5 - (n : Int) ∧ n ≤ 4 ∧ Dp K H v d ∧ Lay d ∧ wd 31 d = true ∧ (k = "teller" ∨ k = "collector") ∧ ∀ H', Same H H' → Q (oV (bodyN k n d)) H'
section
variable {P : Program} {w : World} {K : PySem.W.Frag} {mg : Str → Option Value} {base : Heap}
theorem oneN_no {k : Str} {n : Nat} {d : PyData} (h : isOut d k = false) : oneN k n d = none := by
  cases n with
  | zero => rfl
  | succ n => show stN k n d = none; unfold stN; rw [if_neg (by rw [h]; decide)]
theorem none_cnt {f : Addr} {fd : FuncData} (lv : Nat) : FnOk P w K mg base CX0 lv f fd ["_law_kind", "_law_body_here", "_law_depth"] (fun vs H Q E => 0 ≠ 0 ∧ spCnt K (0 - 1) vs H Q E) :=
  ⟨fun vs H Q E h => absurd rfl h.1, fun A outer s H args us vs Q E _ _ _ _ h => absurd rfl h.1⟩
def spProgC (K : PySem.W.Frag) : Sp := fun vs H Q _ => ∃ (v : V) (d : PyData), vs = [v] ∧ Dp K H v d ∧ Lay d ∧ wd 31 d = true ∧ ∀ H', Same H H' → Q (.bl (isProg d)) H'
end
theorem alloc_tup {K : PySem.W.Frag} {b p : Addr} {H : Hp} {xs : List V} {ds : List PyData} (hb : Bag H b) (np : H p = none) (ha : DpAll K (hide b H) xs ds) :
    Bag (upd H p (.tup xs)) b ∧ Fr b H (upd H p (.tup xs)) ∧ Da K b (upd H p (.tup xs)) (.ref p) (.tuple ds) :=
  ⟨hb.keep (same_new np _), Fr.of (same_new np _), da_tup (hb.ne np).symm upd_same (dpAll_mono (hide_mono (Fr.of (same_new np _))) _ _ ha)⟩
theorem alloc_lst {K : PySem.W.Frag} {b p : Addr} {H : Hp} {xs : List V} {ds : List PyData} (hb : Bag H b) (np : H p = none) (ha : DpAll K (hide b H) xs ds) :
    Bag (upd H p (.lst xs)) b ∧ Fr b H (upd H p (.lst xs)) ∧ Da K b (upd H p (.lst xs)) (.ref p) (.list ds) :=
  ⟨hb.keep (same_new np _), Fr.of (same_new np _), .lst (SqL.of (hide_get (hb.ne np).symm upd_same)) (dpAll_mono (hide_mono (Fr.of (same_new np _))) _ _ ha)⟩
def odd1 : List PyData := [.none, .bool true, .bool false, .int 0, .int 1, .int 2, .int 15, .int 16, .int (-1), .int longest, .int (longest + 1), .str "", .str "a", .str "b", .str "c", .str "==", .str "<=", .str "x", .str "3"]
def odd2 : List PyData := [.tuple [], .list [], .tuple [.str "a"], .tuple [.str "a", .str "==", .int 3], .list [.str "a", .str "==", .int 3], .tuple [.str "set", .str "a", .int 3], .tuple [.str "answer", .int 1], .tuple [.str "list", .str "b"]]
def odd3 : List PyData := [.tuple [.str "wait", .int 0], .tuple [.str "while", .tuple [.str "a", .str "<", .int 3], .tuple []], .tuple [.str "if", .tuple [.str "a", .str "<", .int 3], .tuple []], .str "teller", .str "collector", .str "set"]
theorem odd_ok : (odd1 ++ odd2 ++ odd3).all (fun d => d.canLay0 && wd 30 d) = true := by decide +kernel
theorem odd_mem {d : PyData} (h : d ∈ odd1 ++ odd2 ++ odd3) : Lay d ∧ wd 30 d = true := by
  have e := List.all_eq_true.mp odd_ok d h
  rw [Bool.and_eq_true] at e
  exact e
def vals1 : List V := [.non, .bl true, .bl false, .int 0, .int 1, .int 2, .int 15, .int 16, .int (-1), .int longest, .int (longest + 1), .str "", .str "a", .str "b", .str "c", .str "==", .str "<=", .str "x", .str "3"]
theorem dp_odd1 {K : PySem.W.Frag} {H : Hp} : DpAll K H vals1 odd1 :=
  .cons .non (.cons (.bl _) (.cons (.bl _) (.cons (.int _) (.cons (.int _) (.cons (.int _) (.cons (.int _) (.cons (.int _) (.cons (.int _) (.cons (.int _) (.cons (.int _) (.cons (.str _) (.cons (.str _) (.cons (.str _) (.cons (.str _) (.cons (.str _) (.cons (.str _) (.cons (.str _) (.cons (.str _) .nil))))))))))))))))))
theorem sq_keep {b p : Addr} {H H' : Hp} {o : HO} (f : Fr b H H') (n : p ≠ b) (h : H p = some o) : H' p = some o := f p o n h
def spOdd (K : PySem.W.Frag) : Sp := fun vs H Q _ => ∃ (b : Addr), vs = [.ref b] ∧ Bag H b ∧ ∀ H' v d, Fr b H H' → Bag H' b → Da K b H' v d → Lay d → wd 30 d = true → Q v H'
theorem Da.lift {K : PySem.W.Frag} {b : Addr} {H H' : Hp} {vs : List V} {ds : List PyData} (h : DpAll K (hide b H) vs ds) (x : Fr b H H') : DpAll K (hide b H') vs ds := dpAll_mono (hide_mono x) _ _ h
section
variable {P : Program} {w : World} {K : PySem.W.Frag} {mg : Str → Option Value} {base : Heap}
end
theorem cut_whole {xs : List V} {lo hi : Option Int} (h : HT.sIx xs.length 0 lo = 0 ∧ HT.sIx xs.length xs.length hi = xs.length) : cutV xs lo hi = xs := by
  unfold cutV
  rw [h.1, h.2, List.drop_zero, Nat.sub_zero, List.take_length]
section
variable {X : Cx}
def rSlE (K : PySem.W.Frag) : V → Option Int → Option Int → Hp → VK → Prop := fun x lo hi H Q => ∃ bg a xs, x = .ref a ∧ SqT K (hide bg H) a xs ∧ Bag H bg ∧ ∀ w H', Same H H' → SqT K (hide bg H') w (cutV xs lo hi) → Q (.ref w) H'
theorem sl_tupE : SlR X (rSlE X.K) := by
  intro pins s σ H x v vl vu lo hi sl Q I rx hs pl pu h
  obtain ⟨bg, a, xs, rfl, ha, hB, q⟩ := h
  refine sl_tupA pins s σ H _ v vl vu lo hi sl Q I rx hs pl pu ⟨a, xs, rfl, Same.tup (hide_same _ _) ha, fun hw => ?_, fun _ p np => ?_⟩
  · exact q a H (Same.refl H) (by rw [cut_whole hw]; exact ha)
  · exact q p _ (same_new np _) (SqT.of (hide_get (hB.ne np).symm upd_same))
def rCatH (K : PySem.W.Frag) (bg : Addr) : R2 := fun x y H Q => ∃ a b xs ys, x = .ref a ∧ y = .ref b ∧ SqT K (hide bg H) a xs ∧ SqT K (hide bg H) b ys ∧ xs.length + ys.length ≤ sizeLine ∧ Bag H bg ∧ ∀ w H', Same H H' → SqT K (hide bg H') w (xs ++ ys) → Q (.ref w) H'
theorem op_catH (bg : Addr) : OpR X (binaryOp .Add) (rCatH X.K bg) := by
  intro pins s σ H x y v u Q I rx ry h
  obtain ⟨a, b, xs, ys, rfl, rfl, ha, hb, hz, hB, q⟩ := h
  refine op_catA pins s σ H _ _ v u Q I rx ry ⟨a, b, xs, ys, rfl, rfl, Same.tup (hide_same _ _) ha, Same.tup (hide_same _ _) hb, hz, fun e => ?_, fun _ e => ?_, fun _ _ p np => ?_⟩
  · exact q b H (Same.refl H) (by rw [e]; exact hb)
  · exact q a H (Same.refl H) (by rw [e, List.append_nil]; exact ha)
  · exact q p _ (same_new np _) (SqT.of (hide_get (hB.ne np).symm upd_same))
def rCatE (K : PySem.W.Frag) : R2 := fun x y H Q => ∃ bg, rCatH K bg x y H Q
theorem op_catE : OpR X (binaryOp .Add) (rCatE X.K) := by
  intro pins s σ H x y v u Q I rx ry h
  obtain ⟨bg, h⟩ := h
  exact op_catH bg pins s σ H x y v u Q I rx ry h
end
def spSpoilt (K : PySem.W.Frag) (n : Nat) : Sp := fun vs H Q _ => ∃ (b : Addr) (v : V) (d : PyData), vs = [.ref b, v] ∧ Bag H b ∧ Da K b H v d ∧ Lay d ∧ wd 30 d = true ∧ d.depth ≤ n ∧ ∀ H' v' d', Fr b H H' → Bag H' b → Da K b H' v' d' → Lay d' → wd 31 d' = true → Q v' H'
theorem depth_mem {ds : List PyData} : ∀ {d : PyData}, d ∈ ds → d.depth ≤ PyData.depthAll ds := by
  induction ds with
  | nil => intro d m; cases m
  | cons x r ih =>
    intro d m
    simp only [PyData.depthAll]
    rcases List.mem_cons.mp m with rfl | m
    · omega
    · have := ih m
      omega
theorem depth_tup (ds : List PyData) : (PyData.tuple ds).depth = PyData.depthAll ds + 1 := by simp only [PyData.depth]
theorem depth_all {ds : List PyData} {n : Nat} (h : ∀ d ∈ ds, d.depth ≤ n) : PyData.depthAll ds ≤ n := by
  induction ds with
  | nil => exact Nat.zero_le _
  | cons x r ih =>
    simp only [PyData.depthAll]
    have h1 := h x (by simp)
    have h2 := ih fun d m => h d (List.mem_cons_of_mem _ m)
    omega
section
variable {P : Program} {w : World} {K : PySem.W.Frag} {mg : Str → Option Value} {base : Heap}
theorem none_spoilt {f : Addr} {fd : FuncData} (lv : Nat) : FnOk P w K mg base CX0 lv f fd ["_law_bag_here", "_law_thing"] (fun vs H Q E => 0 ≠ 0 ∧ spSpoilt K (0 - 1) vs H Q E) :=
  ⟨fun vs H Q E h => absurd rfl h.1, fun A outer s H args us vs Q E _ _ _ _ h => absurd rfl h.1⟩
end
theorem part_flat {p : PyData} {r : Str} (h : isPart p r = true) : p.depth = 0 := by
  cases p with
  | list xs => unfold isPart at h; repeat' split at h
               all_goals simp [inS, isTerm, intIn] at h
  | tuple xs => unfold isPart at h; repeat' split at h
                all_goals simp [inS, isTerm, intIn] at h
  | dict xs => unfold isPart at h; repeat' split at h
               all_goals simp [inS, isTerm, intIn] at h
  | _ => simp only [PyData.depth]
theorem inS_flat {d : PyData} {zs : List Str} (h : inS d zs = true) : d.depth = 0 := by
  cases d with
  | list xs => simp [inS] at h
  | tuple xs => simp [inS] at h
  | dict xs => simp [inS] at h
  | _ => simp only [PyData.depth]
theorem parts_flat : ∀ {ps : List PyData} {rs : List Str}, ps.length = rs.length → allParts ps rs = true → PyData.depthAll ps = 0
  | [], _, _, _ => by simp only [PyData.depthAll]
  | p :: ps, [], l, _ => by simp at l
  | p :: ps, r :: rs, l, h => by
    have h' : isPart p r = true ∧ allParts ps rs = true := by
      simpa [allParts] using h
    simp only [PyData.depthAll, part_flat h'.1, parts_flat (by simpa using l) h'.2]
    rfl
theorem plain_depth {d : PyData} {k : Str} (h : isPlain d k = true) : d.depth ≤ 1 := by
  obtain ⟨z, ps, rs, rfl, hz, hl, hp⟩ := plain_inv h
  simp only [PyData.depth, PyData.depthAll, parts_flat hl hp]
  decide
theorem cond_depth {d : PyData} (h : isCond d = true) : d.depth ≤ 1 := by
  match d, h with
  | .tuple [x, y, z], h =>
    have h' : (inS x vars && inS y signs && isTerm z) = true := h
    rw [Bool.and_eq_true, Bool.and_eq_true] at h'
    have a3 : z.depth = 0 := part_flat (r := "term") (by rw [part_term]; exact h'.2)
    simp only [PyData.depth, PyData.depthAll, inS_flat h'.1.1, inS_flat h'.1.2, a3]
    decide
def isNil : PyData → Bool
  | .tuple [] => true
  | _ => false
/-- the three shapes of a statement -/
theorem st_shape {k : Str} {n c : Nat} {s : PyData} (h : stN k n s = some c) :
    (∃ z ps, s = .tuple (.str z :: ps) ∧ ¬ z = "if" ∧ ¬ z = "while" ∧ isPlain s k = true ∧ c = 1) ∨
    (∃ co b c', s = .tuple [.str "while", co, b] ∧ isCond co = true ∧ bodyN k n b = some c' ∧ c = 1 + c') ∨
    (∃ co b1 b2 c1 c2, s = .tuple [.str "if", co, b1, b2] ∧ isCond co = true ∧ bodyN k n b1 = some c1 ∧ bodyN k n b2 = some c2 ∧ c = 1 + (c1 + c2)) := by
  unfold stN at h
  split at h
  · rename_i ho
    obtain ⟨z, ps, rfl⟩ := out_word ho
    by_cases h1 : z = "if"
    · subst h1
      rw [out_if] at ho
      rw [bods_if] at h
      match ps, ho, h with
      | [co, b1, b2], ho, h =>
        simp only [List.drop_succ_cons, List.drop_zero, List.map_cons, List.map_nil, sumO, addO_zero] at h
        cases e1 : bodyN k n b1 with
        | none => rw [e1] at h; simp [addO] at h
        | some c1 =>
          cases e2 : bodyN k n b2 with
          | none => rw [e1, e2] at h; simp [addO] at h
          | some c2 =>
            rw [e1, e2] at h
            have e : 1 + (c1 + c2) = c := by injection h
            exact .inr (.inr ⟨co, b1, b2, c1, c2, rfl, ho, e1, e2, e.symm⟩)
    by_cases h2 : z = "while"
    · subst h2
      rw [out_while] at ho
      rw [bods_while] at h
      match ps, ho, h with
      | [co, b1], ho, h =>
        simp only [List.drop_succ_cons, List.drop_zero, List.map_cons, List.map_nil, sumO, addO_zero] at h
        cases e1 : bodyN k n b1 with
        | none => rw [e1] at h; simp [addO] at h
        | some c1 =>
          rw [e1] at h
          have e : 1 + c1 = c := by injection h
          exact .inr (.inl ⟨co, b1, c1, rfl, ho, e1, e.symm⟩)
    · rw [out_else h1 h2] at ho
      have hp : isPlain (.tuple (.str z :: ps)) k = true := ho
      rw [bods_else h1 h2] at h
      have e : 1 = c := by injection h
      exact .inl ⟨z, ps, rfl, h1, h2, hp, e.symm⟩
  · cases h
theorem body_tuple {k : Str} {n c : Nat} {d : PyData} (h : bodyN k n d = some c) : ∃ ss, d = .tuple ss := by
  cases ht : isT d "tuple" with
  | false => rw [bodyN_no k n ht] at h; cases h
  | true => exact isT_tup ht
theorem sum_le {k : Str} {n c : Nat} {ss : List PyData} (h : bodyN k (n + 1) (.tuple ss) = some c) {s : PyData} (m : s ∈ ss) : ∃ a, stN k n s = some a ∧ a ≤ c := by
  rw [bodyN_tup] at h
  exact sumO_mem h _ (List.mem_map_of_mem m)
theorem noL_mem {ds : List PyData} (h : noLAll ds = true) : ∀ d ∈ ds, noL d = true := by
  induction ds with
  | nil => intro d m; cases m
  | cons x r ih =>
    simp only [noLAll, Bool.and_eq_true] at h
    intro d m
    rcases List.mem_cons.mp m with rfl | m
    · exact h.1
    · exact ih h.2 d m
theorem noL_tup {ds : List PyData} (h : noL (.tuple ds) = true) : noLAll ds = true := by simpa only [noL] using h
theorem noLAll_of {ds : List PyData} (h : ∀ d ∈ ds, noL d = true) : noLAll ds = true := by
  induction ds with
  | nil => rfl
  | cons x r ih =>
    simp only [noLAll, Bool.and_eq_true]
    exact ⟨h x (by simp), ih fun d m => h d (List.mem_cons_of_mem _ m)⟩
theorem body_depth {k : Str} : ∀ {n c : Nat} {d : PyData}, bodyN k n d = some c → d.depth ≤ 2 * n + 1
  | 0, c, d, h => by
    match d, h with
    | .tuple [], _ => simp [PyData.depth, PyData.depthAll]
  | n + 1, c, d, h => by
    cases ht : isT d "tuple" with
    | false => rw [bodyN_no k _ ht] at h; cases h
    | true =>
      obtain ⟨ss, rfl⟩ := isT_tup ht
      rw [bodyN_tup] at h
      rw [depth_tup]
      suffices hs : PyData.depthAll ss ≤ 2 * n + 2 by omega
      refine depth_all fun s ms => ?_
      obtain ⟨a, ea, la⟩ := sumO_mem h (stN k n s) (List.mem_map_of_mem ms)
      unfold stN at ea
      split at ea
      · rename_i ho
        obtain ⟨a1, b1, _, e2, _, l2⟩ := addO_le ea
        obtain ⟨z, ps, rfl⟩ := out_word ho
        have hb : ∀ b ∈ bodsOf (.tuple (.str z :: ps)), b.depth ≤ 2 * n + 1 := fun b mb => by
          obtain ⟨x, ex, lx⟩ := sumO_mem e2 _ (List.mem_map_of_mem mb)
          exact body_depth (n := n) (c := x) ex
        by_cases h1 : z = "if"
        · subst h1
          rw [out_if] at ho
          rw [bods_if] at hb
          match ps, ho, hb with
          | [c0, b1, b2], ho, hb =>
            have w1 := cond_depth (d := c0) ho
            have w2 := hb b1 (by simp)
            have w3 := hb b2 (by simp)
            simp only [PyData.depth, PyData.depthAll]
            omega
        by_cases h2 : z = "while"
        · subst h2
          rw [out_while] at ho
          rw [bods_while] at hb
          match ps, ho, hb with
          | [c0, b1], ho, hb =>
            have w1 := cond_depth (d := c0) ho
            have w2 := hb b1 (by simp)
            simp only [PyData.depth, PyData.depthAll]
            omega
        · rw [out_else h1 h2] at ho
          have := plain_depth ho
          omega
      · cases ea
theorem eqv_nil (ss : List PyData) : PyData.eqv (.tuple ss) (.tuple []) = isNil (.tuple ss) := by
  cases ss <;> simp [PyData.eqv, PyData.eqvAll, isNil]
theorem dp_four {K : PySem.W.Frag} {H : Hp} {xs : List V} {d0 d1 d2 d3 : PyData} (h : DpAll K H xs [d0, d1, d2, d3]) : ∃ x0 x1 x2 x3, xs = [x0, x1, x2, x3] ∧ Dp K H x0 d0 ∧ Dp K H x1 d1 ∧ Dp K H x2 d2 ∧ Dp K H x3 d3 := by
  match h with
  | .cons (v := x0) h0 (.cons (v := x1) h1 (.cons (v := x2) h2 (.cons (v := x3) h3 .nil))) => exact ⟨x0, x1, x2, x3, rfl, h0, h1, h2, h3⟩
abbrev sBC : Stmt := top 30
abbrev sSC : Stmt := top 31
abbrev sWC : Stmt := top 32
abbrev sIC : Stmt := top 33
def insT (c : PyData) (t : Nat) : PyData := .tuple [.str "test", c, .int (t : Nat)]
def insJ (t : Nat) : PyData := .tuple [.str "jump", .int (t : Nat)]
def whC (g : Nat → PyData → List PyData) (st0 : Nat) (c b : PyData) : List PyData := insT c (st0 + 1 + (g (st0 + 1) b).length + 1) :: (g (st0 + 1) b ++ [insJ st0])
def ifC (g : Nat → PyData → List PyData) (st0 : Nat) (c b1 b2 : PyData) : List PyData :=
  if isNil b2 = true then insT c (st0 + 1 + (g (st0 + 1) b1).length) :: g (st0 + 1) b1
  else insT c (st0 + 1 + (g (st0 + 1) b1).length + 1) :: (g (st0 + 1) b1 ++ insJ (st0 + 1 + (g (st0 + 1) b1).length + 1 + (g (st0 + 1 + (g (st0 + 1) b1).length + 1) b2).length) :: g (st0 + 1 + (g (st0 + 1) b1).length + 1) b2)
def stC (g : Nat → PyData → List PyData) (st0 : Nat) (s : PyData) : List PyData := match s with
  | .tuple [.str z, c, b] => if z = "while" then whC g st0 c b else [s]
  | .tuple [.str z, c, b1, b2] => if z = "if" then ifC g st0 c b1 b2 else [s]
  | _ => [s]
def codeL (f : Nat → PyData → List PyData) : Nat → List PyData → List PyData
  | _, [] => []
  | st0, s :: r => f st0 s ++ codeL f (st0 + (f st0 s).length) r
def bodyC : Nat → Nat → PyData → List PyData
  | 0, _, _ => []
  | n + 1, st0, .tuple ss => codeL (stC (bodyC n)) st0 ss
  | _ + 1, _, _ => []
theorem codeL_snoc (f : Nat → PyData → List PyData) : ∀ (st0 : Nat) (a : List PyData) (s : PyData), codeL f st0 (a ++ [s]) = codeL f st0 a ++ f (st0 + (codeL f st0 a).length) s
  | st0, [], s => by simp [codeL]
  | st0, x :: r, s => by
    rw [List.cons_append]
    simp only [codeL]
    rw [codeL_snoc f _ r s, List.append_assoc, List.length_append, Nat.add_assoc]
theorem stC_plain {g : Nat → PyData → List PyData} {st0 : Nat} {z : Str} {ps : List PyData} (h1 : ¬ z = "if") (h2 : ¬ z = "while") : stC g st0 (.tuple (.str z :: ps)) = [.tuple (.str z :: ps)] := by
  unfold stC
  split
  · rename_i z' c b e
    injection e with e; injection e with e1 e2; injection e1 with e1
    subst e1
    rw [if_neg h2]
  · rename_i z' c b1 b2 e
    injection e with e; injection e with e1 e2; injection e1 with e1
    subst e1
    rw [if_neg h1]
  · rfl
theorem stC_while {g : Nat → PyData → List PyData} {st0 : Nat} {c b : PyData} : stC g st0 (.tuple [.str "while", c, b]) = whC g st0 c b := by
  simp [stC]
theorem stC_if {g : Nat → PyData → List PyData} {st0 : Nat} {c b1 b2 : PyData} : stC g st0 (.tuple [.str "if", c, b1, b2]) = ifC g st0 c b1 b2 := by
  simp [stC]
theorem noL_ins {c : PyData} {t : Nat} (h : noL c = true) : noL (insT c t) = true := by simp [insT, noL, noLAll, h]
theorem noL_jmp {t : Nat} : noL (insJ t) = true := by simp [insJ, noL, noLAll]
theorem lay_ins {c : PyData} {t : Nat} (h : Lay c) : Lay (insT c t) := lay3 (lay_str (by decide +kernel)) h (lay_int _)
theorem lay_jmp {t : Nat} : Lay (insJ t) := lay2 (lay_str (by decide +kernel)) (lay_int _)
/-- what holds of an instruction -/
def okI (i : PyData) : Prop := noL i = true ∧ Lay i ∧ i.depth ≤ 2 ∧ ((∃ c t, isCond c = true ∧ i = insT c t) ∨ (∃ t, i = insJ t) ∨ ∃ z ps k, i = .tuple (.str z :: ps) ∧ isPlain i k = true)
theorem okI_T {c : PyData} {t : Nat} (hc : isCond c = true) (lc : Lay c) : okI (insT c t) := by
  refine ⟨noL_ins (cond_noL hc), lay_ins lc, ?_, .inl ⟨c, t, hc, rfl⟩⟩
  have := cond_depth hc
  simp only [insT, PyData.depth, PyData.depthAll]
  omega
theorem okI_J {t : Nat} : okI (insJ t) := ⟨noL_jmp, lay_jmp, by simp [insJ, PyData.depth, PyData.depthAll], .inr (.inl ⟨t, rfl⟩)⟩
theorem body_code_ok {k : Str} : ∀ {n c : Nat} {d : PyData} (st0 : Nat), Lay d → bodyN k n d = some c → (∀ i ∈ bodyC n st0 d, okI i) ∧ (bodyC n st0 d).length ≤ 2 * c
  | 0, c, d, st0, _, h => ⟨fun i m => by simp [bodyC] at m, Nat.zero_le _⟩
  | n + 1, c, d, st0, ld, h => by
    obtain ⟨ss, rfl⟩ := body_tuple h
    rw [bodyN_tup] at h
    have lm := lay_mem (lay_tup ld)
    show (∀ i ∈ codeL (stC (bodyC n)) st0 ss, okI i) ∧ (codeL (stC (bodyC n)) st0 ss).length ≤ 2 * c
    clear ld
    induction ss generalizing st0 c with
    | nil => exact ⟨fun i m => by simp [codeL] at m, Nat.zero_le _⟩
    | cons s r ih =>
      obtain ⟨a, b, e1, e2, _, _⟩ := addO_le (show addO (stN k n s) (sumO (r.map (stN k n))) = some c from h)
      have hc : a + b = c := by
        have h' : addO (stN k n s) (sumO (r.map (stN k n))) = some c := h
        rw [e1, e2] at h'
        injection h'
      have ls := lm s (by simp)
      have one : (∀ i ∈ stC (bodyC n) st0 s, okI i) ∧ (stC (bodyC n) st0 s).length ≤ 2 * a := by
        rcases st_shape e1 with ⟨z, ps, rfl, h1, h2, hp, rfl⟩ | ⟨co, bb, c', rfl, hco, hb, rfl⟩ | ⟨co, b1, b2, c1, c2, rfl, hco, hb1, hb2, rfl⟩
        · rw [stC_plain h1 h2]
          refine ⟨fun i m => ?_, by simp⟩
          rw [List.mem_singleton.mp m]
          exact ⟨plain_noL hp, ls, by have := plain_depth hp; omega, .inr (.inr ⟨z, ps, k, rfl, hp⟩)⟩
        · have lm' := lay_mem (lay_tup ls)
          obtain ⟨i1, l1⟩ := body_code_ok (st0 + 1) (lm' bb (by simp)) hb
          rw [stC_while]
          unfold whC
          refine ⟨fun i m => ?_, by simp; omega⟩
          simp only [List.mem_cons, List.mem_append, List.not_mem_nil, or_false] at m
          rcases m with rfl | m | rfl
          · exact okI_T hco (lm' co (by simp))
          · exact i1 i m
          · exact okI_J
        · have lm' := lay_mem (lay_tup ls)
          rw [stC_if]
          obtain ⟨i1, l1⟩ := body_code_ok (st0 + 1) (lm' b1 (by simp)) hb1
          unfold ifC
          split
          · refine ⟨fun i m => ?_, by simp; omega⟩
            simp only [List.mem_cons] at m
            rcases m with rfl | m
            · exact okI_T hco (lm' co (by simp))
            · exact i1 i m
          · obtain ⟨i2, l2⟩ := body_code_ok (st0 + 1 + (bodyC n (st0 + 1) b1).length + 1) (lm' b2 (by simp)) hb2
            refine ⟨fun i m => ?_, by simp; omega⟩
            simp only [List.mem_cons, List.mem_append] at m
            rcases m with rfl | m | rfl | m
            · exact okI_T hco (lm' co (by simp))
            · exact i1 i m
            · exact okI_J
            · exact i2 i m
      obtain ⟨j1, j2⟩ := ih (st0 := st0 + (stC (bodyC n) st0 s).length) (c := b) e2 (fun d m => lm d (List.mem_cons_of_mem _ m))
      simp only [codeL]
      refine ⟨fun i m => ?_, by rw [List.length_append]; omega⟩
      rcases List.mem_append.mp m with m | m
      · exact one.1 i m
      · exact j1 i m
def spBC (K : PySem.W.Frag) (n : Nat) : Sp := fun vs H Q _ => ∃ (v : V) (d : PyData) (k : Str) (c sn : Nat), vs = [v, .int (sn : Nat)] ∧ Dp K H v d ∧ Lay d ∧ noL d = true ∧ bodyN k n d = some c ∧ c ≤ 24 ∧
  ∀ H' p xs, Same H H' → H p = none → H' p = some (.lst xs) → DpAll K H' xs (bodyC n sn d) → Q (.ref p) H'
def spSC (K : PySem.W.Frag) (n : Nat) : Sp := fun vs H Q _ => ∃ (v : V) (d : PyData) (k : Str) (c sn : Nat), vs = [v, .int (sn : Nat)] ∧ Dp K H v d ∧ Lay d ∧ noL d = true ∧ stN k n d = some c ∧ c ≤ 24 ∧
  ∀ H' p xs, Same H H' → H p = none → H' p = some (.lst xs) → DpAll K H' xs (stC (bodyC n) sn d) → Q (.ref p) H'
def spWC (K : PySem.W.Frag) (n : Nat) : Sp := fun vs H Q _ => ∃ (v : V) (co b : PyData) (k : Str) (c sn : Nat), vs = [v, .int (sn : Nat)] ∧ Dp K H v (.tuple [.str "while", co, b]) ∧ Lay b ∧ noL co = true ∧ noL b = true ∧ bodyN k n b = some c ∧ c ≤ 24 ∧
  ∀ H' p xs, Same H H' → H p = none → H' p = some (.lst xs) → DpAll K H' xs (whC (bodyC n) sn co b) → Q (.ref p) H'
def spIC (K : PySem.W.Frag) (n : Nat) : Sp := fun vs H Q _ => ∃ (v : V) (co b1 b2 : PyData) (k : Str) (c1 c2 sn : Nat), vs = [v, .int (sn : Nat)] ∧ Dp K H v (.tuple [.str "if", co, b1, b2]) ∧ Lay b1 ∧ Lay b2 ∧ noL co = true ∧ noL b1 = true ∧ noL b2 = true ∧ bodyN k n b1 = some c1 ∧ bodyN k n b2 = some c2 ∧ c1 ≤ 24 ∧ c2 ≤ 24 ∧
  ∀ H' p xs, Same H H' → H p = none → H' p = some (.lst xs) → DpAll K H' xs (ifC (bodyC n) sn co b1 b2) → Q (.ref p) H'
theorem code_len {k : Str} {n c sn : Nat} {ss : List PyData} (ld : ∀ s ∈ ss, Lay s) (h : bodyN k (n + 1) (.tuple ss) = some c) (i : Nat) : (codeL (stC (bodyC n)) sn (ss.take i)).length ≤ 2 * c ∧ ∀ x ∈ codeL (stC (bodyC n)) sn (ss.take i), okI x := by
  have e : ∃ c', bodyN k (n + 1) (.tuple (ss.take i)) = some c' ∧ c' ≤ c := by
    rw [bodyN_tup] at h ⊢
    have e2 : ss = ss.take i ++ ss.drop i := (List.take_append_drop i ss).symm
    rw [e2, List.map_append, sumO_append] at h
    obtain ⟨a, b, h1, _, h3, _⟩ := addO_le h
    exact ⟨a, h1, h3⟩
  obtain ⟨c', h1, h2⟩ := e
  obtain ⟨h3, h4⟩ := body_code_ok (d := .tuple (ss.take i)) sn (lay_tuple fun s m => ld s (List.mem_of_mem_take m)) h1
  exact ⟨by have : (codeL (stC (bodyC n)) sn (ss.take i)).length ≤ 2 * c' := h4
            omega, h3⟩
section
variable {P : Program} {w : World} {K : PySem.W.Frag} {mg : Str → Option Value} {base : Heap}
theorem scBC : FnScope ["body", "start", "code", "statement", "at"] ["body", "start"] (defScope sBC) := ⟨rfl, rfl, rfl, by decide +kernel, rfl, by decide +kernel, by decide +kernel⟩
theorem ok_BC {f : Addr} {fd : FuncData} {lv n : Nat} (F : Fun K "body_code" "body_code" sBC f fd) (T : Gs K mg) (CS : Cal P w K mg base lv "statement_code" ["statement", "start"] (fun vs H Q E => n ≠ 0 ∧ spSC K (n - 1) vs H Q E)) :
    FnOk P w K mg base CX0 (lv + 1) f fd ["body", "start"] (spBC K n) := by
  refine F.ok scBC (fun vs H Q E h => ?_) (fun cdv A outer s H vs Q E hr h => ?_)
  · obtain ⟨v, d, k, c, sn, rfl, _⟩ := h
    rfl
  obtain ⟨v, d, k, c, sn, rfl, hd, ld, nd, hbc, hc, q⟩ := h
  refine ⟨_, pss_cons (ps_set (i := 2) scBC.nd rfl (.inl rfl) (pe_lst pa_nil))
    (pss_cons (ps_for PassesOwn.never rfl (pi_tup (pv 0)) (pg_name (i := 3) scBC.nd rfl (.inl rfl))
      (pss_cons (ps_set (i := 4) scBC.nd rfl (.inl rfl) (pe_op op_add (pv 1) (pe_callB call_len_seq (by rfl) T.len PySem.boot_len (pa_cons (pv 2) pa_nil))))
      (pss_one (ps_expr (pe_bm PySem.F.plainAttrs_list PySem.F.slot_list_extend PySem.F.type_list_extend mt_extend (pv 2) (pa_cons (pe_call CS.G hr rfl CS.m CS.kp CS.b .nil pass0 (pa_cons (pv 3) (pa_cons (pv 4) pa_nil))) pa_nil))))))
    (pss_one (ps_ret (pv 2)))), ?_⟩
  obtain ⟨ss, rfl⟩ := body_tuple hbc
  obtain ⟨a, xs, rfl, hs, ha⟩ := dp_tup_inv hd
  have hl := dpAll_len ha
  have lm := lay_mem (lay_tup ld)
  have nm := noL_mem (noL_tup nd)
  refine ⟨(by show 0 ≤ sizeLine; decide), fun l nl => ?_⟩
  have s0 : Same H (upd H l (.lst [])) := same_new nl _
  refine ⟨_, rfl, a, rfl, ⟨_, Same.tup s0 hs⟩, for_tup (K := K) (a := a) (xs := xs) (fun i σ H' => ∃ (ys : List V) (s3 s4 : Option V), σ = [some (.ref a), some (.int (sn : Nat)), some (.ref l), s3, s4] ∧ Same H H' ∧ H' l = some (.lst ys) ∧ DpAll K H' ys (bodyC n sn (.tuple (ss.take i))))
    ⟨[], none, none, rfl, s0, upd_same, by cases n <;> exact .nil⟩ (fun i σ H' _ ⟨_, _, _, _, s1, _⟩ => Same.tup s1 hs) ?_ ?_⟩
  · rintro i x σ H1 hx ⟨ys, s3, s4, rfl, s1, hl1, hys⟩
    obtain ⟨si, hsi, hxd⟩ := dpAll_get ha hx
    have msi := List.mem_of_getElem? hsi
    cases n with
    | zero =>
      cases ss with
      | nil => cases msi
      | cons _ _ => cases hbc
    | succ n =>
      obtain ⟨ai, hai, lai⟩ := sum_le hbc msi
      obtain ⟨cl1, cok⟩ := code_len (sn := sn) lm hbc i
      have hyl : ys.length = (codeL (stC (bodyC n)) sn (ss.take i)).length := dpAll_len hys
      refine ⟨_, rfl, _, rfl, l, ys, rfl, .inl (SqL.of hl1), _, _, rfl, rfl, ?_⟩
      refine ⟨_, rfl, .inl ⟨rfl, _, SqL.of hl1⟩, _, rfl, _, rfl, by omega, x, si, k, ai, sn + ys.length, rfl, dp_mono s1 _ _ hxd, lm _ msi, nm _ msi, hai, by omega, fun H2 p zs s2 np hp hzs => ?_⟩
      have hl2 := s2 _ _ hl1
      have nlp : l ≠ p := ne_of_none hl1 np
      have one := code_len (sn := sn) lm hbc (i + 1)
      have esn : codeL (stC (bodyC n)) sn (ss.take (i + 1)) = codeL (stC (bodyC n)) sn (ss.take i) ++ stC (bodyC n) (sn + ys.length) si := by rw [take_snoc hsi, codeL_snoc, hyl]
      rw [esn] at one
      have zl : zs.length = (stC (bodyC n) (sn + ys.length) si).length := dpAll_len hzs
      have ltot : ys.length + zs.length ≤ 2 * c := by
        have := one.1
        rw [List.length_append] at this
        omega
      have keep : ∀ a o, a ≠ l → H2 a = some o → (upd H2 l (.lst (ys ++ zs))) a = some o := fun a o n h => by rw [upd_ne n]; exact h
      refine ⟨l, p, ys, zs, rfl, rfl, hl2, hp, Nat.le_of_lt (Nat.lt_of_le_of_lt (by omega : _ ≤ 1000) (by decide)), ys ++ zs, _, _, rfl, same_upd (s1.trans s2) nl _, upd_same, ?_⟩
      show DpAll K _ (ys ++ zs) (codeL (stC (bodyC n)) sn (ss.take (i + 1)))
      rw [esn]
      refine dpAll_append (dpAll_keepL keep hl2 _ _ (noLAll_of fun d m => (one.2 d (List.mem_append_left _ m)).1) (dpAll_mono s2 _ _ hys)) (dpAll_keepL keep hl2 _ _ (noLAll_of fun d m => (one.2 d (List.mem_append_right _ m)).1) hzs)
  · rintro σ H1 ⟨ys, s3, s4, rfl, s1, hl1, hys⟩
    rw [hl, List.take_length] at hys
    exact ⟨_, rfl, q _ _ _ s1 nl hl1 hys⟩
theorem scSC : FnScope ["statement", "start"] ["statement", "start"] (defScope sSC) := ⟨rfl, rfl, rfl, by decide +kernel, rfl, by decide +kernel, by decide +kernel⟩
theorem ok_SC {f : Addr} {fd : FuncData} {lv n : Nat} (F : Fun K "statement_code" "statement_code" sSC f fd) (CW : Cal P w K mg base lv "while_code" ["statement", "start"] (spWC K n)) (CI : Cal P w K mg base lv "if_code" ["statement", "start"] (spIC K n)) :
    FnOk P w K mg base CX0 (lv + 1) f fd ["statement", "start"] (spSC K n) := by
  refine F.ok scSC (fun vs H Q E h => ?_) (fun cdv A outer s H vs Q E hr h => ?_)
  · obtain ⟨v, d, k, c, sn, rfl, _⟩ := h
    rfl
  obtain ⟨v, d, k, c, sn, rfl, hd, ld, nd, hst, hc, q⟩ := h
  refine ⟨_, pss_cons (ps_if (pt_cmpR op_eq (pe_ix ix_tup (pv 0) pe_int (fun _ _ => rfl)) pe_str (nomark _)) (pss_one (ps_ret (pe_call CW.G hr rfl CW.m CW.kp CW.b .nil pass0 (pa_cons (pv 0) (pa_cons (pv 1) pa_nil))))) pss_nil)
    (pss_cons (ps_if (pt_cmpR op_eq (pe_ix ix_tup (pv 0) pe_int (fun _ _ => rfl)) pe_str (nomark _)) (pss_one (ps_ret (pe_call CI.G hr rfl CI.m CI.kp CI.b .nil pass0 (pa_cons (pv 0) (pa_cons (pv 1) pa_nil))))) pss_nil)
    (pss_one (ps_ret (pe_lst (pa_cons (pv 0) pa_nil))))), ?_⟩
  rcases st_shape hst with ⟨z, ps, rfl, h1, h2, hp, rfl⟩ | ⟨co, bb, c', rfl, hco, hb, rfl⟩ | ⟨co, b1, b2, c1, c2, rfl, hco, hb1, hb2, rfl⟩
  · obtain ⟨a, xs, rfl, hs, ha⟩ := dp_tup_inv hd
    obtain ⟨xr, rfl⟩ : ∃ xr, xs = .str z :: xr := by
      cases ha with
      | cons hz _ => cases hz; exact ⟨_, rfl⟩
    refine ⟨_, rfl, a, _, _, _, rfl, rfl, hs, atI_nat (j := 0) rfl, rfl, _, rfl, strF h2 ?_⟩
    refine ⟨_, rfl, a, _, _, _, rfl, rfl, hs, atI_nat (j := 0) rfl, rfl, _, rfl, strF h1 ?_⟩
    refine ⟨_, rfl, (by show 1 ≤ sizeLine; decide), fun p np => ?_⟩
    rw [stC_plain h1 h2] at q
    exact q _ p _ (same_new np _) np upd_same (.cons (dp_mono (same_new np _) _ _ hd) .nil)
  · obtain ⟨a, xs, rfl, hs, ha⟩ := dp_tup_inv hd
    obtain ⟨xr, rfl⟩ : ∃ xr, xs = .str "while" :: xr := by
      cases ha with
      | cons hz _ => cases hz; exact ⟨_, rfl⟩
    have lm := lay_mem (lay_tup ld)
    have nm := noL_mem (noL_tup nd)
    rw [stC_while] at q
    exact ⟨_, rfl, a, _, _, _, rfl, rfl, hs, atI_nat (j := 0) rfl, rfl, _, rfl, strT ⟨_, rfl, _, rfl, _, co, bb, k, c', sn, rfl, hd, lm bb (by simp), nm co (by simp), nm bb (by simp), hb, by omega, q⟩⟩
  · obtain ⟨a, xs, rfl, hs, ha⟩ := dp_tup_inv hd
    obtain ⟨xr, rfl⟩ : ∃ xr, xs = .str "if" :: xr := by
      cases ha with
      | cons hz _ => cases hz; exact ⟨_, rfl⟩
    have lm := lay_mem (lay_tup ld)
    have nm := noL_mem (noL_tup nd)
    rw [stC_if] at q
    refine ⟨_, rfl, a, _, _, _, rfl, rfl, hs, atI_nat (j := 0) rfl, rfl, _, rfl, strF (by decide +kernel) ?_⟩
    exact ⟨_, rfl, a, _, _, _, rfl, rfl, hs, atI_nat (j := 0) rfl, rfl, _, rfl, strT ⟨_, rfl, _, rfl, _, co, b1, b2, k, c1, c2, sn, rfl, hd, lm b1 (by simp), lm b2 (by simp), nm co (by simp), nm b1 (by simp), nm b2 (by simp), hb1, hb2, by omega, by omega, q⟩⟩
theorem scWC : FnScope ["statement", "start", "condition", "body", "inside", "behind"] ["statement", "start"] (defScope sWC) := ⟨rfl, rfl, rfl, by decide +kernel, rfl, by decide +kernel, by decide +kernel⟩
theorem ok_WC {f : Addr} {fd : FuncData} {lv n : Nat} (F : Fun K "while_code" "while_code" sWC f fd) (T : Gs K mg) (CB : Cal P w K mg base lv "body_code" ["body", "start"] (spBC K n)) :
    FnOk P w K mg base CX0 (lv + 1) f fd ["statement", "start"] (spWC K n) := by
  refine F.ok scWC (fun vs H Q E h => ?_) (fun cdv A outer s H vs Q E hr h => ?_)
  · obtain ⟨v, co, b, k, c, sn, rfl, _⟩ := h
    rfl
  obtain ⟨v, co, b, k, c, sn, rfl, hd, lb, nco, nb, hbc, hc, q⟩ := h
  refine ⟨_, pss_cons (ps_asg (pe_slice sl_tup (pv 0) (po_some pe_int) po_none) (pg_tup (by rfl) (pgs_cons (pg_name (i := 2) scWC.nd rfl (.inl rfl)) (pgs_cons (pg_name (i := 3) scWC.nd rfl (.inl rfl)) pgs_nil))))
    (pss_cons (ps_set (i := 4) scWC.nd rfl (.inl rfl) (pe_call CB.G hr rfl CB.m CB.kp CB.b .nil pass0 (pa_cons (pv 3) (pa_cons (pe_op op_add (pv 1) pe_int) pa_nil))))
    (pss_cons (ps_set (i := 5) scWC.nd rfl (.inl rfl) (pe_op op_add (pe_op op_add (pe_op op_add (pv 1) pe_int) (pe_callB call_len_seq (by rfl) T.len PySem.boot_len (pa_cons (pv 4) pa_nil))) pe_int))
    (pss_one (ps_ret (pe_lst (pa_cons (pe_tup (pa_cons pe_str (pa_cons (pv 2) (pa_cons (pv 5) pa_nil)))) (StX.pa_star (pv 4) (pa_cons (pe_tup (pa_cons pe_str (pa_cons (pv 1) pa_nil))) pa_nil)))))))), ?_⟩
  obtain ⟨a, xs, rfl, hs, ha⟩ := dp_tup_inv hd
  obtain ⟨x0, x1, x2, d0, d1, d2, rfl, e, hx0, hx1, hx2⟩ := dp_three ha rfl
  injection e with e0 e
  injection e with e1 e
  injection e with e2 e
  subst e0 e1 e2
  cases hx0
  refine ⟨_, rfl, _, rfl, a, _, rfl, hs, not_whole1 _ _, fun p np => ?_⟩
  rw [cut1]
  have s1 : Same H (upd H p (.tup [x1, x2])) := same_new np _
  refine ⟨p, _, rfl, SqT.of upd_same, rfl, _, _, rfl, _, _, rfl, rfl, ?_⟩
  generalize upd H p (.tup [x1, x2]) = H1 at s1 ⊢
  refine ⟨_, rfl, _, rfl, _, _, rfl, rfl, x2, b, k, c, sn + 1, rfl, dp_mono s1 _ _ hx2, lb, nb, hbc, hc, fun H2 q2 ys s2 nq hq hys => ?_⟩
  have s12 := s1.trans s2
  obtain ⟨cok, clen⟩ := body_code_ok (sn + 1) lb hbc
  have yl := dpAll_len hys
  refine ⟨_, rfl, _, _, rfl, rfl, _, rfl, q2, ys, rfl, .inl (SqL.of hq), _, _, rfl, rfl, _, _, rfl, rfl, ?_⟩
  refine ⟨_, rfl, _, rfl, (by show 3 ≤ sizeLine; decide), fun t nt => ?_⟩
  have s3 : Same H2 (upd H2 t (.tup [.str "test", x1, .int ((sn : Nat) + 1 + (ys.length : Nat) + 1)])) := same_new nt _
  have et : (upd H2 t (.tup [.str "test", x1, .int ((sn : Nat) + 1 + (ys.length : Nat) + 1)])) t = some (.tup [.str "test", x1, .int ((sn : Nat) + 1 + (ys.length : Nat) + 1)]) := upd_same
  generalize upd H2 t (.tup [.str "test", x1, .int ((sn : Nat) + 1 + (ys.length : Nat) + 1)]) = H3 at s3 et ⊢
  refine ⟨_, rfl, q2, ys, rfl, .inr (SqL.of (s3 _ _ hq)), _, rfl, (by show 2 ≤ sizeLine; decide), fun j nj => ?_⟩
  have s4 : Same H3 (upd H3 j (.tup [.str "jump", .int (sn : Nat)])) := same_new nj _
  have ej : (upd H3 j (.tup [.str "jump", .int (sn : Nat)])) j = some (.tup [.str "jump", .int (sn : Nat)]) := upd_same
  generalize upd H3 j (.tup [.str "jump", .int (sn : Nat)]) = H4 at s4 ej ⊢
  refine ⟨?_, fun r nr => ?_⟩
  · show (ys ++ [V.ref j]).length + 1 ≤ sizeLine
    rw [List.length_append]
    exact Nat.le_of_lt (Nat.lt_of_le_of_lt (by show ys.length + 1 + 1 ≤ 1000; omega : _ ≤ 1000) (by decide))
  have s5 : Same H4 (upd H4 r (.lst (.ref t :: (ys ++ [.ref j])))) := same_new nr _
  have s14 := s12.trans (s3.trans s4)
  refine q _ r _ (s14.trans s5) (s14.free nr) upd_same ?_
  refine .cons (.tup (SqT.of (s5 _ _ (s4 _ _ et))) (.cons (.str _) (.cons (dp_mono (s14.trans s5) _ _ hx1) (.cons ?_ .nil)))) (dpAll_append (dpAll_mono (s3.trans (s4.trans s5)) _ _ hys) (.cons (.tup (SqT.of (s5 _ _ ej)) (.cons (.str _) (.cons (.int _) .nil))) .nil))
  rw [← yl]
  exact .int _
theorem scIC : FnScope ["statement", "start", "condition", "first", "second", "inside", "behind", "otherwise", "end"] ["statement", "start"] (defScope sIC) := ⟨rfl, rfl, rfl, by decide +kernel, rfl, by decide +kernel, by decide +kernel⟩
theorem ok_IC {f : Addr} {fd : FuncData} {lv n : Nat} (F : Fun K "if_code" "if_code" sIC f fd) (T : Gs K mg) (CB : Cal P w K mg base lv "body_code" ["body", "start"] (spBC K n)) :
    FnOk P w K mg base CX0 (lv + 1) f fd ["statement", "start"] (spIC K n) := by
  refine F.ok scIC (fun vs H Q E h => ?_) (fun cdv A outer s H vs Q E hr h => ?_)
  · obtain ⟨v, co, b1, b2, k, c1, c2, sn, rfl, _⟩ := h
    rfl
  obtain ⟨v, co, b1, b2, k, c1, c2, sn, rfl, hd, lb1, lb2, nco, nb1, nb2, hbc1, hbc2, hc1, hc2, q⟩ := h
  refine ⟨_, pss_cons (ps_asg (pe_slice sl_tup (pv 0) (po_some pe_int) po_none) (pg_tup (by rfl) (pgs_cons (pg_name (i := 2) scIC.nd rfl (.inl rfl)) (pgs_cons (pg_name (i := 3) scIC.nd rfl (.inl rfl)) (pgs_cons (pg_name (i := 4) scIC.nd rfl (.inl rfl)) pgs_nil)))))
    (pss_cons (ps_set (i := 5) scIC.nd rfl (.inl rfl) (pe_call CB.G hr rfl CB.m CB.kp CB.b .nil pass0 (pa_cons (pv 3) (pa_cons (pe_op op_add (pv 1) pe_int) pa_nil))))
    (pss_cons (ps_set (i := 6) scIC.nd rfl (.inl rfl) (pe_op op_add (pe_op op_add (pv 1) pe_int) (pe_callB call_len_seq (by rfl) T.len PySem.boot_len (pa_cons (pv 5) pa_nil))))
    (pss_cons (ps_if (pt_cmpR op_eq (pe_callB call_len_seq (by rfl) T.len PySem.boot_len (pa_cons (pv 4) pa_nil)) pe_int (nomark _)) (pss_one (ps_ret (pe_lst (pa_cons (pe_tup (pa_cons pe_str (pa_cons (pv 2) (pa_cons (pv 6) pa_nil)))) (StX.pa_star (pv 5) pa_nil))))) pss_nil)
    (pss_cons (ps_set (i := 7) scIC.nd rfl (.inl rfl) (pe_call CB.G hr rfl CB.m CB.kp CB.b .nil pass0 (pa_cons (pv 4) (pa_cons (pe_op op_add (pv 6) pe_int) pa_nil))))
    (pss_cons (ps_set (i := 8) scIC.nd rfl (.inl rfl) (pe_op op_add (pe_op op_add (pv 6) pe_int) (pe_callB call_len_seq (by rfl) T.len PySem.boot_len (pa_cons (pv 7) pa_nil))))
    (pss_one (ps_ret (pe_lst (pa_cons (pe_tup (pa_cons pe_str (pa_cons (pv 2) (pa_cons (pe_op op_add (pv 6) pe_int) pa_nil)))) (StX.pa_star (pv 5) (pa_cons (pe_tup (pa_cons pe_str (pa_cons (pv 8) pa_nil))) (StX.pa_star (pv 7) pa_nil)))))))))))), ?_⟩
  obtain ⟨a, xs, rfl, hs, ha⟩ := dp_tup_inv hd
  obtain ⟨x0, x1, x2, x3, rfl, hx0, hx1, hx2, hx3⟩ := dp_four ha
  cases hx0
  refine ⟨_, rfl, _, rfl, a, _, rfl, hs, not_whole1 _ _, fun p np => ?_⟩
  rw [cut1]
  have s1 : Same H (upd H p (.tup [x1, x2, x3])) := same_new np _
  refine ⟨p, _, rfl, SqT.of upd_same, rfl, _, _, rfl, _, _, rfl, _, _, rfl, rfl, ?_⟩
  generalize upd H p (.tup [x1, x2, x3]) = H1 at s1 ⊢
  refine ⟨_, rfl, _, rfl, _, _, rfl, rfl, x2, b1, k, c1, sn + 1, rfl, dp_mono s1 _ _ hx2, lb1, nb1, hbc1, hc1, fun H2 q2 ys s2 nq hq hys => ?_⟩
  have s12 := s1.trans s2
  obtain ⟨cok, clen⟩ := body_code_ok (sn + 1) lb1 hbc1
  have yl := dpAll_len hys
  refine ⟨_, rfl, _, _, rfl, rfl, _, rfl, q2, ys, rfl, .inl (SqL.of hq), _, _, rfl, rfl, ?_⟩
  obtain ⟨ss2, rfl⟩ := body_tuple hbc2
  obtain ⟨a2, xs2, rfl, hs2, ha2⟩ := dp_tup_inv hx3
  have hl2 := dpAll_len ha2
  refine ⟨_, rfl, a2, xs2, rfl, .inr (Same.tup s12 hs2), rfl, _, rfl, ?_⟩
  unfold ifC at q
  by_cases h0 : ss2 = []
  · subst h0
    have xz : xs2.length = 0 := hl2
    refine ite2 (fun _ => ?_) (fun c => absurd (decide_eq_true (by rw [xz]; rfl)) c)
    rw [if_pos (show isNil (.tuple []) = true from rfl)] at q
    refine ⟨_, rfl, _, rfl, (by show 3 ≤ sizeLine; decide), fun t nt => ?_⟩
    have s3 : Same H2 (upd H2 t (.tup [.str "test", x1, .int ((sn : Nat) + 1 + (ys.length : Nat))])) := same_new nt _
    have et : (upd H2 t (.tup [.str "test", x1, .int ((sn : Nat) + 1 + (ys.length : Nat))])) t = some (.tup [.str "test", x1, .int ((sn : Nat) + 1 + (ys.length : Nat))]) := upd_same
    generalize upd H2 t (.tup [.str "test", x1, .int ((sn : Nat) + 1 + (ys.length : Nat))]) = H3 at s3 et ⊢
    refine ⟨_, rfl, q2, ys, rfl, .inr (SqL.of (s3 _ _ hq)), ?_, fun r nr => ?_⟩
    · show (ys ++ []).length + 1 ≤ sizeLine
      rw [List.append_nil]
      exact Nat.le_of_lt (Nat.lt_of_le_of_lt (by show ys.length + 1 ≤ 1000; omega : _ ≤ 1000) (by decide))
    have s13 := s12.trans s3
    have s5 : Same H3 (upd H3 r (.lst (.ref t :: (ys ++ [])))) := same_new nr _
    refine q _ r _ (s13.trans s5) (s13.free nr) upd_same ?_
    refine .cons (.tup (SqT.of (s5 _ _ et)) (.cons (.str _) (.cons (dp_mono (s13.trans s5) _ _ hx1) (.cons ?_ .nil)))) (by rw [List.append_nil] at s5 ⊢; exact dpAll_mono (s3.trans s5) _ _ hys)
    rw [← yl]
    exact .int _
  · have hnil : isNil (.tuple ss2) = false := by
      cases ss2 with
      | nil => exact absurd rfl h0
      | cons _ _ => rfl
    rw [if_neg (by rw [hnil]; decide)] at q
    have xnz : ¬ xs2.length = 0 := fun e => h0 (List.length_eq_zero_iff.mp (by omega))
    refine ite2 (fun c => absurd (of_decide_eq_true c) (fun e => xnz (by injection e with e; omega))) (fun _ => ?_)
    refine ⟨_, rfl, _, rfl, _, _, rfl, rfl, _, .tuple ss2, k, c2, sn + 1 + ys.length + 1, rfl, dp_mono s12 _ _ hx3, lb2, nb2, hbc2, hc2, fun H3 q3 zs s3 nq3 hq3 hzs => ?_⟩
    have s13 := s12.trans s3
    obtain ⟨cok2, clen2⟩ := body_code_ok (sn + 1 + ys.length + 1) lb2 hbc2
    have zl := dpAll_len hzs
    refine ⟨_, rfl, _, _, rfl, rfl, _, rfl, q3, zs, rfl, .inl (SqL.of hq3), _, _, rfl, rfl, ?_⟩
    refine ⟨_, rfl, _, rfl, _, _, rfl, rfl, (by show 3 ≤ sizeLine; decide), fun t nt => ?_⟩
    have s4 : Same H3 (upd H3 t (.tup [.str "test", x1, .int ((sn : Nat) + 1 + (ys.length : Nat) + 1)])) := same_new nt _
    have et : (upd H3 t (.tup [.str "test", x1, .int ((sn : Nat) + 1 + (ys.length : Nat) + 1)])) t = some (.tup [.str "test", x1, .int ((sn : Nat) + 1 + (ys.length : Nat) + 1)]) := upd_same
    generalize upd H3 t (.tup [.str "test", x1, .int ((sn : Nat) + 1 + (ys.length : Nat) + 1)]) = H4 at s4 et ⊢
    refine ⟨_, rfl, q2, ys, rfl, .inr (SqL.of (s4 _ _ (s3 _ _ hq))), _, rfl, (by show 2 ≤ sizeLine; decide), fun j nj => ?_⟩
    have s5 : Same H4 (upd H4 j (.tup [.str "jump", .int ((sn : Nat) + 1 + (ys.length : Nat) + 1 + (zs.length : Nat))])) := same_new nj _
    have ej : (upd H4 j (.tup [.str "jump", .int ((sn : Nat) + 1 + (ys.length : Nat) + 1 + (zs.length : Nat))])) j = some (.tup [.str "jump", .int ((sn : Nat) + 1 + (ys.length : Nat) + 1 + (zs.length : Nat))]) := upd_same
    generalize upd H4 j (.tup [.str "jump", .int ((sn : Nat) + 1 + (ys.length : Nat) + 1 + (zs.length : Nat))]) = H5 at s5 ej ⊢
    refine ⟨_, rfl, q3, zs, rfl, .inr (SqL.of (s5 _ _ (s4 _ _ hq3))), ?_, fun r nr => ?_⟩
    · show (ys ++ V.ref j :: (zs ++ [])).length + 1 ≤ sizeLine
      rw [List.append_nil, List.length_append, List.length_cons]
      exact Nat.le_of_lt (Nat.lt_of_le_of_lt (by omega : _ ≤ 1000) (by decide))
    have s15 := s13.trans (s4.trans s5)
    rw [List.append_nil]
    have s6 : Same H5 (upd H5 r (.lst (.ref t :: (ys ++ .ref j :: zs)))) := same_new nr _
    refine q _ r _ (s15.trans s6) (s15.free nr) upd_same ?_
    rw [← yl, ← zl]
    exact .cons (.tup (SqT.of (s6 _ _ (s5 _ _ et))) (.cons (.str _) (.cons (dp_mono (s15.trans s6) _ _ hx1) (.cons (.int _) .nil)))) (dpAll_append (dpAll_mono (s3.trans (s4.trans (s5.trans s6))) _ _ hys) (.cons (.tup (SqT.of (s6 _ _ ej)) (.cons (.str _) (.cons (.int _) .nil))) (dpAll_mono (s4.trans (s5.trans s6)) _ _ hzs)))
theorem none_SC {f : Addr} {fd : FuncData} (lv : Nat) : FnOk P w K mg base CX0 lv f fd ["statement", "start"] (fun vs H Q E => 0 ≠ 0 ∧ spSC K (0 - 1) vs H Q E) :=
  ⟨fun vs H Q E h => absurd rfl h.1, fun A outer s H args us vs Q E _ _ _ _ h => absurd rfl h.1⟩
theorem recC {fB fS fW fI : Addr} {dB dS dW dI : FuncData} (FB : Fun K "body_code" "body_code" sBC fB dB) (bB : Binds K dB ["body", "start"] []) (mB : mg "body_code" = some (.ref fB))
    (FS : Fun K "statement_code" "statement_code" sSC fS dS) (bS : Binds K dS ["statement", "start"] []) (mS : mg "statement_code" = some (.ref fS))
    (FW : Fun K "while_code" "while_code" sWC fW dW) (bW : Binds K dW ["statement", "start"] []) (mW : mg "while_code" = some (.ref fW))
    (FI : Fun K "if_code" "if_code" sIC fI dI) (bI : Binds K dI ["statement", "start"] []) (mI : mg "if_code" = some (.ref fI)) (T : Gs K mg) :
    ∀ n : Nat, FnOk P w K mg base CX0 (2 + 3 * n) fB dB ["body", "start"] (spBC K n)
  | 0 => ok_BC (lv := 1) FB T ⟨fS, dS, none_SC 1, bS, FS.kp, mS⟩
  | n + 1 => by
    have ih := recC FB bB mB FS bS mS FW bW mW FI bI mI T n
    have cb : Cal P w K mg base (2 + 3 * n) "body_code" ["body", "start"] (spBC K n) := ⟨fB, dB, ih, bB, FB.kp, mB⟩
    have st := ok_SC (lv := 2 + 3 * n + 1) FS ⟨fW, dW, ok_WC FW T cb, bW, FW.kp, mW⟩ ⟨fI, dI, ok_IC FI T cb, bI, FI.kp, mI⟩
    have st2 : FnOk P w K mg base CX0 (2 + 3 * n + 1 + 1) fS dS ["statement", "start"] (fun vs H Q E => n + 1 ≠ 0 ∧ spSC K (n + 1 - 1) vs H Q E) :=
      ⟨fun vs H Q E h => st.len vs H Q E h.2, fun A outer s H args us vs Q E h1 h2 h3 h4 h => st.run A outer s H args us vs Q E h1 h2 h3 h4 h.2⟩
    exact ok_BC (lv := 2 + 3 * n + 1 + 1) (n := n + 1) FB T ⟨fS, dS, st2, bS, FS.kp, mS⟩
end
abbrev sLC : Stmt := top 55
def spLC (K : PySem.W.Frag) (n : Nat) : Sp := fun vs H Q _ => ∃ (v : V) (l : Addr) (d : PyData) (k : Str) (c : Nat) (cs : List V) (ds : List PyData), vs = [v, .ref l] ∧ n ≤ 4 ∧ Dp K H v d ∧ Lay d ∧ noL d = true ∧ bodyN k n d = some c ∧ c ≤ 24 ∧ H l = some (.lst cs) ∧ DpAll K H cs ds ∧ noLAll ds = true ∧ ds.length + (bodyC n ds.length d).length ≤ 1000 ∧
  ∀ H' p xs, Same H H' → (p = l ∨ H p = none) → H' p = some (.lst xs) → DpAll K H' xs (ds ++ bodyC n ds.length d) → Q (.ref p) H'
theorem codeL_take (f : Nat → PyData → List PyData) : ∀ (s0 : Nat) (ss : List PyData) (i : Nat), (codeL f s0 (ss.take i)).length ≤ (codeL f s0 ss).length
  | _, [], _ => by simp [codeL]
  | _, _ :: _, 0 => by simp [codeL]
  | s0, x :: r, i + 1 => by
    rw [List.take_succ_cons]
    simp only [codeL, List.length_append]
    have := codeL_take f (s0 + (f s0 x).length) r i
    omega
theorem set_mid {α : Type} (a : List α) (x y : α) (b : List α) : (a ++ x :: b).set a.length y = a ++ y :: b := by
  induction a with
  | nil => rfl
  | cons z r ih => simp [ih]
theorem ixN_at {n j : Nat} (h : j < n) : ixN n (j : Int) = some j := by
  unfold ixN
  rw [if_pos (by omega), if_pos (by omega)]
  simp
theorem int_eq {K : PySem.W.Frag} {H : Hp} {i j : Int} (h : i = j) : Dp K H (.int i) (.int j) := by rw [h]; exact .int _
theorem dpAll_set {K : PySem.W.Frag} {H : Hp} : ∀ {zs : List V} {ds : List PyData} (m : Nat) {v : V} {d : PyData}, DpAll K H zs ds → Dp K H v d → DpAll K H (zs.set m v) (ds.set m d)
  | _, _, _, _, _, .nil, _ => .nil
  | _, _, 0, _, _, .cons _ t, h => .cons h t
  | _, _, m + 1, _, _, .cons a t, h => .cons a (dpAll_set m t h)
theorem noL_set : ∀ {ds : List PyData} (m : Nat) {d : PyData}, noLAll ds = true → noL d = true → noLAll (ds.set m d) = true
  | [], _, _, _, _ => rfl
  | x :: r, 0, d, h, h2 => by
    simp only [noLAll, Bool.and_eq_true] at h
    simp only [List.set, noLAll, Bool.and_eq_true]
    exact ⟨h2, h.2⟩
  | x :: r, m + 1, d, h, h2 => by
    simp only [noLAll, Bool.and_eq_true] at h
    simp only [List.set, noLAll, Bool.and_eq_true]
    exact ⟨h.1, noL_set m h.2 h2⟩
/-- one item of a list changed by place, its data with it -/
theorem setD {K : PySem.W.Frag} {H : Hp} {r : Addr} {zs ys : List V} {A X Y W : List PyData} {v : V} {d : PyData} (yl : ys.length = X.length) (hz : DpAll K H zs A) (nA : noLAll A = true) (hr : H r = some (.lst zs)) (hv : Dp K H v d) (nd : noL d = true)
    (eA : A = X ++ PyData.none :: Y) (eW : X ++ d :: Y = W) : DpAll K (upd H r (.lst (zs.set ys.length v))) (zs.set ys.length v) W := by
  have h1 : DpAll K H (zs.set ys.length v) (A.set X.length d) := by rw [yl]; exact dpAll_set _ hz hv
  have e : A.set X.length d = W := by rw [eA, set_mid, eW]
  rw [e] at h1
  have n1 : noLAll W = true := by rw [← e]; exact noL_set _ nA nd
  exact dpAll_keepL (fun a o n h => by rw [upd_ne n]; exact h) hr _ _ n1 h1
section
variable {P : Program} {w : World} {K : PySem.W.Frag} {mg : Str → Option Value} {base : Heap}
theorem scLC : FnScope ["_law_body_here", "_law_code_here", "_law_statement_here", "_law_at", "_law_jump"] ["_law_body_here", "_law_code_here"] (defScope sLC) := ⟨rfl, rfl, rfl, by decide +kernel, rfl, by decide +kernel, by decide +kernel⟩
theorem ok_LC {f : Addr} {fd : FuncData} {lv n : Nat} (F : Fun K "_law_code" "_law_code" sLC f fd) (T : Gs K mg) (CC : Cal P w K mg base lv "_law_code" ["_law_body_here", "_law_code_here"] (fun vs H Q E => n ≠ 0 ∧ spLC K (n - 1) vs H Q E)) :
    FnOk P w K mg base CX0 (lv + 1) f fd ["_law_body_here", "_law_code_here"] (spLC K n) := by
  refine F.ok scLC (fun vs H Q E h => ?_) (fun cdv A outer s H vs Q E hr h => ?_)
  · obtain ⟨v, l, d, k, c, cs, ds, rfl, _⟩ := h
    rfl
  obtain ⟨v, l, d, k, c, cs, ds, rfl, hn4, hd, ld, nd, hbc, hc, hl, hcs, nds, hlen, q⟩ := h
  refine ⟨_, pss_cons (ps_for PassesOwn.never rfl (pi_tup (pv 0)) (pg_name (i := 2) scLC.nd rfl (.inl rfl))
      (pss_cons (ps_set (i := 3) scLC.nd rfl (.inl rfl) (pe_callB call_len_seq (by rfl) T.len PySem.boot_len (pa_cons (pv 1) pa_nil)))
      (pss_one (ps_if (pt_cmpR op_eq (pe_ix ix_tup (pv 2) pe_int (fun _ _ => rfl)) pe_str (nomark _))
        (pss_cons (ps_set (i := 1) scLC.nd rfl (.inl rfl) (pe_op op_cat (pe_call CC.G hr rfl CC.m CC.kp CC.b .nil pass0 (pa_cons (pe_ix ix_tup (pv 2) pe_int (fun _ _ => rfl)) (pa_cons (pe_op op_cat (pv 1) (pe_lst (pa_cons pe_non pa_nil))) pa_nil))) (pe_lst (pa_cons (pe_tup (pa_cons pe_str (pa_cons (pv 3) pa_nil))) pa_nil))))
        (pss_one (ps_asg (pe_tup (pa_cons pe_str (pa_cons (pe_ix ix_tup (pv 2) pe_int (fun _ _ => rfl)) (pa_cons (pe_callB call_len_seq (by rfl) T.len PySem.boot_len (pa_cons (pv 1) pa_nil)) pa_nil)))) (pg_sub (pv 1) (pv 3) set_list))))
        (pss_one (ps_if (pt_cmpR op_eq (pe_ix ix_tup (pv 2) pe_int (fun _ _ => rfl)) pe_str (nomark _))
          (pss_cons (ps_set (i := 1) scLC.nd rfl (.inl rfl) (pe_call CC.G hr rfl CC.m CC.kp CC.b .nil pass0 (pa_cons (pe_ix ix_tup (pv 2) pe_int (fun _ _ => rfl)) (pa_cons (pe_op op_cat (pv 1) (pe_lst (pa_cons pe_non pa_nil))) pa_nil))))
          (pss_one (ps_if (pt_cmpR (op_neD hr.units) (pe_ix ix_tup (pv 2) pe_int (fun _ _ => rfl)) (pe_tup pa_nil) (nomark _))
            (pss_cons (ps_set (i := 4) scLC.nd rfl (.inl rfl) (pe_callB call_len_seq (by rfl) T.len PySem.boot_len (pa_cons (pv 1) pa_nil)))
            (pss_cons (ps_set (i := 1) scLC.nd rfl (.inl rfl) (pe_call CC.G hr rfl CC.m CC.kp CC.b .nil pass0 (pa_cons (pe_ix ix_tup (pv 2) pe_int (fun _ _ => rfl)) (pa_cons (pe_op op_cat (pv 1) (pe_lst (pa_cons pe_non pa_nil))) pa_nil))))
            (pss_cons (ps_asg (pe_tup (pa_cons pe_str (pa_cons (pe_callB call_len_seq (by rfl) T.len PySem.boot_len (pa_cons (pv 1) pa_nil)) pa_nil))) (pg_sub (pv 1) (pv 4) set_list))
            (pss_one (ps_asg (pe_tup (pa_cons pe_str (pa_cons (pe_ix ix_tup (pv 2) pe_int (fun _ _ => rfl)) (pa_cons (pe_op op_add (pv 4) pe_int) pa_nil)))) (pg_sub (pv 1) (pv 3) set_list))))))
            (pss_one (ps_asg (pe_tup (pa_cons pe_str (pa_cons (pe_ix ix_tup (pv 2) pe_int (fun _ _ => rfl)) (pa_cons (pe_callB call_len_seq (by rfl) T.len PySem.boot_len (pa_cons (pv 1) pa_nil)) pa_nil)))) (pg_sub (pv 1) (pv 3) set_list))))))
          (pss_one (ps_set (i := 1) scLC.nd rfl (.inl rfl) (pe_op op_cat (pv 1) (pe_lst (pa_cons (pv 2) pa_nil)))))))))))
    (pss_one (ps_ret (pv 1))), ?_⟩
  obtain ⟨ss, rfl⟩ := body_tuple hbc
  obtain ⟨a, xs, rfl, hs, ha⟩ := dp_tup_inv hd
  have hxl := dpAll_len ha
  have lm := lay_mem (lay_tup ld)
  have nm := noL_mem (noL_tup nd)
  refine ⟨_, rfl, a, rfl, ⟨_, hs⟩, for_tup (K := K) (a := a) (xs := xs) (fun i σ H' => ∃ (p : Addr) (ys : List V) (s2 s3 s4 : Option V), σ = [some (.ref a), some (.ref p), s2, s3, s4] ∧ Same H H' ∧ (p = l ∨ H p = none) ∧ H' p = some (.lst ys) ∧ DpAll K H' ys (ds ++ bodyC n ds.length (.tuple (ss.take i))))
    ⟨l, cs, none, none, none, rfl, Same.refl H, .inl rfl, hl, by rw [show bodyC n ds.length (.tuple (ss.take 0)) = [] by cases n <;> rfl, List.append_nil]; exact hcs⟩ (fun i σ H' _ ⟨_, _, _, _, _, _, s1, _⟩ => Same.tup s1 hs) ?_ ?_⟩
  · rintro i x σ H1 hx ⟨p, ys, s2, s3, s4, rfl, s1, hpl, hp1, hys⟩
    obtain ⟨si, hsi, hxd⟩ := dpAll_get ha hx
    have msi := List.mem_of_getElem? hsi
    cases n with
    | zero =>
      cases ss with
      | nil => cases msi
      | cons _ _ => cases hbc
    | succ n =>
      obtain ⟨ai, hai, lai⟩ := sum_le hbc msi
      obtain ⟨cl1, cok⟩ := code_len (sn := ds.length) lm hbc i
      have one := code_len (sn := ds.length) lm hbc (i + 1)
      rw [take_snoc hsi, codeL_snoc] at one
      have hys' : DpAll K H1 ys (ds ++ codeL (stC (bodyC n)) ds.length (ss.take i)) := hys
      have esn : ds ++ bodyC (n + 1) ds.length (.tuple (ss.take (i + 1))) = (ds ++ codeL (stC (bodyC n)) ds.length (ss.take i)) ++ stC (bodyC n) (ds ++ codeL (stC (bodyC n)) ds.length (ss.take i)).length si := by
        show ds ++ codeL (stC (bodyC n)) ds.length (ss.take (i + 1)) = _
        rw [take_snoc hsi, codeL_snoc, List.length_append, List.append_assoc]
      have nX : noLAll (ds ++ codeL (stC (bodyC n)) ds.length (ss.take i)) = true := noLAll_of fun d m => by
        rcases List.mem_append.mp m with m | m
        · exact noL_mem nds d m
        · exact (cok d m).1
      have lenX : (ds ++ codeL (stC (bodyC n)) ds.length (ss.take i)).length + (stC (bodyC n) (ds ++ codeL (stC (bodyC n)) ds.length (ss.take i)).length si).length ≤ 1000 := by
        have h1 := codeL_take (stC (bodyC n)) ds.length ss (i + 1)
        rw [take_snoc hsi, codeL_snoc, List.length_append] at h1
        have h2 : ds.length + (codeL (stC (bodyC n)) ds.length ss).length ≤ 1000 := hlen
        rw [List.length_append]
        omega
      rw [esn]
      generalize hX : ds ++ codeL (stC (bodyC n)) ds.length (ss.take i) = X at hys' nX lenX ⊢
      have yl : ys.length = X.length := dpAll_len hys'
      refine ⟨_, rfl, p, ys, rfl, .inl (SqL.of hp1), ?_⟩
      have fin : ∀ (H' : Hp) (r : Addr) (zs : List V) (s4' : Option V), Same H H' → H r = none → H' r = some (.lst zs) → DpAll K H' zs (X ++ stC (bodyC n) X.length si) → ∃ (p2 : Addr) (ys2 : List V) (s2 s3 s4 : Option V), ([some (.ref a), some (.ref r), some x, some (.int ((ys.length : Nat) : Int)), s4'] : L2.St) = [some (.ref a), some (.ref p2), s2, s3, s4] ∧ Same H H' ∧ (p2 = l ∨ H p2 = none) ∧ H' p2 = some (.lst ys2) ∧ DpAll K H' ys2 (X ++ stC (bodyC n) X.length si) := by
        intro H' r zs s4' a1 a2 a3 a4
        exact ⟨r, zs, _, _, _, rfl, a1, .inr a2, a3, a4⟩
      rcases st_shape hai with ⟨z, ps, rfl, h1, h2, hp, rfl⟩ | ⟨co, bb, c', rfl, hco, hb, rfl⟩ | ⟨co, b1, b2, c1, c2, rfl, hco, hb1, hb2, rfl⟩
      · obtain ⟨ax, xx, rfl, hsx, hax⟩ := dp_tup_inv hxd
        obtain ⟨xr, rfl⟩ : ∃ xr, xx = .str z :: xr := by
          cases hax with
          | cons hz _ => cases hz; exact ⟨_, rfl⟩
        have hsx1 := Same.tup s1 hsx
        refine ⟨_, rfl, ax, _, _, _, rfl, rfl, hsx1, atI_nat (j := 0) rfl, rfl, _, rfl, strF h2 ?_⟩
        refine ⟨_, rfl, ax, _, _, _, rfl, rfl, hsx1, atI_nat (j := 0) rfl, rfl, _, rfl, strF h1 ?_⟩
        rw [stC_plain h1 h2] at lenX
        refine ⟨_, rfl, _, rfl, (by show 1 ≤ sizeLine; decide), fun l2 nl2 => ?_⟩
        have sA : Same H1 (upd H1 l2 (.lst [.ref ax])) := same_new nl2 _
        refine ⟨p, l2, ys, [.ref ax], rfl, rfl, sA _ _ hp1, upd_same, ?_, fun r nr => ?_⟩
        · exact Nat.le_of_lt (Nat.lt_of_le_of_lt (by show ys.length + 1 ≤ 1000; simp at lenX; omega : _ ≤ 1000) (by decide))
        have sB := sA.trans (same_new nr (.lst (ys ++ [.ref ax])))
        exact fin _ r _ _ (s1.trans sB) ((s1.trans sA).free nr) upd_same (by rw [stC_plain h1 h2]; exact dpAll_append (dpAll_mono sB _ _ hys') (.cons (dp_mono (s1.trans sB) _ _ hxd) .nil))
      · obtain ⟨ax, xx, rfl, hsx, hax⟩ := dp_tup_inv hxd
        obtain ⟨x0, x1, x2, d0, d1, d2, rfl, e, hx0, hx1, hx2⟩ := dp_three hax rfl
        injection e with e0 e
        injection e with e1 e
        injection e with e2 e
        subst e0 e1 e2
        cases hx0
        have lsi := lay_mem (lay_tup (lm _ msi))
        have nsi := noL_mem (noL_tup (nm _ msi))
        have hsx1 := Same.tup s1 hsx
        rw [stC_while] at fin lenX
        obtain ⟨bok, bl⟩ := body_code_ok (X.length + 1) (lsi bb (by simp)) hb
        unfold whC at fin lenX
        simp only [List.length_cons, List.length_append, List.length_nil] at lenX
        refine ⟨_, rfl, ax, _, _, _, rfl, rfl, hsx1, atI_nat (j := 0) rfl, rfl, _, rfl, strT ?_⟩
        refine ⟨_, rfl, ax, _, _, _, rfl, rfl, hsx1, atI_nat (j := 2) rfl, _, rfl, (by show 1 ≤ sizeLine; decide), fun l2 nl2 => ?_⟩
        have sA : Same H1 (upd H1 l2 (.lst [.non])) := same_new nl2 _
        refine ⟨p, l2, ys, [.non], rfl, rfl, sA _ _ hp1, upd_same, ?_, fun r nr => ?_⟩
        · exact Nat.le_of_lt (Nat.lt_of_le_of_lt (by show ys.length + 1 ≤ 1000; omega : _ ≤ 1000) (by decide))
        have sB := sA.trans (same_new nr (.lst (ys ++ [.non])))
        have nrH := (s1.trans sA).free nr
        have s1B := s1.trans sB
        refine ⟨by omega, x2, r, bb, k, c', ys ++ [.non], X ++ [.none], rfl, by omega, dp_mono s1B _ _ hx2, lsi bb (by simp), nsi bb (by simp), hb, by omega, upd_same, dpAll_append (dpAll_mono sB _ _ hys') (.cons .non .nil), noLAll_snoc nX rfl, by rw [List.length_append]; show X.length + 1 + (bodyC n (X.length + 1) bb).length ≤ 1000; omega, fun H3 p3 zs s3' hp3 e3 hzs' => ?_⟩
        have s13 := s1B.trans s3'
        have np3 : H p3 = none := by
          rcases hp3 with rfl | h
          · exact nrH
          · exact s1B.free h
        have hzs : DpAll K H3 zs (X ++ [.none] ++ bodyC n (X.length + 1) bb) := by
          have e : (X ++ [PyData.none]).length = X.length + 1 := by rw [List.length_append]; rfl
          rw [e] at hzs'
          exact hzs'
        have zl : zs.length = X.length + 1 + (bodyC n (X.length + 1) bb).length := by
          rw [dpAll_len hzs, List.length_append, List.length_append]; rfl
        refine ⟨_, rfl, (by show 2 ≤ sizeLine; decide), fun j nj => ⟨(by show 1 ≤ sizeLine; decide), fun l4 nl4 => ?_⟩⟩
        have sC : Same H3 (upd H3 j (.tup [.str "jump", .int ((ys.length : Nat) : Int)])) := same_new nj _
        have ej : (upd H3 j (.tup [.str "jump", .int ((ys.length : Nat) : Int)])) j = some (.tup [.str "jump", .int ((ys.length : Nat) : Int)]) := upd_same
        generalize upd H3 j (.tup [.str "jump", .int ((ys.length : Nat) : Int)]) = H4 at sC ej nl4 ⊢
        have sD : Same H4 (upd H4 l4 (.lst [.ref j])) := same_new nl4 _
        refine ⟨p3, l4, zs, [.ref j], rfl, rfl, sD _ _ (sC _ _ e3), upd_same, ?_, fun r5 nr5 => ?_⟩
        · exact Nat.le_of_lt (Nat.lt_of_le_of_lt (by show zs.length + 1 ≤ 1000; omega : _ ≤ 1000) (by decide))
        have s14 := s13.trans (sC.trans sD)
        have nr5H := s14.free nr5
        have sE := same_new nr5 (.lst (zs ++ [V.ref j]))
        have e5 : (upd (upd H4 l4 (.lst [.ref j])) r5 (.lst (zs ++ [V.ref j]))) r5 = some (.lst (zs ++ [V.ref j])) := upd_same
        have sDE := sD.trans sE
        generalize upd (upd H4 l4 (.lst [.ref j])) r5 (.lst (zs ++ [V.ref j])) = H5 at sE sDE e5 ⊢
        have s15 := s14.trans sE
        refine ⟨_, rfl, ax, _, _, _, rfl, rfl, Same.tup s15 hsx, atI_nat (j := 1) rfl, _, rfl, r5, _, rfl, .inl (SqL.of e5), (by show 3 ≤ sizeLine; decide), fun t nt => ?_⟩
        have nrt : r5 ≠ t := ne_of_none e5 nt
        have sF := same_new nt (.tup [.str "test", x1, .int (((zs ++ [V.ref j]).length : Nat) : Int)])
        have et : (upd H5 t (.tup [.str "test", x1, .int (((zs ++ [V.ref j]).length : Nat) : Int)])) t = some (.tup [.str "test", x1, .int (((zs ++ [V.ref j]).length : Nat) : Int)]) := upd_same
        generalize upd H5 t (.tup [.str "test", x1, .int (((zs ++ [V.ref j]).length : Nat) : Int)]) = H6 at sF et ⊢
        have e6 := sF _ _ e5
        have s16 := s15.trans sF
        refine ⟨_, rfl, _, rfl, r5, _, _, ys.length, rfl, rfl, e6, ixN_at (by rw [List.length_append]; show _ < zs.length + 1; omega), ?_⟩
        have hz6 : DpAll K H6 (zs ++ [.ref j]) ((X ++ [.none] ++ bodyC n (X.length + 1) bb) ++ [insJ X.length]) := by
          refine dpAll_append (dpAll_mono (sC.trans (sDE.trans sF)) _ _ hzs) (.cons (.tup (SqT.of (sF _ _ (sDE _ _ ej))) (.cons (.str _) (.cons ?_ .nil))) .nil)
          rw [yl]; exact .int _
        have nAll : noLAll ((X ++ [PyData.none] ++ bodyC n (X.length + 1) bb) ++ [insJ X.length]) = true := noLAll_of fun d m => by
          rcases List.mem_append.mp m with m | m
          · rcases List.mem_append.mp m with m | m
            · exact noL_mem (noLAll_snoc nX rfl) d m
            · exact (bok d m).1
          · rw [List.mem_singleton.mp m]; exact noL_jmp
        refine fin _ r5 _ _ (same_upd s16 nr5H _) nr5H upd_same ?_
        exact setD yl hz6 nAll e6 (.tup (SqT.of et) (.cons (.str _) (.cons (dp_mono s16 _ _ hx1) (.cons (int_eq (j := ((X.length + 1 + (bodyC n (X.length + 1) bb).length + 1 : Nat) : Int)) (by rw [List.length_append]; show ((zs.length + 1 : Nat) : Int) = _; omega)) .nil)))) (noL_ins (t := X.length + 1 + (bodyC n (X.length + 1) bb).length + 1) (cond_noL hco)) (by simp [List.append_assoc]) rfl
      · obtain ⟨ax, xx, rfl, hsx, hax⟩ := dp_tup_inv hxd
        obtain ⟨x0, x1, x2, x3, rfl, hx0, hx1, hx2, hx3⟩ := dp_four hax
        cases hx0
        have lsi := lay_mem (lay_tup (lm _ msi))
        have nsi := noL_mem (noL_tup (nm _ msi))
        have hsx1 := Same.tup s1 hsx
        rw [stC_if] at fin lenX
        obtain ⟨bok, bl⟩ := body_code_ok (X.length + 1) (lsi b1 (by simp)) hb1
        have l1000 : X.length + 1 + (bodyC n (X.length + 1) b1).length ≤ 1000 := by
          unfold ifC at lenX
          split at lenX
          · simp only [List.length_cons] at lenX; omega
          · simp only [List.length_cons, List.length_append] at lenX; omega
        refine ⟨_, rfl, ax, _, _, _, rfl, rfl, hsx1, atI_nat (j := 0) rfl, rfl, _, rfl, strF (by decide +kernel) ?_⟩
        refine ⟨_, rfl, ax, _, _, _, rfl, rfl, hsx1, atI_nat (j := 0) rfl, rfl, _, rfl, strT ?_⟩
        refine ⟨_, rfl, ax, _, _, _, rfl, rfl, hsx1, atI_nat (j := 2) rfl, _, rfl, (by show 1 ≤ sizeLine; decide), fun l2 nl2 => ?_⟩
        have sA : Same H1 (upd H1 l2 (.lst [.non])) := same_new nl2 _
        refine ⟨p, l2, ys, [.non], rfl, rfl, sA _ _ hp1, upd_same, ?_, fun r nr => ?_⟩
        · exact Nat.le_of_lt (Nat.lt_of_le_of_lt (by show ys.length + 1 ≤ 1000; omega : _ ≤ 1000) (by decide))
        have sB := sA.trans (same_new nr (.lst (ys ++ [.non])))
        have nrH := (s1.trans sA).free nr
        have s1B := s1.trans sB
        refine ⟨by omega, x2, r, b1, k, c1, ys ++ [.non], X ++ [.none], rfl, by omega, dp_mono s1B _ _ hx2, lsi b1 (by simp), nsi b1 (by simp), hb1, by omega, upd_same, dpAll_append (dpAll_mono sB _ _ hys') (.cons .non .nil), noLAll_snoc nX rfl, by rw [List.length_append]; show X.length + 1 + (bodyC n (X.length + 1) b1).length ≤ 1000; omega, fun H3 p3 zs s3' hp3 e3 hzs' => ?_⟩
        have s13 := s1B.trans s3'
        have np3 : H p3 = none := by
          rcases hp3 with rfl | h
          · exact nrH
          · exact s1B.free h
        have hzs : DpAll K H3 zs (X ++ [.none] ++ bodyC n (X.length + 1) b1) := by
          have e : (X ++ [PyData.none]).length = X.length + 1 := by rw [List.length_append]; rfl
          rw [e] at hzs'
          exact hzs'
        have zl : zs.length = X.length + 1 + (bodyC n (X.length + 1) b1).length := by
          rw [dpAll_len hzs, List.length_append, List.length_append]; rfl
        have nZ : noLAll (X ++ [PyData.none] ++ bodyC n (X.length + 1) b1) = true := noLAll_of fun d m => by
          rcases List.mem_append.mp m with m | m
          · exact noL_mem (noLAll_snoc nX rfl) d m
          · exact (bok d m).1
        obtain ⟨ss2, rfl⟩ := body_tuple hb2
        refine ⟨_, rfl, ax, _, _, _, rfl, rfl, Same.tup s13 hsx, atI_nat (j := 3) rfl, (by show 0 ≤ sizeLine; decide), fun e0 ne0 => ?_⟩
        have sE0 := same_new ne0 (.tup [])
        have ee0 : (upd H3 e0 (.tup [])) e0 = some (.tup []) := upd_same
        generalize upd H3 e0 (.tup []) = H4 at sE0 ee0 ⊢
        have s14 := s13.trans sE0
        have sh2 : SeqAt.shaped (.tuple ss2) = true := by
          show ((PyData.tuple ss2).canLay0 && decide ((PyData.tuple ss2).depth ≤ 64)) = true
          rw [Bool.and_eq_true]
          exact ⟨lsi _ (by simp), decide_eq_true (by have := body_depth hb2; omega)⟩
        refine ⟨.tuple ss2, .tuple [], dp_mono s14 _ _ hx3, .tup (SqT.of ee0) .nil, sh2, by decide +kernel, _, rfl, ?_⟩
        rw [eqv_nil]
        have e34 := sE0 _ _ e3
        cases hnil : isNil (.tuple ss2) with
        | true =>
          have h0 : ss2 = [] := by
            cases ss2 with
            | nil => rfl
            | cons _ _ => cases hnil
          subst h0
          unfold ifC at fin
          rw [if_pos hnil] at fin
          refine iteF ⟨_, rfl, ax, _, _, _, rfl, rfl, Same.tup s14 hsx, atI_nat (j := 1) rfl, _, rfl, p3, zs, rfl, .inl (SqL.of e34), (by show 3 ≤ sizeLine; decide), fun t nt => ?_⟩
          have sF := same_new nt (.tup [.str "test", x1, .int ((zs.length : Nat) : Int)])
          have et : (upd H4 t (.tup [.str "test", x1, .int ((zs.length : Nat) : Int)])) t = some (.tup [.str "test", x1, .int ((zs.length : Nat) : Int)]) := upd_same
          generalize upd H4 t (.tup [.str "test", x1, .int ((zs.length : Nat) : Int)]) = H5 at sF et ⊢
          have e5 := sF _ _ e34
          have s15 := s14.trans sF
          refine ⟨_, rfl, _, rfl, p3, zs, _, ys.length, rfl, rfl, e5, ixN_at (by omega), ?_⟩
          refine fin _ p3 _ _ (same_upd s15 np3 _) np3 upd_same ?_
          exact setD yl (dpAll_mono (sE0.trans sF) _ _ hzs) nZ e5 (.tup (SqT.of et) (.cons (.str _) (.cons (dp_mono s15 _ _ hx1) (.cons (int_eq (j := ((X.length + 1 + (bodyC n (X.length + 1) b1).length : Nat) : Int)) (by omega)) .nil)))) (noL_ins (t := X.length + 1 + (bodyC n (X.length + 1) b1).length) (cond_noL hco)) (by simp [List.append_assoc]) rfl
        | false =>
          unfold ifC at lenX
          rw [if_neg (by rw [hnil]; decide)] at lenX
          simp only [List.length_cons, List.length_append] at lenX
          have Zl : (X ++ [PyData.none] ++ bodyC n (X.length + 1) b1).length = X.length + 1 + (bodyC n (X.length + 1) b1).length := by rw [List.length_append, List.length_append]; rfl
          generalize hI1 : bodyC n (X.length + 1) b1 = I1 at lenX hzs zl nZ bok bl l1000 Zl
          generalize hI2 : bodyC n (X.length + 1 + I1.length + 1) (.tuple ss2) = I2 at lenX
          obtain ⟨bok2, _⟩ := body_code_ok (X.length + 1 + I1.length + 1) (lsi _ (by simp)) hb2
          rw [hI2] at bok2
          have hz4 := dpAll_mono sE0 _ _ hzs
          refine iteT ⟨_, rfl, p3, zs, rfl, .inl (SqL.of e34), ?_⟩
          refine ⟨_, rfl, ax, _, _, _, rfl, rfl, Same.tup s14 hsx, atI_nat (j := 3) rfl, _, rfl, (by show 1 ≤ sizeLine; decide), fun l5 nl5 => ?_⟩
          have sA5 : Same H4 (upd H4 l5 (.lst [.non])) := same_new nl5 _
          refine ⟨p3, l5, zs, [.non], rfl, rfl, sA5 _ _ e34, upd_same, ?_, fun r6 nr6 => ?_⟩
          · exact Nat.le_of_lt (Nat.lt_of_le_of_lt (by show zs.length + 1 ≤ 1000; omega : _ ≤ 1000) (by decide))
          have sB6 := sA5.trans (same_new nr6 (.lst (zs ++ [.non])))
          have nr6H := (s14.trans sA5).free nr6
          have s16 := s14.trans sB6
          refine ⟨by omega, x3, r6, .tuple ss2, k, c2, zs ++ [.non], (X ++ [.none] ++ I1) ++ [.none], rfl, by omega, dp_mono s16 _ _ hx3, lsi _ (by simp), nsi _ (by simp), hb2, by omega, upd_same, dpAll_append (dpAll_mono sB6 _ _ hz4) (.cons .non .nil), noLAll_snoc nZ rfl, ?_, fun H7 p7 ws s7 hp7 e7 hws' => ?_⟩
          · rw [List.length_append, Zl]
            show X.length + 1 + I1.length + 1 + (bodyC n (X.length + 1 + I1.length + 1) (.tuple ss2)).length ≤ 1000
            rw [hI2]
            omega
          have s17 := s16.trans s7
          have np7 : H p7 = none := by
            rcases hp7 with rfl | h
            · exact nr6H
            · exact s16.free h
          have hws : DpAll K H7 ws (((X ++ [.none] ++ I1) ++ [.none]) ++ I2) := by
            have e : ((X ++ [PyData.none] ++ I1) ++ [PyData.none]).length = X.length + 1 + I1.length + 1 := by rw [List.length_append, Zl]; rfl
            rw [e] at hws'
            have hws'' : DpAll K H7 ws (((X ++ [.none] ++ I1) ++ [.none]) ++ bodyC n (X.length + 1 + I1.length + 1) (.tuple ss2)) := hws'
            rw [hI2] at hws''
            exact hws''
          have wl : ws.length = X.length + 1 + I1.length + 1 + I2.length := by
            rw [dpAll_len hws, List.length_append, List.length_append, Zl]; rfl
          have nW : noLAll (((X ++ [PyData.none] ++ I1) ++ [PyData.none]) ++ I2) = true := noLAll_of fun d m => by
            rcases List.mem_append.mp m with m | m
            · exact noL_mem (noLAll_snoc nZ rfl) d m
            · exact (bok2 d m).1
          refine ⟨_, rfl, p7, ws, rfl, .inl (SqL.of e7), (by show 2 ≤ sizeLine; decide), fun j nj => ?_⟩
          have sJ := same_new nj (.tup [.str "jump", .int ((ws.length : Nat) : Int)])
          have ej : (upd H7 j (.tup [.str "jump", .int ((ws.length : Nat) : Int)])) j = some (.tup [.str "jump", .int ((ws.length : Nat) : Int)]) := upd_same
          generalize upd H7 j (.tup [.str "jump", .int ((ws.length : Nat) : Int)]) = H8 at sJ ej ⊢
          have e8 := sJ _ _ e7
          have s18 := s17.trans sJ
          refine ⟨_, rfl, _, rfl, p7, ws, _, zs.length, rfl, rfl, e8, ixN_at (by omega), ?_⟩
          have h9 : DpAll K (upd H8 p7 (.lst (ws.set zs.length (.ref j)))) (ws.set zs.length (.ref j)) ((X ++ [.none] ++ I1) ++ insJ (X.length + 1 + I1.length + 1 + I2.length) :: I2) :=
            setD (X := X ++ [.none] ++ I1) (Y := I2) (by rw [zl, Zl]) (dpAll_mono sJ _ _ hws) nW e8 (.tup (SqT.of ej) (.cons (.str _) (.cons (int_eq (j := ((X.length + 1 + I1.length + 1 + I2.length : Nat) : Int)) (by omega)) .nil))) noL_jmp (by simp [List.append_assoc]) rfl
          have s19 : Same H (upd H8 p7 (.lst (ws.set zs.length (.ref j)))) := same_upd s18 np7 _
          have e9 : (upd H8 p7 (.lst (ws.set zs.length (.ref j)))) p7 = some (.lst (ws.set zs.length (.ref j))) := upd_same
          have wl9 : (ws.set zs.length (V.ref j)).length = ws.length := List.length_set
          generalize upd H8 p7 (.lst (ws.set zs.length (.ref j))) = H9 at h9 s19 e9 ⊢
          generalize ws.set zs.length (V.ref j) = ws2 at h9 e9 wl9 ⊢
          refine ⟨_, rfl, ax, _, _, _, rfl, rfl, Same.tup s19 hsx, atI_nat (j := 1) rfl, _, rfl, _, _, rfl, rfl, (by show 3 ≤ sizeLine; decide), fun t nt => ?_⟩
          have sT := same_new nt (.tup [.str "test", x1, .int ((zs.length : Nat) + 1)])
          have et : (upd H9 t (.tup [.str "test", x1, .int ((zs.length : Nat) + 1)])) t = some (.tup [.str "test", x1, .int ((zs.length : Nat) + 1)]) := upd_same
          generalize upd H9 t (.tup [.str "test", x1, .int ((zs.length : Nat) + 1)]) = H10 at sT et ⊢
          have e10 := sT _ _ e9
          have s20 := s19.trans sT
          refine ⟨_, rfl, _, rfl, p7, ws2, _, ys.length, rfl, rfl, e10, ixN_at (by omega), ?_⟩
          refine fin _ p7 _ _ (same_upd s20 np7 _) np7 upd_same ?_
          unfold ifC
          rw [if_neg (by rw [hnil]; decide), hI1, hI2]
          have nW2 : noLAll ((X ++ [PyData.none] ++ I1) ++ insJ (X.length + 1 + I1.length + 1 + I2.length) :: I2) = true := noLAll_of fun d m => by
            rcases List.mem_append.mp m with m | m
            · exact noL_mem nZ d m
            · rcases List.mem_cons.mp m with rfl | m
              · exact noL_jmp
              · exact (bok2 d m).1
          exact setD yl (dpAll_mono sT _ _ h9) nW2 e10 (.tup (SqT.of et) (.cons (.str _) (.cons (dp_mono s20 _ _ hx1) (.cons (int_eq (j := ((X.length + 1 + I1.length + 1 : Nat) : Int)) (by omega)) .nil)))) (noL_ins (t := X.length + 1 + I1.length + 1) (cond_noL hco)) (by simp [List.append_assoc]) rfl
  · rintro σ H1 ⟨p, ys, s2, s3, s4, rfl, s1, hpl, hp1, hys⟩
    rw [hxl, List.take_length] at hys
    exact ⟨_, rfl, q _ _ _ s1 hpl hp1 hys⟩
theorem none_LC {f : Addr} {fd : FuncData} (lv : Nat) : FnOk P w K mg base CX0 lv f fd ["_law_body_here", "_law_code_here"] (fun vs H Q E => 0 ≠ 0 ∧ spLC K (0 - 1) vs H Q E) :=
  ⟨fun vs H Q E h => absurd rfl h.1, fun A outer s H args us vs Q E _ _ _ _ h => absurd rfl h.1⟩
theorem recLC {f : Addr} {fd : FuncData} (F : Fun K "_law_code" "_law_code" sLC f fd) (bF : Binds K fd ["_law_body_here", "_law_code_here"] []) (mF : mg "_law_code" = some (.ref f)) (T : Gs K mg) :
    ∀ n : Nat, FnOk P w K mg base CX0 (2 + n) f fd ["_law_body_here", "_law_code_here"] (spLC K n)
  | 0 => ok_LC (lv := 1) F T ⟨f, fd, none_LC 1, bF, F.kp, mF⟩
  | n + 1 => by
    have ih := recLC F bF mF T n
    have c2 : FnOk P w K mg base CX0 (2 + n) f fd ["_law_body_here", "_law_code_here"] (fun vs H Q E => n + 1 ≠ 0 ∧ spLC K (n + 1 - 1) vs H Q E) :=
      ⟨fun vs H Q E h => ih.len vs H Q E h.2, fun A outer s H args us vs Q E h1 h2 h3 h4 h => ih.run A outer s H args us vs Q E h1 h2 h3 h4 h.2⟩
    exact ok_LC (lv := 2 + n) (n := n + 1) F T ⟨f, fd, c2, bF, F.kp, mF⟩
end
abbrev sAsm : Stmt := top 29
abbrev sLaw : Stmt := top 65
theorem roles_test (k : Str) : rolesZ "test" k = none := by
  unfold rolesZ
  rw [if_neg (by decide +kernel), if_neg (by decide +kernel), if_neg (by decide +kernel)]
  split
  · rw [if_neg (by decide +kernel), if_neg (by decide +kernel)]
  · rw [if_neg (by decide +kernel), if_neg (by decide +kernel)]
theorem roles_jump (k : Str) : rolesZ "jump" k = none := by
  unfold rolesZ
  rw [if_neg (by decide +kernel), if_neg (by decide +kernel), if_neg (by decide +kernel)]
  split
  · rw [if_neg (by decide +kernel), if_neg (by decide +kernel)]
  · rw [if_neg (by decide +kernel), if_neg (by decide +kernel)]
def spRight7 (K : PySem.W.Frag) : Sp := fun vs H Q _ => ∃ (p r : Addr) (xs ys : List V) (ds : List PyData), vs = [.ref p, .ref r] ∧ H p = some (.lst xs) ∧ H r = some (.lst ys) ∧ DpAll K H xs ds ∧ DpAll K H ys ds ∧ (∀ i ∈ ds, okI i) ∧ ∀ H', Same H H' → Q (.bl true) H'
def spAsm (K : PySem.W.Frag) : Sp := fun vs H Q _ => ∃ (v : V) (k : Str) (d : PyData), vs = [v] ∧ Dp K H v (.tuple [.str k, d]) ∧ Lay (.tuple [.str k, d]) ∧ noL d = true ∧ isProg (.tuple [.str k, d]) = true ∧
  ∀ H' p xs, Same H H' → H p = none → H' p = some (.lst xs) → DpAll K H' xs (bodyC 4 0 d) → Q (.ref p) H'
theorem shaped_code {ds : List PyData} (h : ∀ i ∈ ds, okI i) : SeqAt.shaped (.list ds) = true := by
  show ((PyData.list ds).canLay0 && decide ((PyData.list ds).depth ≤ 64)) = true
  rw [Bool.and_eq_true]
  refine ⟨?_, decide_eq_true ?_⟩
  · simp only [PyData.canLay0]; exact lay_all fun d m => (h d m).2.1
  · have := depth_all (n := 2) fun d m => (h d m).2.2.1
    simp only [PyData.depth]
    omega
section
variable {P : Program} {w : World} {K : PySem.W.Frag} {mg : Str → Option Value} {base : Heap}
theorem scAsm : FnScope ["program"] ["program"] (defScope sAsm) := ⟨rfl, rfl, rfl, by decide +kernel, rfl, by decide +kernel, by decide +kernel⟩
theorem ok_asm {f : Addr} {fd : FuncData} (F : Fun K "assemble" "assemble" sAsm f fd) (CP : Cal P w K mg base 7 "is_program" ["thing"] (spProg K)) (CB : Cal P w K mg base 14 "body_code" ["body", "start"] (spBC K 4)) : FnOk P w K mg base CX0 15 f fd ["program"] (spAsm K) := by
  refine F.ok scAsm (fun vs H Q E h => ?_) (fun cdv A outer s H vs Q E hr h => ?_)
  · obtain ⟨v, k, d, rfl, _⟩ := h
    rfl
  obtain ⟨v, k, d, rfl, hd, ld, nd, hp, q⟩ := h
  have hr6 : Room 7 _ := hr.mono (by decide)
  refine ⟨_, pss_cons (ps_if (pt_not (pt_val (pe_call CP.G hr6 rfl CP.m CP.kp CP.b .nil pass0 (pa_cons (pv 0) pa_nil)))) (pss_one ps_never) pss_nil)
    (pss_one (ps_ret (pe_call CB.G hr rfl CB.m CB.kp CB.b .nil pass0 (pa_cons (pe_ix ix_tup (pv 0) pe_int (fun _ _ => rfl)) (pa_cons pe_int pa_nil))))), ?_⟩
  refine ⟨_, rfl, v, _, rfl, hd, ld, fun H1 s1 => ⟨_, rfl, ?_⟩⟩
  rw [hp]
  obtain ⟨a, xs, rfl, hs, ha⟩ := dp_tup_inv hd
  obtain ⟨x0, x1, d0, d1, rfl, e, hx0, hx1⟩ := dp_two ha rfl
  injection e with e0 e
  injection e with e1 e
  subst e0 e1
  have h' : (inS (.str k) kinds && okN 0 (bodyN k 4 d)) = true := hp
  rw [Bool.and_eq_true] at h'
  cases hb : bodyN k 4 d with
  | none => rw [hb] at h'; cases h'.2
  | some c =>
    rw [hb] at h'
    have hc : 0 + c ≤ 24 := of_decide_eq_true h'.2
    refine iteF ⟨_, rfl, a, _, _, _, rfl, rfl, Same.tup s1 hs, atI_nat (j := 1) rfl, x1, d, k, c, 0, rfl, dp_mono s1 _ _ hx1, lay_mem (lay_tup ld) _ (by simp), nd, hb, by omega, fun H2 p ys s2 np e2 hys => ?_⟩
    exact q _ p _ (s1.trans s2) (s1.free np) e2 hys
end
/-- an instruction -/
inductive Ins where
  | set (v : Str) (n : Int)
  | add (v : Str) (t : PyData)
  | wait (n : Int)
  | ask (g : Str) (t : PyData) (v : Str)
  | ans (n : Int)
  | grow (t : PyData)
  | lst (t : PyData)
  | test (c : PyData) (t : Nat)
  | jump (t : Nat)
def Ins.toD : Ins → PyData
  | .set v n => .tuple [.str "set", .str v, .int n]
  | .add v t => .tuple [.str "add", .str v, t]
  | .wait n => .tuple [.str "wait", .int n]
  | .ask g t v => .tuple [.str "ask", .str g, t, .str v]
  | .ans n => .tuple [.str "answer", .int n]
  | .grow t => .tuple [.str "grow", t]
  | .lst t => .tuple [.str "list", t]
  | .test c t => insT c t
  | .jump t => insJ t
def okV (v : Str) : Prop := v = "a" ∨ v = "b"
def Ins.ok (k : Str) : Ins → Prop
  | .set v n => okV v ∧ 0 ≤ n ∧ n ≤ 15
  | .add v t => okV v ∧ isTerm t = true
  | .wait n => 1 ≤ n ∧ n ≤ longest
  | .ask g t v => k = "teller" ∧ (g = "+" ∨ g = "-" ∨ g = "=") ∧ isTerm t = true ∧ okV v
  | .ans n => k = "teller" ∧ (n = 0 ∨ n = 1)
  | .grow t => ¬ k = "teller" ∧ isTerm t = true
  | .lst t => ¬ k = "teller" ∧ isTerm t = true
  | .test c _ => isCond c = true
  | .jump _ => True
theorem inS_var {d : PyData} (h : inS d vars = true) : ∃ v, d = .str v ∧ okV v := by
  cases d with
  | str z =>
    have h' : (vars : List Str).any (· == z) = true := h
    simp only [vars, List.any_cons, List.any_nil, Bool.or_false, Bool.or_eq_true, beq_iff_eq] at h'
    exact ⟨z, rfl, h'.elim (fun e => .inl e.symm) (fun e => .inr e.symm)⟩
  | _ => cases h
theorem inS_ask {d : PyData} (h : inS d asks = true) : ∃ g, d = .str g ∧ (g = "+" ∨ g = "-" ∨ g = "=") := by
  cases d with
  | str z =>
    have h' : (asks : List Str).any (· == z) = true := h
    simp only [asks, List.any_cons, List.any_nil, Bool.or_false, Bool.or_eq_true, beq_iff_eq] at h'
    exact ⟨z, rfl, h'.elim (fun e => .inl e.symm) (fun h => .inr (h.elim (fun e => .inl e.symm) (fun e => .inr e.symm)))⟩
  | _ => cases h
theorem inS_sign {d : PyData} (h : inS d signs = true) : ∃ g, d = .str g ∧ (g = "==" ∨ g = "!=" ∨ g = "<") := by
  cases d with
  | str z =>
    have h' : (signs : List Str).any (· == z) = true := h
    simp only [signs, List.any_cons, List.any_nil, Bool.or_false, Bool.or_eq_true, beq_iff_eq] at h'
    exact ⟨z, rfl, h'.elim (fun e => .inl e.symm) (fun h => .inr (h.elim (fun e => .inl e.symm) (fun e => .inr e.symm)))⟩
  | _ => cases h
theorem intIn_cases {d : PyData} {lo hi : Int} (h : intIn d lo hi = true) : ∃ i, d = .int i ∧ lo ≤ i ∧ i ≤ hi := by
  cases d with
  | int i =>
    have h' : (decide (lo ≤ i) && decide (i ≤ hi)) = true := h
    rw [Bool.and_eq_true, decide_eq_true_iff, decide_eq_true_iff] at h'
    exact ⟨i, rfl, h'.1, h'.2⟩
  | _ => cases h
theorem term_cases {d : PyData} (h : isTerm d = true) : (∃ v, d = .str v ∧ okV v) ∨ ∃ i, d = .int i ∧ 0 ≤ i ∧ i ≤ 15 := by
  have h' : (inS d vars || intIn d 0 15) = true := h
  rcases Bool.or_eq_true _ _ ▸ h' with h | h
  · exact .inl (inS_var h)
  · exact .inr (intIn_cases h)
theorem cond_cases {c : PyData} (h : isCond c = true) : ∃ v g t, c = .tuple [.str v, .str g, t] ∧ okV v ∧ (g = "==" ∨ g = "!=" ∨ g = "<") ∧ isTerm t = true := by
  match c, h with
  | .tuple [x, y, z], h =>
    have h' : (inS x vars && inS y signs && isTerm z) = true := h
    rw [Bool.and_eq_true, Bool.and_eq_true] at h'
    obtain ⟨v, rfl, hv⟩ := inS_var h'.1.1
    obtain ⟨g, rfl, hg⟩ := inS_sign h'.1.2
    exact ⟨v, g, z, rfl, hv, hg, h'.2⟩
theorem plain_ins {s : PyData} {k : Str} (h : isPlain s k = true) : ∃ i : Ins, s = i.toD ∧ i.ok k := by
  obtain ⟨z, ps, rs, rfl, hz, hl, hp⟩ := plain_inv h
  unfold rolesZ at hz
  split at hz
  · subst_vars
    cases hz
    match ps, hl, hp with
    | [x, y], _, hp =>
      have h' : isPart x "variable" = true ∧ isPart y "value" = true := by simpa [allParts] using hp
      rw [part_variable, part_value] at h'
      obtain ⟨v, rfl, hv⟩ := inS_var h'.1
      obtain ⟨n, rfl, hn⟩ := intIn_cases h'.2
      exact ⟨.set v n, rfl, hv, hn⟩
  split at hz
  · subst_vars
    cases hz
    match ps, hl, hp with
    | [x, y], _, hp =>
      have h' : isPart x "variable" = true ∧ isPart y "term" = true := by simpa [allParts] using hp
      rw [part_variable, part_term] at h'
      obtain ⟨v, rfl, hv⟩ := inS_var h'.1
      exact ⟨.add v y, rfl, hv, h'.2⟩
  split at hz
  · subst_vars
    cases hz
    match ps, hl, hp with
    | [x], _, hp =>
      have h' : isPart x "steps" = true := by simpa [allParts] using hp
      rw [part_steps] at h'
      obtain ⟨n, rfl, hn⟩ := intIn_cases h'
      exact ⟨.wait n, rfl, hn⟩
  split at hz
  · rename_i hk
    split at hz
    · subst_vars
      cases hz
      match ps, hl, hp with
      | [x, y, v], _, hp =>
        have h' : isPart x "sign" = true ∧ isPart y "term" = true ∧ isPart v "variable" = true := by simpa [allParts] using hp
        rw [part_sign, part_term, part_variable] at h'
        obtain ⟨g, rfl, hg⟩ := inS_ask h'.1
        obtain ⟨z, rfl, hv⟩ := inS_var h'.2.2
        exact ⟨.ask g y z, rfl, rfl, hg, h'.2.1, hv⟩
    · split at hz
      · subst_vars
        cases hz
        match ps, hl, hp with
        | [x], _, hp =>
          have h' : isPart x "answer" = true := by simpa [allParts] using hp
          rw [part_answer] at h'
          obtain ⟨n, rfl, hn⟩ := intIn_cases h'
          exact ⟨.ans n, rfl, rfl, by omega⟩
      · cases hz
  · rename_i hk
    split at hz
    · subst_vars
      cases hz
      match ps, hl, hp with
      | [x], _, hp =>
        have h' : isPart x "term" = true := by simpa [allParts] using hp
        rw [part_term] at h'
        exact ⟨.grow x, rfl, hk, h'⟩
    · split at hz
      · subst_vars
        cases hz
        match ps, hl, hp with
        | [x], _, hp =>
          have h' : isPart x "term" = true := by simpa [allParts] using hp
          rw [part_term] at h'
          exact ⟨.lst x, rfl, hk, h'⟩
      · cases hz
/-- the instructions of a program, read as such -/
theorem code_ins {k : Str} : ∀ {n c : Nat} {d : PyData} (st0 : Nat), bodyN k n d = some c → ∃ is : List Ins, bodyC n st0 d = is.map Ins.toD ∧ ∀ i ∈ is, i.ok k
  | 0, c, d, st0, h => ⟨[], rfl, fun i m => nomatch m⟩
  | n + 1, c, d, st0, h => by
    obtain ⟨ss, rfl⟩ := body_tuple h
    rw [bodyN_tup] at h
    show ∃ is : List Ins, codeL (stC (bodyC n)) st0 ss = is.map Ins.toD ∧ ∀ i ∈ is, i.ok k
    induction ss generalizing st0 c with
    | nil => exact ⟨[], rfl, fun i m => nomatch m⟩
    | cons s r ih =>
      obtain ⟨a, b, e1, e2, _, _⟩ := addO_le (show addO (stN k n s) (sumO (r.map (stN k n))) = some c from h)
      have one : ∃ is : List Ins, stC (bodyC n) st0 s = is.map Ins.toD ∧ ∀ i ∈ is, i.ok k := by
        rcases st_shape e1 with ⟨z, ps, rfl, h1, h2, hp, rfl⟩ | ⟨co, bb, c', rfl, hco, hb, rfl⟩ | ⟨co, b1, b2, c1, c2, rfl, hco, hb1, hb2, rfl⟩
        · rw [stC_plain h1 h2]
          obtain ⟨i, e, hi⟩ := plain_ins hp
          exact ⟨[i], by rw [e]; rfl, fun j m => by rw [List.mem_singleton.mp m]; exact hi⟩
        · rw [stC_while]
          unfold whC
          obtain ⟨is, e, hi⟩ := code_ins (st0 + 1) hb
          refine ⟨.test co (st0 + 1 + (bodyC n (st0 + 1) bb).length + 1) :: (is ++ [.jump st0]), ?_, fun j m => ?_⟩
          · rw [e]
            simp [Ins.toD]
          · simp only [List.mem_cons, List.mem_append, List.not_mem_nil, or_false] at m
            rcases m with rfl | m | rfl
            · exact hco
            · exact hi j m
            · trivial
        · rw [stC_if]
          unfold ifC
          obtain ⟨is, e, hi⟩ := code_ins (st0 + 1) hb1
          split
          · refine ⟨.test co (st0 + 1 + (bodyC n (st0 + 1) b1).length) :: is, ?_, fun j m => ?_⟩
            · rw [e]
              simp [Ins.toD]
            · rcases List.mem_cons.mp m with rfl | m
              · exact hco
              · exact hi j m
          · obtain ⟨js, e', hj⟩ := code_ins (st0 + 1 + (bodyC n (st0 + 1) b1).length + 1) hb2
            refine ⟨.test co (st0 + 1 + (bodyC n (st0 + 1) b1).length + 1) :: (is ++ .jump (st0 + 1 + (bodyC n (st0 + 1) b1).length + 1 + (bodyC n (st0 + 1 + (bodyC n (st0 + 1) b1).length + 1) b2).length) :: js), ?_, fun j m => ?_⟩
            · rw [e', e]
              simp [Ins.toD]
            · simp only [List.mem_cons, List.mem_append] at m
              rcases m with rfl | m | rfl | m
              · exact hco
              · exact hi j m
              · trivial
              · exact hj j m
      obtain ⟨is, e, hi⟩ := one
      obtain ⟨js, e', hj⟩ := ih (st0 := st0 + (stC (bodyC n) st0 s).length) (c := b) e2
      refine ⟨is ++ js, ?_, fun j m => ?_⟩
      · simp only [codeL]
        rw [e', e, List.map_append]
      · rcases List.mem_append.mp m with m | m
        · exact hi j m
        · exact hj j m
/-! ### what an instruction does -/
def vget (a b : Int) (v : Str) : Int := if v = "a" then a else b
def tval (a b : Int) : PyData → Int
  | .str z => vget a b z
  | .int i => i
  | _ => 0
def cval (a b : Int) : PyData → Bool
  | .tuple [.str v, .str g, t] => if g = "==" then decide (vget a b v = tval a b t) else if g = "!=" then !decide (vget a b v = tval a b t) else decide (vget a b v < tval a b t)
  | _ => false
def Ins.cost : Ins → Int
  | .wait n => n
  | _ => 1
def Ins.next (pc : Nat) (a b : Int) : Ins → Nat
  | .jump t => t
  | .test c t => if cval a b c = true then pc + 1 else t
  | _ => pc + 1
def vput (v : Str) (n : Int) (p : Int × Int) : Int × Int := if v = "a" then (n, p.2) else (p.1, n)
def Ins.held (a b : Int) : Ins → Int × Int
  | .set v n => vput v n (a, b)
  | .add v t => vput v ((vget a b v + tval a b t) % 16) (a, b)
  | _ => (a, b)
def Ins.grown (a b : Int) : Ins → Int
  | .grow t => tval a b t
  | _ => 0
def place (x a b : Int) (g : Str) (t : PyData) : Int := if g = "+" then x + tval a b t else if g = "-" then x - tval a b t else tval a b t
def in16 (a b : Int) : Prop := (0 ≤ a ∧ a ≤ 15) ∧ 0 ≤ b ∧ b ≤ 15
theorem vput16 {v : Str} {n a b : Int} (h : in16 a b) (h0 : 0 ≤ n) (h1 : n ≤ 15) : in16 (vput v n (a, b)).1 (vput v n (a, b)).2 := by
  unfold vput
  split
  · exact ⟨⟨h0, h1⟩, h.2⟩
  · exact ⟨h.1, h0, h1⟩
theorem held16 {k : Str} {i : Ins} {a b : Int} (hi : i.ok k) (h : in16 a b) : in16 (i.held a b).1 (i.held a b).2 := by
  cases i with
  | set v n => exact vput16 h hi.2.1 hi.2.2
  | add v t => exact vput16 h (Int.emod_nonneg _ (by decide)) (by have := Int.emod_lt_of_pos (vget a b v + tval a b t) (by decide : (0 : Int) < 16); omega)
  | _ => exact h
theorem vget16 {a b : Int} (h : in16 a b) (v : Str) : 0 ≤ vget a b v ∧ vget a b v ≤ 15 := by
  unfold vget
  split
  · exact h.1
  · exact h.2
theorem tval16 {a b : Int} (h : in16 a b) {t : PyData} (ht : isTerm t = true) : 0 ≤ tval a b t ∧ tval a b t ≤ 15 := by
  rcases term_cases ht with ⟨v, rfl, _⟩ | ⟨i, rfl, h0, h1⟩
  · exact vget16 h v
  · exact ⟨h0, h1⟩
theorem cost_pos {k : Str} {i : Ins} (h : i.ok k) : 1 ≤ i.cost ∧ i.cost ≤ longest := by
  cases i with
  | wait n => exact h
  | _ => exact ⟨Int.le_refl _, by show (1 : Int) ≤ longest; decide⟩
abbrev sCost : Stmt := top 35
abbrev sWorth : Stmt := inClass (top 36) 3
abbrev sTrue : Stmt := inClass (top 36) 4
abbrev sFol : Stmt := inClass (top 36) 6
def Ins.word : Ins → Str
  | .set _ _ => "set"
  | .add _ _ => "add"
  | .wait _ => "wait"
  | .ask _ _ _ => "ask"
  | .ans _ => "answer"
  | .grow _ => "grow"
  | .lst _ => "list"
  | .test _ _ => "test"
  | .jump _ => "jump"
def Ins.parts : Ins → List PyData
  | .set v n => [.str v, .int n]
  | .add v t => [.str v, t]
  | .wait n => [.int n]
  | .ask g t v => [.str g, t, .str v]
  | .ans n => [.int n]
  | .grow t => [t]
  | .lst t => [t]
  | .test c t => [c, .int (t : Nat)]
  | .jump t => [.int (t : Nat)]
theorem toD_eq (i : Ins) : i.toD = .tuple (.str i.word :: i.parts) := by cases i <;> rfl
theorem ins_inv {K : PySem.W.Frag} {H : Hp} {v : V} {i : Ins} (h : Dp K H v i.toD) : ∃ p xr, v = .ref p ∧ SqT K H p (.str i.word :: xr) ∧ DpAll K H xr i.parts := by
  rw [toD_eq] at h
  obtain ⟨p, xs, rfl, hs, ha⟩ := dp_tup_inv h
  cases ha with
  | cons h0 t =>
    cases h0
    exact ⟨p, _, rfl, hs, t⟩
theorem dp_solo {K : PySem.W.Frag} {H : Hp} {xs : List V} {d : PyData} (h : DpAll K H xs [d]) : ∃ x, xs = [x] ∧ Dp K H x d := by
  cases h with
  | cons h0 t => cases t; exact ⟨_, rfl, h0⟩
theorem dp_pair {K : PySem.W.Frag} {H : Hp} {xs : List V} {d e : PyData} (h : DpAll K H xs [d, e]) : ∃ x y, xs = [x, y] ∧ Dp K H x d ∧ Dp K H y e := by
  cases h with
  | cons h0 t =>
    obtain ⟨y, rfl, h1⟩ := dp_solo t
    exact ⟨_, _, rfl, h0, h1⟩
theorem dp_trip {K : PySem.W.Frag} {H : Hp} {xs : List V} {d e f : PyData} (h : DpAll K H xs [d, e, f]) : ∃ x y z, xs = [x, y, z] ∧ Dp K H x d ∧ Dp K H y e ∧ Dp K H z f := by
  cases h with
  | cons h0 t =>
    obtain ⟨y, z, rfl, h1, h2⟩ := dp_pair t
    exact ⟨_, _, _, rfl, h0, h1, h2⟩
/-! ### the object of a walk -/
def wf (cd hd sn : Addr) (pc : Nat) (ct t : Int) (ex : List (Str × V)) : List (Str × V) := ("code", .ref cd) :: ("at", .int pc) :: ("held", .ref hd) :: ("counter", .int ct) :: ("taken", .int t) :: ("seen", .ref sn) :: ex
def hv (a b : Int) : List (Key × V) := [(Sum.inr "a", .int a), (Sum.inr "b", .int b)]
theorem hv_get {v : Str} (h : okV v) (a b : Int) : valV (hv a b) (Sum.inr v : Key) = some (V.int (vget a b v)) := by
  rcases h with rfl | rfl
  · rfl
  · rfl
theorem hv_put {v : Str} (h : okV v) (a b n : Int) : putK (hv a b) (Sum.inr v : Key) (V.int n) = hv (vput v n (a, b)).1 (vput v n (a, b)).2 := by
  rcases h with rfl | rfl
  · rfl
  · rfl
/-- what the top has written of a class of walks -/
structure WC (K : PySem.W.Frag) (C : Addr) : Prop where
  cl : Cls K C
  nCode : NoAttr K C "code"
  nAt : NoAttr K C "at"
  nHeld : NoAttr K C "held"
  nCnt : NoAttr K C "counter"
  nTak : NoAttr K C "taken"
  nSeen : NoAttr K C "seen"
/-- a method of a class -/
structure MCal (P : Program) (w : World) (K : PySem.W.Frag) (mg : Str → Option Value) (base : Heap) (k : Nat) (C : Addr) (x : Str) (ps : List Str) (sp : Sp) where
  f : Addr
  fd : FuncData
  G : FnOk P w K mg base CX0 k f fd ps sp
  b : Binds K fd ps []
  m : Meth K C x f
/-- no further attribute of the object hides a method -/
def noM (ex : List (Str × V)) : Prop := ex.lookup ("worth" : Str) = none ∧ ex.lookup ("is_true" : Str) = none ∧ ex.lookup ("follower" : Str) = none ∧ ex.lookup ("earlier" : Str) = none ∧ ex.lookup ("upcoming" : Str) = none ∧ ex.lookup ("take" : Str) = none ∧ ex.length ≤ 10
/-- a walk stands at wk -/
structure WkA (K : PySem.W.Frag) (H : Hp) (C wk dx cd hd sn : Addr) (pc : Nat) (a b ct t : Int) (ex : List (Str × V)) : Prop where
  ob : H wk = some (.ins C dx (wf cd hd sn pc ct t ex))
  hl : H hd = some (.dK (hv a b))
def spWorth (K : PySem.W.Frag) (C : Addr) : Sp := fun vs H Q _ => ∃ (wk dx cd hd sn : Addr) (pc : Nat) (a b ct t : Int) (ex : List (Str × V)) (v : V) (d : PyData), vs = [.ref wk, v] ∧ WkA K H C wk dx cd hd sn pc a b ct t ex ∧ Dp K H v d ∧ isTerm d = true ∧ Q (.int (tval a b d)) H
def spTrue (K : PySem.W.Frag) (C : Addr) : Sp := fun vs H Q _ => ∃ (wk dx cd hd sn : Addr) (pc : Nat) (a b ct t : Int) (ex : List (Str × V)) (v : V) (d : PyData), vs = [.ref wk, v] ∧ WkA K H C wk dx cd hd sn pc a b ct t ex ∧ noM ex ∧ Dp K H v d ∧ isCond d = true ∧ Q (.bl (cval a b d)) H
def spFol (K : PySem.W.Frag) (C : Addr) : Sp := fun vs H Q _ => ∃ (wk dx cd hd sn : Addr) (pc : Nat) (a b ct t : Int) (ex : List (Str × V)) (v : V) (i : Ins) (k : Str), vs = [.ref wk, v] ∧ WkA K H C wk dx cd hd sn pc a b ct t ex ∧ noM ex ∧ Dp K H v i.toD ∧ i.ok k ∧ Q (.int (i.next pc a b : Nat)) H
def spCost (K : PySem.W.Frag) : Sp := fun vs H Q _ => ∃ (v : V) (i : Ins), vs = [v] ∧ Dp K H v i.toD ∧ Q (.int i.cost) H
section
variable {P : Program} {w : World} {K : PySem.W.Frag} {mg : Str → Option Value} {base : Heap}
theorem scCost : FnScope ["instruction"] ["instruction"] (defScope sCost) := ⟨rfl, rfl, rfl, by decide +kernel, rfl, by decide +kernel, by decide +kernel⟩
theorem ok_cost {f : Addr} {fd : FuncData} (F : Fun K "cost" "cost" sCost f fd) : FnOk P w K mg base CX0 1 f fd ["instruction"] (spCost K) := by
  refine F.ok scCost (fun vs H Q E h => ?_) (fun cdv A outer s H vs Q E hr h => ?_)
  · obtain ⟨v, i, rfl, _⟩ := h
    rfl
  obtain ⟨v, i, rfl, hd, q⟩ := h
  refine ⟨_, pss_one (ps_ret (pe_ifExp (pt_cmpR op_eq (pe_ix ix_tup (pv 0) pe_int (fun _ _ => rfl)) pe_str (nomark _)) (pe_ix ix_tup (pv 0) pe_int (fun _ _ => rfl)) pe_int)), ?_⟩
  obtain ⟨p, xr, rfl, hs, ha⟩ := ins_inv hd
  refine ⟨_, rfl, p, _, _, _, rfl, rfl, hs, atI_nat (j := 0) rfl, rfl, _, rfl, ?_⟩
  cases i with
  | wait n =>
    obtain ⟨x, rfl, hx⟩ := dp_solo ha
    cases hx
    exact strT ⟨_, rfl, p, _, _, _, rfl, rfl, hs, atI_nat (j := 1) rfl, q⟩
  | set v n => exact strF (by simp only [Ins.word]; decide +kernel) q
  | add v n => exact strF (by simp only [Ins.word]; decide +kernel) q
  | ask g t v => exact strF (by simp only [Ins.word]; decide +kernel) q
  | ans n => exact strF (by simp only [Ins.word]; decide +kernel) q
  | grow n => exact strF (by simp only [Ins.word]; decide +kernel) q
  | lst n => exact strF (by simp only [Ins.word]; decide +kernel) q
  | test n t => exact strF (by simp only [Ins.word]; decide +kernel) q
  | jump n => exact strF (by simp only [Ins.word]; decide +kernel) q
theorem scWorth : FnScope ["self", "term"] ["self", "term"] (defScope sWorth) := ⟨rfl, rfl, rfl, by decide +kernel, rfl, by decide +kernel, by decide +kernel⟩
theorem ok_worth {f C : Addr} {fd : FuncData} (F : Fun K "worth" "Walk.worth" sWorth f fd) (T : Gs K mg) (W : WC K C) : FnOk P w K mg base CX0 1 f fd ["self", "term"] (spWorth K C) := by
  refine F.ok scWorth (fun vs H Q E h => ?_) (fun cdv A outer s H vs Q E hr h => ?_)
  · obtain ⟨wk, dx, cd, hd, sn, pc, a, b, ct, t, ex, v, d, rfl, _⟩ := h
    rfl
  obtain ⟨wk, dx, cd, hd, sn, pc, a, b, ct, t, ex, v, d, rfl, hw, hdv, ht, q⟩ := h
  have hu := hu_of hr
  refine ⟨_, pss_one (ps_ret (pe_ifExp (pt_val (pe_callB call_isi (by rfl) T.isi (by decide +kernel) (pa_cons (pv 1) (pa_cons (pe_bltn (v := .ty "str") (by rfl) T.str (by decide +kernel) rfl) pa_nil)))) (pe_dget hu (pe_fld (pv 0) rfl) (pv 1) (fun _ _ => rfl)) (pv 1))), ?_⟩
  refine ⟨_, rfl, v, .ty "str", _, _, _, rfl, .ty _, dp_ty hdv, kit_isT d (by simp) (dp_nd hdv), _, rfl, ?_⟩
  rcases term_cases ht with ⟨z, rfl, hz⟩ | ⟨i, rfl, h0, h1⟩
  · cases hdv
    exact iteT ⟨_, rfl, wk, C, dx, _, _, rfl, hw.ob, W.cl, W.nHeld, rfl, _, rfl, hd, _, rfl, (by show DGet H hd (.str z) (some (.int (vget a b z))); rw [← hv_get hz a b]; exact DGet.k (k := Sum.inr z) hw.hl), q⟩
  · cases hdv
    exact iteF ⟨_, rfl, q⟩
theorem scTrue : FnScope ["self", "condition", "variable", "sign", "term"] ["self", "condition"] (defScope sTrue) := ⟨rfl, rfl, rfl, by decide +kernel, rfl, by decide +kernel, by decide +kernel⟩
theorem ok_true {f C : Addr} {fd : FuncData} (F : Fun K "is_true" "Walk.is_true" sTrue f fd) (W : WC K C) (MW : MCal P w K mg base 1 C "worth" ["self", "term"] (spWorth K C)) : FnOk P w K mg base CX0 2 f fd ["self", "condition"] (spTrue K C) := by
  refine F.ok scTrue (fun vs H Q E h => ?_) (fun cdv A outer s H vs Q E hr h => ?_)
  · obtain ⟨wk, dx, cd, hd, sn, pc, a, b, ct, t, ex, v, d, rfl, _⟩ := h
    rfl
  obtain ⟨wk, dx, cd, hd, sn, pc, a, b, ct, t, ex, v, d, rfl, hw, hn, hdv, hc, q⟩ := h
  have hu := hu_of hr
  refine ⟨_, pss_cons (ps_asg (pv 1) (pg_tup (by rfl) (pgs_cons (pg_name (i := 2) scTrue.nd rfl (.inl rfl)) (pgs_cons (pg_name (i := 3) scTrue.nd rfl (.inl rfl)) (pgs_cons (pg_name (i := 4) scTrue.nd rfl (.inl rfl)) pgs_nil)))))
    (pss_cons (ps_if (pt_cmpR op_eq (pv 3) pe_str (nomark _)) (pss_one (ps_ret (pe_cmpR op_eq (pe_dget hu (pe_fld (pv 0) rfl) (pv 2) (fun _ _ => rfl)) (pe_meth (pv 0) W.cl MW.m MW.G hr MW.b .nil pass0 (pa_cons (pv 4) pa_nil)) (nomark _)))) pss_nil)
    (pss_cons (ps_if (pt_cmpR op_eq (pv 3) pe_str (nomark _)) (pss_one (ps_ret (pe_cmpR op_ne (pe_dget hu (pe_fld (pv 0) rfl) (pv 2) (fun _ _ => rfl)) (pe_meth (pv 0) W.cl MW.m MW.G hr MW.b .nil pass0 (pa_cons (pv 4) pa_nil)) (nomark _)))) pss_nil)
    (pss_one (ps_ret (pe_cmpR op_lt (pe_dget hu (pe_fld (pv 0) rfl) (pv 2) (fun _ _ => rfl)) (pe_meth (pv 0) W.cl MW.m MW.G hr MW.b .nil pass0 (pa_cons (pv 4) pa_nil)) (nomark _)))))), ?_⟩
  obtain ⟨v0, g, t0, rfl, hv0, hg, ht⟩ := cond_cases hc
  obtain ⟨p, xs, rfl, hs, ha⟩ := dp_tup_inv hdv
  obtain ⟨x, y, z, rfl, hx, hy, hz⟩ := dp_trip ha
  cases hx
  cases hy
  have eC : cval a b (.tuple [.str v0, .str g, t0]) = (if g = "==" then decide (vget a b v0 = tval a b t0) else if g = "!=" then !decide (vget a b v0 = tval a b t0) else decide (vget a b v0 < tval a b t0)) := rfl
  rw [eC] at q
  refine ⟨_, rfl, p, _, rfl, hs, rfl, _, _, rfl, _, _, rfl, _, _, rfl, rfl, ?_⟩
  have hget : DGet H hd (.str v0) (some (.int (vget a b v0))) := by rw [← hv_get hv0 a b]; exact DGet.k (k := Sum.inr v0) hw.hl
  have call : ∀ Q' : VK, Q' (.int (tval a b t0)) H → spWorth K C [.ref wk, z] H Q' (fun _ _ _ => False) := fun Q' q' => ⟨wk, dx, cd, hd, sn, pc, a, b, ct, t, ex, z, t0, rfl, hw, hz, ht, q'⟩
  rcases hg with rfl | rfl | rfl
  · rw [if_pos rfl] at q
    refine ⟨_, rfl, rfl, _, rfl, strT ?_⟩
    refine ⟨_, rfl, wk, C, dx, _, _, rfl, hw.ob, W.cl, W.nHeld, rfl, _, rfl, hd, _, rfl, hget, _, rfl, wk, dx, _, rfl, hw.ob, hn.1, _, rfl, ?_⟩
    refine ⟨wk, dx, cd, hd, sn, pc, a, b, ct, t, ex, z, t0, rfl, hw, hz, ht, rfl, ?_⟩
    by_cases c : vget a b v0 = tval a b t0
    · rw [decide_eq_true c] at q
      have e : decide (V.int (vget a b v0) = V.int (tval a b t0)) = true := decide_eq_true (by rw [c])
      rw [e]; exact q
    · rw [decide_eq_false c] at q
      have e : decide (V.int (vget a b v0) = V.int (tval a b t0)) = false := decide_eq_false (fun z => c (by injection z))
      rw [e]; exact q
  · rw [if_neg (by decide +kernel), if_pos rfl] at q
    refine ⟨_, rfl, rfl, _, rfl, strF (by decide +kernel) ?_⟩
    refine ⟨_, rfl, rfl, _, rfl, strT ?_⟩
    refine ⟨_, rfl, wk, C, dx, _, _, rfl, hw.ob, W.cl, W.nHeld, rfl, _, rfl, hd, _, rfl, hget, _, rfl, wk, dx, _, rfl, hw.ob, hn.1, _, rfl, ?_⟩
    refine ⟨wk, dx, cd, hd, sn, pc, a, b, ct, t, ex, z, t0, rfl, hw, hz, ht, rfl, ?_⟩
    by_cases c : vget a b v0 = tval a b t0
    · rw [decide_eq_true c] at q
      have e : decide (V.int (vget a b v0) = V.int (tval a b t0)) = true := decide_eq_true (by rw [c])
      rw [e]; exact q
    · rw [decide_eq_false c] at q
      have e : decide (V.int (vget a b v0) = V.int (tval a b t0)) = false := decide_eq_false (fun z => c (by injection z))
      rw [e]; exact q
  · rw [if_neg (by decide +kernel), if_neg (by decide +kernel)] at q
    refine ⟨_, rfl, rfl, _, rfl, strF (by decide +kernel) ?_⟩
    refine ⟨_, rfl, rfl, _, rfl, strF (by decide +kernel) ?_⟩
    refine ⟨_, rfl, wk, C, dx, _, _, rfl, hw.ob, W.cl, W.nHeld, rfl, _, rfl, hd, _, rfl, hget, _, rfl, wk, dx, _, rfl, hw.ob, hn.1, _, rfl, ?_⟩
    exact ⟨wk, dx, cd, hd, sn, pc, a, b, ct, t, ex, z, t0, rfl, hw, hz, ht, _, _, rfl, rfl, q⟩
theorem scFol : FnScope ["self", "instruction"] ["self", "instruction"] (defScope sFol) := ⟨rfl, rfl, rfl, by decide +kernel, rfl, by decide +kernel, by decide +kernel⟩
theorem ok_fol {f C : Addr} {fd : FuncData} (F : Fun K "follower" "Walk.follower" sFol f fd) (W : WC K C) (MT : MCal P w K mg base 2 C "is_true" ["self", "condition"] (spTrue K C)) : FnOk P w K mg base CX0 3 f fd ["self", "instruction"] (spFol K C) := by
  refine F.ok scFol (fun vs H Q E h => ?_) (fun cdv A outer s H vs Q E hr h => ?_)
  · obtain ⟨wk, dx, cd, hd, sn, pc, a, b, ct, t, ex, v, i, k, rfl, _⟩ := h
    rfl
  obtain ⟨wk, dx, cd, hd, sn, pc, a, b, ct, t, ex, v, i, k, rfl, hw, hn, hdv, hi, q⟩ := h
  refine ⟨_, pss_cons (ps_if (pt_cmpR op_eq (pe_ix ix_tup (pv 1) pe_int (fun _ _ => rfl)) pe_str (nomark _)) (pss_one (ps_ret (pe_ix ix_tup (pv 1) pe_int (fun _ _ => rfl)))) pss_nil)
    (pss_cons (ps_if (PW.pt (pw_and (pt_cmpR op_eq (pe_ix ix_tup (pv 1) pe_int (fun _ _ => rfl)) pe_str (nomark _)) (pw_and1 (pt_not (pt_val (pe_meth (pv 0) W.cl MT.m MT.G hr MT.b .nil pass0 (pa_cons (pe_ix ix_tup (pv 1) pe_int (fun _ _ => rfl)) pa_nil))))))) (pss_one (ps_ret (pe_ix ix_tup (pv 1) pe_int (fun _ _ => rfl)))) pss_nil)
    (pss_one (ps_ret (pe_op op_add (pe_fld (pv 0) rfl) pe_int)))), ?_⟩
  obtain ⟨p, xr, rfl, hs, ha⟩ := ins_inv hdv
  refine ⟨_, rfl, p, _, _, _, rfl, rfl, hs, atI_nat (j := 0) rfl, rfl, _, rfl, ?_⟩
  have plus : ∀ D : L2.Ends, D.rt (.int ((pc + 1 : Nat) : Int)) H → (tRet (tOp (rI0 fun i j => .int (i + j)) (tFld K (tVar 0) "at") (tC (.int 1)))) D [some (.ref wk), some (.ref p)] H := fun D q' => ⟨_, rfl, wk, C, dx, _, _, rfl, hw.ob, W.cl, W.nAt, rfl, _, _, rfl, rfl, q'⟩
  cases i with
  | jump n =>
    obtain ⟨x, rfl, hx⟩ := dp_solo ha
    cases hx
    exact strT ⟨_, rfl, p, _, _, _, rfl, rfl, hs, atI_nat (j := 1) rfl, q⟩
  | test c n =>
    obtain ⟨x, y, rfl, hx, hy⟩ := dp_pair ha
    cases hy
    refine strF (by simp only [Ins.word]; decide +kernel) ⟨_, rfl, p, _, _, _, rfl, rfl, hs, atI_nat (j := 0) rfl, rfl, _, rfl, strT ?_⟩
    refine ⟨_, rfl, wk, dx, _, rfl, hw.ob, hn.2.1, _, rfl, p, _, _, _, rfl, rfl, hs, atI_nat (j := 1) rfl, ?_⟩
    refine ⟨wk, dx, cd, hd, sn, pc, a, b, ct, t, ex, x, c, rfl, hw, hn, hx, hi, _, rfl, ?_⟩
    have e : (Ins.test c n).next pc a b = if cval a b c = true then pc + 1 else n := rfl
    rw [e] at q
    cases hc : cval a b c with
    | true => rw [hc, if_pos rfl] at q; exact iteF (plus _ q)
    | false => rw [hc, if_neg (by decide)] at q; exact iteT ⟨_, rfl, p, _, _, _, rfl, rfl, hs, atI_nat (j := 2) rfl, q⟩
  | wait n => exact strF (by simp only [Ins.word]; decide +kernel) ⟨_, rfl, p, _, _, _, rfl, rfl, hs, atI_nat (j := 0) rfl, rfl, _, rfl, strF (by simp only [Ins.word]; decide +kernel) (iteF (plus _ q))⟩
  | set v n => exact strF (by simp only [Ins.word]; decide +kernel) ⟨_, rfl, p, _, _, _, rfl, rfl, hs, atI_nat (j := 0) rfl, rfl, _, rfl, strF (by simp only [Ins.word]; decide +kernel) (iteF (plus _ q))⟩
  | add v n => exact strF (by simp only [Ins.word]; decide +kernel) ⟨_, rfl, p, _, _, _, rfl, rfl, hs, atI_nat (j := 0) rfl, rfl, _, rfl, strF (by simp only [Ins.word]; decide +kernel) (iteF (plus _ q))⟩
  | ask g t v => exact strF (by simp only [Ins.word]; decide +kernel) ⟨_, rfl, p, _, _, _, rfl, rfl, hs, atI_nat (j := 0) rfl, rfl, _, rfl, strF (by simp only [Ins.word]; decide +kernel) (iteF (plus _ q))⟩
  | ans n => exact strF (by simp only [Ins.word]; decide +kernel) ⟨_, rfl, p, _, _, _, rfl, rfl, hs, atI_nat (j := 0) rfl, rfl, _, rfl, strF (by simp only [Ins.word]; decide +kernel) (iteF (plus _ q))⟩
  | grow n => exact strF (by simp only [Ins.word]; decide +kernel) ⟨_, rfl, p, _, _, _, rfl, rfl, hs, atI_nat (j := 0) rfl, rfl, _, rfl, strF (by simp only [Ins.word]; decide +kernel) (iteF (plus _ q))⟩
  | lst n => exact strF (by simp only [Ins.word]; decide +kernel) ⟨_, rfl, p, _, _, _, rfl, rfl, hs, atI_nat (j := 0) rfl, rfl, _, rfl, strF (by simp only [Ins.word]; decide +kernel) (iteF (plus _ q))⟩
end
abbrev sUp : Stmt := inClass (top 36) 1
abbrev sEar : Stmt := inClass (top 36) 2
abbrev sTake : Stmt := inClass (top 36) 5
/-! ### data stand over a change of objects that are no sequences -/
def seqO : HO → Prop
  | .lst _ => True
  | .tup _ => True
  | .frz _ _ => True
  | _ => False
def KeepS (H H' : Hp) : Prop := ∀ a o, seqO o → H a = some o → H' a = some o
theorem KeepS.rd {H H' : Hp} {a : Addr} {u : HO} (k : KeepS H H') (hu : seqO u) (h : Rd H a u) : Rd H' a u := by
  rcases h with h | ⟨o, h⟩
  · exact .inl (k _ _ hu h)
  · exact .inr ⟨o, k _ _ trivial h⟩
theorem KeepS.tup {K : PySem.W.Frag} {H H' : Hp} {a : Addr} {xs : List V} (k : KeepS H H') (h : SqT K H a xs) : SqT K H' a xs := h.elim (fun r => .inl (k.rd trivial r)) .inr
theorem KeepS.lst {K : PySem.W.Frag} {H H' : Hp} {a : Addr} {xs : List V} (k : KeepS H H') (h : SqL K H a xs) : SqL K H' a xs := h.elim (fun r => .inl (k.rd trivial r)) .inr
mutual
theorem dp_keepS {K : PySem.W.Frag} {H H' : Hp} (e : KeepS H H') : ∀ (d : PyData) (v : V), Dp K H v d → Dp K H' v d
  | .none, _, h => by cases h; exact .non
  | .bool b, _, h => by cases h; exact .bl b
  | .int i, _, h => by cases h; exact .int i
  | .str x, _, h => by cases h; exact .str x
  | .list ds, _, h => by
    cases h with
    | lst hs ha => exact .lst (e.lst hs) (dpAll_keepS e ds _ ha)
  | .tuple ds, _, h => by
    cases h with
    | tup hs ha => exact .tup (e.tup hs) (dpAll_keepS e ds _ ha)
  | .dict _, _, h => by cases h
theorem dpAll_keepS {K : PySem.W.Frag} {H H' : Hp} (e : KeepS H H') : ∀ (ds : List PyData) (vs : List V), DpAll K H vs ds → DpAll K H' vs ds
  | [], _, h => by cases h; exact .nil
  | d :: ds, _, h => by
    cases h with
    | cons hd ht => exact .cons (dp_keepS e d _ hd) (dpAll_keepS e ds _ ht)
end
theorem KeepS.upd {H : Hp} {p : Addr} {o u : HO} (h : H p = some o) (n : ¬ seqO o) : KeepS H (upd H p u) := fun a x hx e => by
  rw [upd_ne]
  · exact e
  · intro z
    subst z
    rw [h] at e
    cases e
    exact n hx
theorem KeepS.trans {H H' H'' : Hp} (a : KeepS H H') (b : KeepS H' H'') : KeepS H H'' := fun x o hx e => b x o hx (a x o hx e)
theorem KeepS.of {H H' : Hp} (s : Same H H') : KeepS H H' := fun x o _ e => s x o e
/-- nothing but what stands at these places has changed -/
def Fx (S : List Addr) (H H' : Hp) : Prop := ∀ p o, p ∉ S → H p = some o → H' p = some o
theorem Fx.of {S : List Addr} {H H' : Hp} (s : Same H H') : Fx S H H' := fun p o _ e => s p o e
theorem Fx.trans {S : List Addr} {H H' H'' : Hp} (a : Fx S H H') (b : Fx S H' H'') : Fx S H H'' := fun p o n e => b p o n (a p o n e)
theorem Fx.upd {S : List Addr} {H : Hp} {p : Addr} {o : HO} (m : p ∈ S) : Fx S H (upd H p o) := fun q x n e => by
  rw [upd_ne (fun z : q = p => n (by rw [z]; exact m))]
  exact e
theorem Fx.mono {S S' : List Addr} {H H' : Hp} (h : ∀ p ∈ S, p ∈ S') (a : Fx S H H') : Fx S' H H' := fun p o n e => a p o (fun m => n (h p m)) e
/-- what was changed was new: nothing has changed for who stood before -/
theorem Fx.same {S : List Addr} {H0 H H' : Hp} (s : Same H0 H) (n : ∀ p ∈ S, H0 p = none) (a : Fx S H H') : Same H0 H' := fun p o e => a p o (fun m => by rw [n p m] at e; cases e) (s p o e)
def keyS (pc : Nat) (a b : Int) : List Key := [Sum.inl (pc : Int), Sum.inl a, Sum.inl b]
def itemV : Option V → V
  | some v => v
  | none => .non
def spUp (K : PySem.W.Frag) (C : Addr) : Sp := fun vs H Q _ => ∃ (wk dx cd hd sn : Addr) (pc : Nat) (a b ct t : Int) (ex : List (Str × V)) (xs : List V), vs = [.ref wk] ∧ WkA K H C wk dx cd hd sn pc a b ct t ex ∧ SqL K H cd xs ∧ Q (itemV xs[pc]?) H
def spEar (K : PySem.W.Frag) (C : Addr) : Sp := fun vs H Q _ => ∃ (wk dx cd hd sn : Addr) (pc : Nat) (a b ct t : Int) (ex : List (Str × V)) (kvs : List (List Key × V)), vs = [.ref wk] ∧ WkA K H C wk dx cd hd sn pc a b ct t ex ∧ H sn = some (.dT kvs) ∧ kvs.length ≤ 100000 ∧ (∀ p ∈ kvs, ∃ r, p.2 = .ref r) ∧
  (∀ r, valV kvs (keyS pc a b) = some (.ref r) → ∀ H', Same H H' → Q (.ref r) H') ∧
  (valV kvs (keyS pc a b) = none → ∀ H' r, Fx [sn] H H' → H' sn = some (.dT (kvs ++ [(keyS pc a b, .ref r)])) → H r = none → H' r = some (.tup [.int t, .int ct]) → Q .non H')
def spTake (K : PySem.W.Frag) (C : Addr) : Sp := fun vs H Q _ => ∃ (wk dx cd hd sn : Addr) (pc : Nat) (a b ct t : Int) (ex : List (Str × V)) (v : V) (i : Ins) (k : Str), vs = [.ref wk, v] ∧ WkA K H C wk dx cd hd sn pc a b ct t ex ∧ noM ex ∧ Dp K H v i.toD ∧ i.ok k ∧
  ∀ H', Fx [wk, hd] H H' → WkA K H' C wk dx cd hd sn (i.next pc a b) (i.held a b).1 (i.held a b).2 (ct + i.grown a b) (t + i.cost) ex → Q .non H'
section
variable {P : Program} {w : World} {K : PySem.W.Frag} {mg : Str → Option Value} {base : Heap}
theorem scUp : FnScope ["self"] ["self"] (defScope sUp) := ⟨rfl, rfl, rfl, by decide +kernel, rfl, by decide +kernel, by decide +kernel⟩
theorem ok_up {f C : Addr} {fd : FuncData} (F : Fun K "upcoming" "Walk.upcoming" sUp f fd) (T : Gs K mg) (W : WC K C) : FnOk P w K mg base CX0 1 f fd ["self"] (spUp K C) := by
  refine F.ok scUp (fun vs H Q E h => ?_) (fun cdv A outer s H vs Q E hr h => ?_)
  · obtain ⟨wk, dx, cd, hd, sn, pc, a, b, ct, t, ex, xs, rfl, _⟩ := h
    rfl
  obtain ⟨wk, dx, cd, hd, sn, pc, a, b, ct, t, ex, xs, rfl, hw, hc, q⟩ := h
  refine ⟨_, pss_one (ps_ret (pe_ifExp (pt_cmpR op_lt (pe_fld (pv 0) rfl) (pe_callB call_len_seq (by rfl) T.len PySem.boot_len (pa_cons (pe_fld (pv 0) rfl) pa_nil)) (nomark _)) (pe_ix ix_list (pe_fld (pv 0) rfl) (pe_fld (pv 0) rfl) (fun _ _ => rfl)) pe_non)), ?_⟩
  refine ⟨_, rfl, wk, C, dx, _, _, rfl, hw.ob, W.cl, W.nAt, rfl, _, rfl, wk, C, dx, _, _, rfl, hw.ob, W.cl, W.nCode, rfl, cd, xs, rfl, .inl hc, _, _, rfl, rfl, _, rfl, ?_⟩
  by_cases hlt : pc < xs.length
  · refine ite2 (fun _ => ?_) (fun c => absurd (decide_eq_true (by show (pc : Int) < (xs.length : Int); omega)) c)
    have e : xs[pc]? = some xs[pc] := List.getElem?_eq_getElem hlt
    rw [e] at q
    exact ⟨_, rfl, wk, C, dx, _, _, rfl, hw.ob, W.cl, W.nCode, rfl, _, rfl, wk, C, dx, _, _, rfl, hw.ob, W.cl, W.nAt, rfl, cd, xs, _, _, rfl, rfl, hc, atI_nat e, q⟩
  · refine ite2 (fun c => absurd (of_decide_eq_true c) (by show ¬ (pc : Int) < (xs.length : Int); omega)) (fun _ => ?_)
    have e : xs[pc]? = none := List.getElem?_eq_none (by omega)
    rw [e] at q
    exact q
theorem scEar : FnScope ["self", "state", "before"] ["self"] (defScope sEar) := ⟨rfl, rfl, rfl, by decide +kernel, rfl, by decide +kernel, by decide +kernel⟩
theorem ok_ear {f C : Addr} {fd : FuncData} (F : Fun K "earlier" "Walk.earlier" sEar f fd) (W : WC K C) : FnOk P w K mg base CX0 1 f fd ["self"] (spEar K C) := by
  refine F.ok scEar (fun vs H Q E h => ?_) (fun cdv A outer s H vs Q E hr h => ?_)
  · obtain ⟨wk, dx, cd, hd, sn, pc, a, b, ct, t, ex, kvs, rfl, _⟩ := h
    rfl
  obtain ⟨wk, dx, cd, hd, sn, pc, a, b, ct, t, ex, kvs, rfl, hw, hs, hl, hr1, qS, qN⟩ := h
  have hu := hu_of hr
  refine ⟨_, pss_cons (ps_set (i := 1) scEar.nd rfl (.inl rfl) (pe_tup (pa_cons (pe_fld (pv 0) rfl) (pa_cons (pe_dget hu (pe_fld (pv 0) rfl) pe_str (fun _ _ => rfl)) (pa_cons (pe_dget hu (pe_fld (pv 0) rfl) pe_str (fun _ _ => rfl)) pa_nil)))))
    (pss_cons (ps_set (i := 2) scEar.nd rfl (.inl rfl) (pe_dget1 hu (pe_fld (pv 0) rfl) (pv 1) ⟨rfl, rfl, rfl, rfl⟩))
    (pss_cons (ps_if (pt_cmpR op_isN (pv 2) pe_non (nomark _)) (pss_one (ps_dput hu (pe_fld (pv 0) rfl) (pv 1) (pe_tup (pa_cons (pe_fld (pv 0) rfl) (pa_cons (pe_fld (pv 0) rfl) pa_nil))) rfl)) pss_nil)
    (pss_one (ps_ret (pv 2))))), ?_⟩
  refine ⟨_, rfl, wk, C, dx, _, _, rfl, hw.ob, W.cl, W.nAt, rfl, _, rfl, wk, C, dx, _, _, rfl, hw.ob, W.cl, W.nHeld, rfl, hd, _, rfl, DGet.k (k := Sum.inr "a") hw.hl, _, rfl, wk, C, dx, _, _, rfl, hw.ob, W.cl, W.nHeld, rfl, hd, _, rfl, DGet.k (k := Sum.inr "b") hw.hl, (by show 3 ≤ sizeLine; decide), fun st nst => ?_⟩
  have s1 := same_new nst (.tup [.int (pc : Nat), .int a, .int b])
  have est : (upd H st (.tup [.int (pc : Nat), .int a, .int b])) st = some (.tup ((keyS pc a b).map kV)) := upd_same
  generalize upd H st (.tup [.int (pc : Nat), .int a, .int b]) = H1 at s1 est ⊢
  have ob1 := s1 _ _ hw.ob
  have hs1 := s1 _ _ hs
  refine ⟨_, rfl, wk, C, dx, _, _, rfl, ob1, W.cl, W.nSeen, rfl, sn, rfl, .inr ⟨_, .inl hs1⟩, _, rfl, _, DGet.t (k := keyS pc a b) hs1 est, ?_⟩
  cases hv : valV kvs (keyS pc a b) with
  | some v =>
    obtain ⟨p, mp, ep⟩ : ∃ p ∈ kvs, p.2 = v := by
      unfold valV at hv
      cases hf : kvs.find? (fun kv => decide (kv.1 = keyS pc a b)) with
      | none => rw [hf] at hv; cases hv
      | some p =>
        rw [hf] at hv
        exact ⟨p, List.mem_of_find?_eq_some hf, by injection hv⟩
    obtain ⟨r, er⟩ := hr1 p mp
    rw [er] at ep
    subst ep
    refine ⟨_, rfl, rfl, _, rfl, ite2 (fun c => absurd (of_decide_eq_true c) (fun z => nomatch z)) (fun _ => ?_)⟩
    exact ⟨_, rfl, qS r hv _ s1⟩
  | none =>
    refine ⟨_, rfl, rfl, _, rfl, ite2 (fun _ => ?_) (fun c => absurd (decide_eq_true rfl) c)⟩
    refine ⟨_, rfl, wk, C, dx, _, _, rfl, ob1, W.cl, W.nTak, rfl, _, rfl, wk, C, dx, _, _, rfl, ob1, W.cl, W.nCnt, rfl, (by show 2 ≤ sizeLine; decide), fun r nr => ?_⟩
    have s2 := same_new nr (.tup [.int t, .int ct])
    have er : (upd H1 r (.tup [.int t, .int ct])) r = some (.tup [.int t, .int ct]) := upd_same
    generalize upd H1 r (.tup [.int t, .int ct]) = H2 at s2 er ⊢
    have hs2 := s2 _ _ hs1
    have nrs : r ≠ sn := fun z => by rw [z] at er; rw [er] at hs2; cases hs2
    refine ⟨_, rfl, wk, C, dx, _, _, rfl, s2 _ _ ob1, W.cl, W.nSeen, rfl, _, rfl, sn, _, rfl, DPut.t (k := keyS pc a b) hs2 (s2 _ _ est) (Nat.lt_of_le_of_lt hl (by decide)), ?_⟩
    refine ⟨_, rfl, qN hv _ r (Fx.trans (Fx.of (s1.trans s2)) (Fx.upd (by simp))) ?_ (s1.free nr) ?_⟩
    · rw [upd_same, putK_new _ hv]
    · rw [upd_ne nrs]
      exact er
theorem scTake : FnScope ["self", "instruction", "word", "variable", "term"] ["self", "instruction"] (defScope sTake) := ⟨rfl, rfl, rfl, by decide +kernel, rfl, by decide +kernel, by decide +kernel⟩
theorem ok_take {f C : Addr} {fd : FuncData} (F : Fun K "take" "Walk.take" sTake f fd) (T : Gs K mg) (W : WC K C) (CC : Cal P w K mg base 1 "cost" ["instruction"] (spCost K)) (MF : MCal P w K mg base 3 C "follower" ["self", "instruction"] (spFol K C)) (MW : MCal P w K mg base 1 C "worth" ["self", "term"] (spWorth K C)) :
    FnOk P w K mg base CX0 4 f fd ["self", "instruction"] (spTake K C) := by
  refine F.ok scTake (fun vs H Q E h => ?_) (fun cdv A outer s H vs Q E hr h => ?_)
  · obtain ⟨wk, dx, cd, hd, sn, pc, a, b, ct, t, ex, v, i, k, rfl, _⟩ := h
    rfl
  obtain ⟨wk, dx, cd, hd, sn, pc, a, b, ct, t, ex, v, i, k, rfl, hw, hn, hdv, hi, q⟩ := h
  have hu := hu_of hr
  have hr1 : Room 1 _ := hr.mono (by decide)
  refine ⟨_, pss_cons (ps_fldaug (pv 0) (pe_call CC.G hr1 rfl CC.m CC.kp CC.b .nil pass0 (pa_cons (pv 1) pa_nil)) in_add)
    (pss_cons (ps_fld (pv 0) (pe_meth (pv 0) W.cl MF.m MF.G hr MF.b .nil pass0 (pa_cons (pv 1) pa_nil)) rfl)
    (pss_cons (ps_set (i := 2) scTake.nd rfl (.inl rfl) (pe_ix ix_tup (pv 1) pe_int (fun _ _ => rfl)))
    (pss_one (ps_if (pt_cmpR op_eq (pv 2) pe_str (nomark _))
      (pss_one (ps_dput hu (pe_fld (pv 0) rfl) (pe_ix ix_tup (pv 1) pe_int (fun _ _ => rfl)) (pe_ix ix_tup (pv 1) pe_int (fun _ _ => rfl)) rfl))
      (pss_one (ps_if (pt_cmpR op_eq (pv 2) pe_str (nomark _))
        (pss_cons (ps_asg (pe_slice sl_tup (pv 1) (po_some pe_int) po_none) (pg_tup (by rfl) (pgs_cons (pg_name (i := 3) scTake.nd rfl (.inl rfl)) (pgs_cons (pg_name (i := 4) scTake.nd rfl (.inl rfl)) pgs_nil))))
        (pss_one (ps_dput hu (pe_fld (pv 0) rfl) (pv 3) (pe_op op_mod (pe_op op_add (pe_dget hu (pe_fld (pv 0) rfl) (pv 3) (fun _ _ => rfl)) (pe_meth (pv 0) W.cl MW.m MW.G hr1 MW.b .nil pass0 (pa_cons (pv 4) pa_nil))) (pe_op op_add (pe_gint rfl T.mG) pe_int)) rfl)))
        (pss_one (ps_if (pt_cmpR op_eq (pv 2) pe_str (nomark _)) (pss_one (ps_fldaug (pv 0) (pe_meth (pv 0) W.cl MW.m MW.G hr1 MW.b .nil pass0 (pa_cons (pe_ix ix_tup (pv 1) pe_int (fun _ _ => rfl)) pa_nil)) in_add)) pss_nil)))))))), ?_⟩
  have lx : ∀ {x y : Int} {p : Nat}, (wf cd hd sn p x y ex).length < 1000 := by
    intro x y p
    have := hn.2.2.2.2.2.2
    show ex.length + 1 + 1 + 1 + 1 + 1 + 1 < 1000
    omega
  have nwh : hd ≠ wk := fun z => by
    have h1 := hw.hl
    rw [z, hw.ob] at h1
    cases h1
  refine ⟨_, rfl, wk, C, dx, _, _, rfl, hw.ob, W.cl, W.nTak, rfl, _, rfl, v, i, rfl, hdv, _, _, rfl, rfl, dx, _, hw.ob, lx, ?_⟩
  have e1 : (upd H wk (.ins C dx (putF "taken" (.int (t + i.cost)) (wf cd hd sn pc ct t ex)))) wk = some (.ins C dx (wf cd hd sn pc ct (t + i.cost) ex)) := upd_same
  have f1 : Fx [wk, hd] H (upd H wk (.ins C dx (putF "taken" (.int (t + i.cost)) (wf cd hd sn pc ct t ex)))) := Fx.upd (by simp)
  have k1 : KeepS H (upd H wk (.ins C dx (putF "taken" (.int (t + i.cost)) (wf cd hd sn pc ct t ex)))) := KeepS.upd hw.ob (fun z => z)
  have h1 : (upd H wk (.ins C dx (putF "taken" (.int (t + i.cost)) (wf cd hd sn pc ct t ex)))) hd = some (.dK (hv a b)) := by rw [upd_ne nwh]; exact hw.hl
  generalize upd H wk (.ins C dx (putF "taken" (.int (t + i.cost)) (wf cd hd sn pc ct t ex))) = H1 at e1 f1 k1 h1 ⊢
  have hd1 := dp_keepS k1 _ _ hdv
  refine ⟨_, rfl, wk, dx, _, rfl, e1, hn.2.2.1, _, rfl, wk, dx, cd, hd, sn, pc, a, b, ct, t + i.cost, ex, v, i, k, rfl, ⟨e1, h1⟩, hn, hd1, hi, ?_⟩
  refine ⟨_, rfl, wk, C, dx, _, rfl, e1, W.cl, W.nAt, lx, ?_⟩
  have e2 : (upd H1 wk (.ins C dx (putF "at" (.int (i.next pc a b : Nat)) (wf cd hd sn pc ct (t + i.cost) ex)))) wk = some (.ins C dx (wf cd hd sn (i.next pc a b) ct (t + i.cost) ex)) := upd_same
  have f2 : Fx [wk, hd] H (upd H1 wk (.ins C dx (putF "at" (.int (i.next pc a b : Nat)) (wf cd hd sn pc ct (t + i.cost) ex)))) := f1.trans (Fx.upd (by simp))
  have k2 : KeepS H1 (upd H1 wk (.ins C dx (putF "at" (.int (i.next pc a b : Nat)) (wf cd hd sn pc ct (t + i.cost) ex)))) := KeepS.upd e1 (fun z => z)
  have h2 : (upd H1 wk (.ins C dx (putF "at" (.int (i.next pc a b : Nat)) (wf cd hd sn pc ct (t + i.cost) ex)))) hd = some (.dK (hv a b)) := by rw [upd_ne nwh]; exact h1
  generalize upd H1 wk (.ins C dx (putF "at" (.int (i.next pc a b : Nat)) (wf cd hd sn pc ct (t + i.cost) ex))) = H2 at e2 f2 k2 h2 ⊢
  have hd2 := dp_keepS k2 _ _ hd1
  obtain ⟨p, xr, rfl, hs, ha⟩ := ins_inv hd2
  refine ⟨_, rfl, p, _, _, _, rfl, rfl, hs, atI_nat (j := 0) rfl, ?_⟩
  refine ⟨_, rfl, rfl, _, rfl, ?_⟩
  have put : ∀ (H3 : Hp) (z : Str) (n : Int), okV z → Fx [wk, hd] H H3 → H3 wk = some (.ins C dx (wf cd hd sn (i.next pc a b) ct (t + i.cost) ex)) → H3 hd = some (.dK (hv a b)) → vput z n (a, b) = i.held a b → i.grown a b = 0 → Q .non (upd H3 hd (.dK (putK (hv a b) (Sum.inr z : Key) (V.int n)))) := by
    intro H3 z n hz f3 e3 h3 eh eg
    refine q _ (f3.trans (Fx.upd (by simp))) ⟨?_, ?_⟩
    · rw [upd_ne nwh.symm, eg, Int.add_zero]
      exact e3
    · rw [upd_same, hv_put hz, eh]
  have keepq : i.held a b = (a, b) → i.grown a b = 0 → Q .non H2 := fun eh eg => q _ f2 ⟨by rw [eg, Int.add_zero]; exact e2, by rw [eh]; exact h2⟩
  cases i with
  | set z n =>
    obtain ⟨x, y, rfl, hx, hy⟩ := dp_pair ha
    cases hx
    cases hy
    refine strT ⟨_, rfl, p, _, _, _, rfl, rfl, hs, atI_nat (j := 2) rfl, _, rfl, wk, C, dx, _, _, rfl, e2, W.cl, W.nHeld, rfl, _, rfl, p, _, _, _, rfl, rfl, hs, atI_nat (j := 1) rfl, hd, _, rfl, DPut.k (k := Sum.inr z) h2 (by show 2 < sizeLine; decide), ?_⟩
    exact put H2 z n hi.1 f2 e2 h2 rfl rfl
  | add z d =>
    obtain ⟨x, y, rfl, hx, hy⟩ := dp_pair ha
    cases hx
    refine strF (by simp only [Ins.word]; decide +kernel) ⟨_, rfl, rfl, _, rfl, strT ?_⟩
    refine ⟨_, rfl, _, rfl, p, _, rfl, hs, not_whole1 _ _, fun r nr => ?_⟩
    rw [cut1]
    have s3 : Same H2 (upd H2 r (.tup [.str z, y])) := same_new nr _
    have er : (upd H2 r (.tup [.str z, y])) r = some (.tup [.str z, y]) := upd_same
    generalize upd H2 r (.tup [.str z, y]) = H3 at s3 er ⊢
    have e3 := s3 _ _ e2
    have h3 := s3 _ _ h2
    refine ⟨r, _, rfl, SqT.of er, rfl, _, _, rfl, _, _, rfl, rfl, ?_⟩
    have hget : DGet H3 hd (.str z) (some (.int (vget a b z))) := by rw [← hv_get hi.1 a b]; exact DGet.k (k := Sum.inr z) h3
    refine ⟨_, rfl, wk, C, dx, _, _, rfl, e3, W.cl, W.nHeld, rfl, _, rfl, hd, _, rfl, hget, _, rfl, wk, dx, _, rfl, e3, hn.1, _, rfl, ?_⟩
    refine ⟨wk, dx, cd, hd, sn, _, a, b, ct, _, ex, y, d, rfl, ⟨e3, h3⟩, dp_mono s3 _ _ hy, hi.2, _, _, rfl, rfl, _, _, rfl, rfl, _, _, rfl, rfl, (by show (0 : Int) < 15 + 1; decide), ?_⟩
    refine ⟨_, rfl, wk, C, dx, _, _, rfl, e3, W.cl, W.nHeld, rfl, _, rfl, hd, _, rfl, DPut.k (k := Sum.inr z) h3 (by show 2 < sizeLine; decide), ?_⟩
    exact put H3 z _ hi.1 (f2.trans (Fx.of s3)) e3 h3 rfl rfl
  | grow d =>
    obtain ⟨x, rfl, hx⟩ := dp_solo ha
    refine strF (by simp only [Ins.word]; decide +kernel) ⟨_, rfl, rfl, _, rfl, strF (by simp only [Ins.word]; decide +kernel) ⟨_, rfl, rfl, _, rfl, strT ?_⟩⟩
    refine ⟨_, rfl, wk, C, dx, _, _, rfl, e2, W.cl, W.nCnt, rfl, _, rfl, wk, dx, _, rfl, e2, hn.1, _, rfl, p, _, _, _, rfl, rfl, hs, atI_nat (j := 1) rfl, ?_⟩
    refine ⟨wk, dx, cd, hd, sn, _, a, b, ct, _, ex, x, d, rfl, ⟨e2, h2⟩, hx, hi.2, _, _, rfl, rfl, dx, _, e2, lx, ?_⟩
    refine q _ (f2.trans (Fx.upd (by simp))) ⟨upd_same, ?_⟩
    rw [upd_ne nwh]
    exact h2
  | wait n => exact strF (by simp only [Ins.word]; decide +kernel) ⟨_, rfl, rfl, _, rfl, strF (by simp only [Ins.word]; decide +kernel) ⟨_, rfl, rfl, _, rfl, strF (by simp only [Ins.word]; decide +kernel) (keepq rfl rfl)⟩⟩
  | ask g t v => exact strF (by simp only [Ins.word]; decide +kernel) ⟨_, rfl, rfl, _, rfl, strF (by simp only [Ins.word]; decide +kernel) ⟨_, rfl, rfl, _, rfl, strF (by simp only [Ins.word]; decide +kernel) (keepq rfl rfl)⟩⟩
  | ans n => exact strF (by simp only [Ins.word]; decide +kernel) ⟨_, rfl, rfl, _, rfl, strF (by simp only [Ins.word]; decide +kernel) ⟨_, rfl, rfl, _, rfl, strF (by simp only [Ins.word]; decide +kernel) (keepq rfl rfl)⟩⟩
  | lst n => exact strF (by simp only [Ins.word]; decide +kernel) ⟨_, rfl, rfl, _, rfl, strF (by simp only [Ins.word]; decide +kernel) ⟨_, rfl, rfl, _, rfl, strF (by simp only [Ins.word]; decide +kernel) (keepq rfl rfl)⟩⟩
  | test n u => exact strF (by simp only [Ins.word]; decide +kernel) ⟨_, rfl, rfl, _, rfl, strF (by simp only [Ins.word]; decide +kernel) ⟨_, rfl, rfl, _, rfl, strF (by simp only [Ins.word]; decide +kernel) (keepq rfl rfl)⟩⟩
  | jump n => exact strF (by simp only [Ins.word]; decide +kernel) ⟨_, rfl, rfl, _, rfl, strF (by simp only [Ins.word]; decide +kernel) ⟨_, rfl, rfl, _, rfl, strF (by simp only [Ins.word]; decide +kernel) (keepq rfl rfl)⟩⟩
end
abbrev sWI : Stmt := inClass (top 36) 0
abbrev sTI : Stmt := inClass (top 42) 0
abbrev sPl : Stmt := inClass (top 42) 1
abbrev sAsk : Stmt := inClass (top 42) 2
abbrev sAP : Stmt := inClass (top 42) 3
/-! ### C.m(e, ..), C a class of the program, m a def of it -/
def tCFun (C : Addr) (sp : Sp) (dvs : List V) (E : XK) (ta : TE) (t : TA) : TE := fun σ H Q => ta σ H fun x H1 => x = .ref C ∧ t σ H1 fun vs H2 => sp (vs ++ dvs) H2 Q E
section
variable {X : Cx} {CX : CXT} {k : Nat} {C f : Addr} {fd : FuncData} {ps : List Str} {ds : List Value} {dvs : List V} {mc : Value} {sp : Sp} {E : XK} {o e : Expr} {es : List Expr} {m : Str} {pos apos : Pos} {ta : TE} {t : TA} {pl : Sem Bool}
theorem pe_cfun (he : PE X o ta) (r : ClX.CRead X.K C mc) (c : PySem.W.findCls X.K (.ref C) mc m = some (.val (.ref f))) (hk : PySem.W.keepIn X.K (.ref f) = true) (F : FnOk X.prog X.w X.K X.mg X.base CX k f fd ps sp) (hr : Room k X.A) (hb : Binds X.K fd ps ds) (hd : Vals dvs ds) (hx : Passes CX X E) (ha : PA X (e :: es) t)
    (hst : starEach (e :: es) X.env = (false, eval e X.env) :: starEach es X.env := by rfl) (hpl : (backTo pos (starEach es X.env)).any (·.1) = false := by rfl)
    (ht : eval (.Call (.Attribute o m apos) (e :: es) [] pos) X.env = (do
      let ov ← eval o X.env
      standAt apos.atName
      let (f, first) ← holding [ov] (getMethod ov m pl)
      callWith pos f first (backTo pos (starEach (e :: es) X.env)) (backToKw pos (keywordEach [] X.env))) := by rfl) :
    PE X (.Call (.Attribute o m apos) (e :: es) [] pos) (tCFun C sp dvs E ta t) := by
  refine ⟨fun pins s σ H Q I h => ?_⟩
  refine PySem.W.methodCall_KW (pl := pl) (thn (he.run pins s σ H _ I h) fun u s1 ⟨x, H1, I1, rx, ex, q⟩ => ?_) ht
  subst ex
  obtain rfl : u = Value.ref C := rx
  refine PySem.W.method_cls I1.kIn r.ga (ClX.getcval_ok (v := .ref f) I1 r ⟨c, rfl⟩ fun s2 I2 => ?_)
  refine PySem.W.callWith_K (h₀ := X.base) I2.ok.mod.kin hk (thn (ha.run pos pins s2 σ H1 _ I2 q) fun us s3 ⟨vs, H2, I3, r3, q3⟩ => ⟨I3.kIn, ?_⟩) hst hpl
  exact run_fn F hr hb hd hx I3 r3 q3
end
/-- {.. for x in a list} -/
theorem dc_list {K : PySem.W.Frag} {a : Addr} {xs : List V} {g : TG} {tt : TT} {tk tv : TE} {vs : List Nat} {σ : L2.St} {H1 : Hp} {D : Addr} {Qd : Hp → Prop} (Pv : Nat → Hp → Prop) (h0 : Pv 0 (upd H1 D (.dK []))) (hl : ∀ i H, i ≤ xs.length → Pv i H → SqL K H a xs)
    (hs : ∀ i x H, xs[i]? = some x → Pv i H → g x (wipe σ vs) H fun σ2 H2 => wipe σ2 vs = wipe σ vs ∧ tt σ2 H2 fun b H3 =>
      if b = true then tk σ2 H3 fun y H4 => tv σ2 H4 fun z H5 => ∃ kvs k, y = kV k ∧ H5 D = some (.dK kvs) ∧ kvs.length < sizeLine ∧ Pv (i + 1) (upd H5 D (.dK (putK kvs k z))) else Pv (i + 1) H3) (hd : ∀ H, Pv xs.length H → Qd H) :
    ∃ W : Nat → Nat → Hp → Prop, (∃ m, W 0 m (upd H1 D (.dK []))) ∧ ∀ i m H, W i m H →
      ((Itl K a).stop i H ∧ Qd H) ∨ ((Itl K a).go i H ∧ ∃ Nx : Hp → Prop, (∀ H', Nx H' → ∃ m', m' < m ∧ W (i + 1) m' H') ∧ ∀ x H', (Itl K a).yld i H x H' → g x (wipe σ vs) H' fun σ2 H2 => wipe σ2 vs = wipe σ vs ∧ tt σ2 H2 fun b H3 =>
        if b = true then tk σ2 H3 fun y H4 => tv σ2 H4 fun z H5 => ∃ kvs k, y = kV k ∧ H5 D = some (.dK kvs) ∧ kvs.length < sizeLine ∧ Nx (upd H5 D (.dK (putK kvs k z))) else Nx H3) := by
  refine ⟨fun i m H => m = xs.length - i ∧ i ≤ xs.length ∧ Pv i H, ⟨xs.length, by simp, Nat.zero_le _, h0⟩, ?_⟩
  rintro i m H ⟨rfl, hi, p⟩
  have q := hl i H hi p
  by_cases hlt : i < xs.length
  · refine .inr ⟨⟨xs, xs[i], q, by simp [hlt]⟩, Pv (i + 1), fun H' p' => ⟨xs.length - (i + 1), by omega, rfl, hlt, p'⟩, fun x H' y => ?_⟩
    obtain ⟨e, y⟩ := y
    subst e
    exact hs i x _ (y xs q) p
  · have e : i = xs.length := by omega
    subst e
    exact .inl ⟨⟨xs, q, Nat.le_refl _⟩, hd H p⟩
/-- what the top has written of the tellers' walks -/
structure TC (K : PySem.W.Frag) (C : Addr) : Prop where
  wc : WC K C
  nPos : NoAttr K C "position"
  nPre : NoAttr K C "present"
  nQue : NoAttr K C "questions"
def exT (x : Int) (pr qs : Addr) : List (Str × V) := [("position", .int x), ("present", .ref pr), ("questions", .ref qs)]
theorem noM_T (x : Int) (pr qs : Addr) : noM (exT x pr qs) := ⟨rfl, rfl, rfl, rfl, rfl, rfl, by show 3 ≤ 10; decide⟩
/-- the asked positions as a dict -/
def qD (ps : List Int) : List (Key × V) := ps.map fun p => (Sum.inl p, .bl true)
def putQ (p : Int) (ps : List Int) : List Int := if p ∈ ps then ps else ps ++ [p]
theorem qD_val (p : Int) : ∀ ps : List Int, (valV (qD ps) (Sum.inl p : Key)).isSome = decide (p ∈ ps)
  | [] => rfl
  | x :: r => by
    have ih := qD_val p r
    show (valV ((Sum.inl x, V.bl true) :: qD r) (Sum.inl p : Key)).isSome = _
    by_cases e : x = p
    · subst e
      rw [valV_pos rfl]
      simp
    · rw [valV_neg (p := ((Sum.inl x : Key), V.bl true)) (by intro z; injection z with z; exact e z), ih]
      have e' : ¬ p = x := fun z => e z.symm
      simp [e']
theorem qD_put (p : Int) (ps : List Int) : putK (qD ps) (Sum.inl p : Key) (.bl true) = qD (putQ p ps) := by
  have h := qD_val p ps
  unfold putQ
  by_cases e : p ∈ ps
  · rw [if_pos e]
    rw [decide_eq_true e] at h
    unfold putK
    rw [valV_any, h, if_pos rfl]
    unfold qD
    rw [List.map_map]
    refine List.map_congr_left fun x _ => ?_
    show (if (Sum.inl x : Key) = Sum.inl p then ((Sum.inl x : Key), V.bl true) else (Sum.inl x, V.bl true)) = (Sum.inl x, V.bl true)
    split <;> rfl
  · rw [if_neg e]
    rw [decide_eq_false e] at h
    have hn : valV (qD ps) (Sum.inl p : Key) = none := by
      cases hv : valV (qD ps) (Sum.inl p : Key) with
      | none => rfl
      | some v => rw [hv] at h; cases h
    rw [putK_new _ hn]
    unfold qD
    rw [List.map_append]
    rfl
/-- a teller's walk stands at wk: its present members are those that mem tells, it has asked about ps -/
structure TkA (K : PySem.W.Frag) (H : Hp) (C wk dx cd hd sn pr qs : Addr) (pc : Nat) (a b t x : Int) (mem : Int → Bool) (ps : List Int) : Prop where
  wa : WkA K H C wk dx cd hd sn pc a b 0 t (exT x pr qs)
  pre : ∃ kvs, H pr = some (.dK kvs) ∧ ∀ z : Int, (valV kvs (Sum.inl z : Key)).isSome = mem z
  que : H qs = some (.dK (qD ps))
  apart : pr ≠ qs ∧ hd ≠ pr
def spWI (K : PySem.W.Frag) (C : Addr) : Sp := fun vs H Q _ => ∃ (wk dx cd : Addr), vs = [.ref wk, .ref cd] ∧ H wk = some (.ins C dx []) ∧
  ∀ H' hd sn, Fx [wk] H H' → H hd = none → H sn = none → hd ≠ sn → WkA K H' C wk dx cd hd sn 0 0 0 0 0 [] → H' sn = some (.dT []) → Q .non H'
def spTI (K : PySem.W.Frag) (C : Addr) : Sp := fun vs H Q _ => ∃ (wk dx cd m : Addr) (x : Int) (ns : List Int), vs = [.ref wk, .ref cd, .int x, .ref m] ∧ H wk = some (.ins C dx []) ∧ SqL K H m (ns.map V.int) ∧ ns.length ≤ 10000 ∧
  ∀ H' hd sn pr qs, Fx [wk] H H' → H hd = none → H sn = none → H pr = none → H qs = none → TkA K H' C wk dx cd hd sn pr qs 0 0 0 0 x (fun z => decide (z ∈ ns)) [] → H' sn = some (.dT []) → Q .non H'
def spPl (K : PySem.W.Frag) (C : Addr) : Sp := fun vs H Q _ => ∃ (wk dx cd hd sn pr qs : Addr) (pc : Nat) (a b t x : Int) (g : Str) (v : V) (d : PyData), vs = [.ref wk, .str g, v] ∧ WkA K H C wk dx cd hd sn pc a b 0 t (exT x pr qs) ∧ Dp K H v d ∧ isTerm d = true ∧ (g = "+" ∨ g = "-" ∨ g = "=") ∧ Q (.int (place x a b g d)) H
def spAsk (K : PySem.W.Frag) (C : Addr) : Sp := fun vs H Q _ => ∃ (wk dx cd hd sn pr qs : Addr) (pc : Nat) (a b t x : Int) (mem : Int → Bool) (ps : List Int) (v : V) (g z : Str) (d : PyData), vs = [.ref wk, v] ∧ TkA K H C wk dx cd hd sn pr qs pc a b t x mem ps ∧ Dp K H v (Ins.ask g d z).toD ∧ (Ins.ask g d z).ok "teller" ∧ ps.length ≤ 100000 ∧
  ∀ H', Fx [hd, qs] H H' → TkA K H' C wk dx cd hd sn pr qs pc (vput z (if 0 ≤ place x a b g d ∧ mem (place x a b g d) = true then 1 else 0) (a, b)).1 (vput z (if 0 ≤ place x a b g d ∧ mem (place x a b g d) = true then 1 else 0) (a, b)).2 t x mem (if 0 ≤ place x a b g d then putQ (place x a b g d) ps else ps) → Q .non H'
def isort (ps : List Int) : List Int := ps.mergeSort (fun x y => decide (x ≤ y))
theorem isort_perm (ps : List Int) : (isort ps).Perm ps := List.mergeSort_perm _ _
theorem isort_sorted (ps : List Int) : (isort ps).Pairwise (· ≤ ·) := by
  have h := List.pairwise_mergeSort (le := fun (x y : Int) => decide (x ≤ y)) (fun a b c h1 h2 => decide_eq_true (Int.le_trans (of_decide_eq_true h1) (of_decide_eq_true h2))) (fun a b => by
    rcases Int.le_total a b with h | h
    · rw [decide_eq_true h]; rfl
    · rw [decide_eq_true h, Bool.or_true]) ps
  exact h.imp fun h => of_decide_eq_true h
theorem isort_unique {ps ns : List Int} (hp : ns.Perm ps) (hs : ns.Pairwise (· ≤ ·)) : ns = isort ps :=
  List.Perm.eq_of_pairwise (le := (· ≤ ·)) (fun a b _ _ h1 h2 => Int.le_antisymm h1 h2) hs (isort_sorted ps) (hp.trans (isort_perm ps).symm)
def spAP (K : PySem.W.Frag) (C : Addr) : Sp := fun vs H Q _ => ∃ (wk dx cd hd sn pr qs : Addr) (pc : Nat) (a b t x : Int) (mem : Int → Bool) (ps : List Int), vs = [.ref wk] ∧ TkA K H C wk dx cd hd sn pr qs pc a b t x mem ps ∧
  ∀ H' p, Same H H' → H p = none → H' p = some (.lst ((isort ps).map V.int)) → Q (.ref p) H'
section
variable {P : Program} {w : World} {K : PySem.W.Frag} {mg : Str → Option Value} {base : Heap}
theorem scWI : FnScope ["self", "code"] ["self", "code"] (defScope sWI) := ⟨rfl, rfl, rfl, by decide +kernel, rfl, by decide +kernel, by decide +kernel⟩
theorem ok_WI {f C : Addr} {fd : FuncData} (F : Fun K "__init__" "Walk.__init__" sWI f fd) (W : WC K C) : FnOk P w K mg base CX0 1 f fd ["self", "code"] (spWI K C) := by
  refine F.ok scWI (fun vs H Q E h => ?_) (fun cdv A outer s H vs Q E hr h => ?_)
  · obtain ⟨wk, dx, cd, rfl, _⟩ := h
    rfl
  obtain ⟨wk, dx, cd, rfl, hw, q⟩ := h
  refine ⟨_, pss_cons (ps_fld (pv 0) (pv 1) rfl) (pss_cons (ps_fld (pv 0) pe_int rfl) (pss_cons (ps_fld (pv 0) (pe_disp (pps_cons pe_str pe_int (pps_cons pe_str pe_int pps_nil)) rfl rfl (by simp) (by decide)) rfl)
    (pss_cons (ps_fld (pv 0) pe_int rfl) (pss_cons (ps_fld (pv 0) pe_int rfl) (pss_one (ps_fld (pv 0) pe_dnewT rfl)))))), ?_⟩
  refine ⟨_, rfl, _, rfl, wk, C, dx, _, rfl, hw, W.cl, W.nCode, (by show 0 < 1000; decide), ?_⟩
  refine ⟨_, rfl, wk, C, dx, _, rfl, upd_same, W.cl, W.nAt, (by show 1 < 1000; decide), ?_⟩
  intro hd nhd
  have fA : Fx [wk] H (upd (upd H wk (.ins C dx (putF "code" (.ref cd) []))) wk (.ins C dx (putF "at" (.int 0) (putF "code" (.ref cd) [])))) := (Fx.upd (by simp)).trans (Fx.upd (by simp))
  have eA : (upd (upd H wk (.ins C dx (putF "code" (.ref cd) []))) wk (.ins C dx (putF "at" (.int 0) (putF "code" (.ref cd) [])))) wk = some (.ins C dx [("code", .ref cd), ("at", .int 0)]) := upd_same
  have nA : ∀ p, p ≠ wk → (upd (upd H wk (.ins C dx (putF "code" (.ref cd) []))) wk (.ins C dx (putF "at" (.int 0) (putF "code" (.ref cd) [])))) p = none → H p = none := fun p n e => by rw [upd_ne n, upd_ne n] at e; exact e
  generalize upd (upd H wk (.ins C dx (putF "code" (.ref cd) []))) wk (.ins C dx (putF "at" (.int 0) (putF "code" (.ref cd) []))) = HA at fA eA nA nhd ⊢
  have nwh : wk ≠ hd := ne_of_none eA nhd
  refine ⟨upd_same, [(Sum.inr "a", .int 0), (Sum.inr "b", .int 0)], rfl, by decide, ?_⟩
  have fB : Fx [wk] HA (upd (upd HA hd (.dK [])) hd (.dK (mergeK [] [(Sum.inr "a", .int 0), (Sum.inr "b", .int 0)]))) := fun p o n e => by
    rw [upd_ne (ne_of_none e nhd), upd_ne (ne_of_none e nhd)]
    exact e
  have eB : (upd (upd HA hd (.dK [])) hd (.dK (mergeK [] [(Sum.inr "a", .int 0), (Sum.inr "b", .int 0)]))) wk = some (.ins C dx [("code", .ref cd), ("at", .int 0)]) := by rw [upd_ne nwh, upd_ne nwh]; exact eA
  have hB : (upd (upd HA hd (.dK [])) hd (.dK (mergeK [] [(Sum.inr "a", .int 0), (Sum.inr "b", .int 0)]))) hd = some (.dK (hv 0 0)) := upd_same
  generalize upd (upd HA hd (.dK [])) hd (.dK (mergeK [] [(Sum.inr "a", .int 0), (Sum.inr "b", .int 0)])) = HB at fB eB hB ⊢
  refine ⟨_, rfl, wk, C, dx, _, rfl, eB, W.cl, W.nHeld, (by show 2 < 1000; decide), ?_⟩
  refine ⟨_, rfl, wk, C, dx, _, rfl, upd_same, W.cl, W.nCnt, (by show 3 < 1000; decide), ?_⟩
  refine ⟨_, rfl, wk, C, dx, _, rfl, upd_same, W.cl, W.nTak, (by show 4 < 1000; decide), ?_⟩
  intro sn nsn
  rw [upd_ne] at nsn
  · rw [upd_ne, upd_ne] at nsn
    · have nws : wk ≠ sn := ne_of_none eB nsn
      have nhs : hd ≠ sn := ne_of_none hB nsn
      refine ⟨_, rfl, wk, C, dx, _, rfl, (by rw [upd_ne nws]; exact upd_same), W.cl, W.nSeen, (by show 5 < 1000; decide), ?_⟩
      have nsnA : HA sn = none := by
        cases z : HA sn with
        | none => rfl
        | some o =>
          have := fB sn o (by simp; exact fun e => nws e.symm) z
          rw [nsn] at this
          cases this
      refine q _ hd sn ?_ (nA hd (fun e => nwh e.symm) nhd) (nA sn (fun e => nws e.symm) nsnA) nhs ⟨upd_same, ?_⟩ ?_
      · intro p o n e
        have n' : p ≠ wk := fun z => n (by simp [z])
        have e1 := fB p o n (fA p o n e)
        rw [upd_ne n', upd_ne (ne_of_none e1 nsn), upd_ne n', upd_ne n', upd_ne n']
        exact e1
      · rw [upd_ne nwh.symm, upd_ne nhs, upd_ne nwh.symm, upd_ne nwh.symm, upd_ne nwh.symm]
        exact hB
      · rw [upd_ne (fun e => nws e.symm), upd_same]
    · intro z
      rw [z, upd_same] at nsn
      cases nsn
    · intro z
      rw [z, upd_same] at nsn
      cases nsn
  · intro z
    rw [z, upd_same] at nsn
    cases nsn
theorem scTI : FnScope ["self", "code", "position", "members", "member"] ["self", "code", "position", "members"] (defScope sTI) := ⟨rfl, rfl, rfl, by decide +kernel, rfl, by decide +kernel, by decide +kernel⟩
theorem ok_TI {f C cW fW : Addr} {fd dW : FuncData} {mc : Value} (F : Fun K "__init__" "TellerWalk.__init__" sTI f fd) (W : TC K C) (gW : mg "Walk" = some (.ref cW)) (r : ClX.CRead K cW mc) (c : PySem.W.findCls K (.ref cW) mc "__init__" = some (.val (.ref fW))) (kW : PySem.W.keepIn K (.ref fW) = true)
    (GW : FnOk P w K mg base CX0 1 fW dW ["self", "code"] (spWI K C)) (bW : Binds K dW ["self", "code"] []) : FnOk P w K mg base CX0 2 f fd ["self", "code", "position", "members"] (spTI K C) := by
  refine F.ok scTI (fun vs H Q E h => ?_) (fun cdv A outer s H vs Q E hr h => ?_)
  · obtain ⟨wk, dx, cd, m, x, ns, rfl, _⟩ := h
    rfl
  obtain ⟨wk, dx, cd, m, x, ns, rfl, hw, hm, hl, q⟩ := h
  have T := W.wc
  refine ⟨_, pss_cons (ps_expr (pe_cfun (pe_gref rfl gW) r c kW GW hr bW .nil pass0 (pa_cons (pv 0) (pa_cons (pv 1) pa_nil))))
    (pss_cons (ps_fld (pv 0) (pv 2) rfl)
    (pss_cons (ps_fld (pv 0) (pe_dc (own := [("member", 4)]) (g := gName 4) (tt := tYes) rfl scTI.nd (pi_list (pv 3)) (blkOk_by (N := ["self", "code", "position", "members", "member"]) (sc := defScope sTI) (by decide +kernel))
      (fun _ _ _ _ _ => pg_name (i := 4) scTI.nd rfl (.inl rfl)) (fun _ _ _ _ _ => pts_nil) (fun _ _ _ _ _ => pv 4) (fun _ _ _ _ _ => pe_bl)) rfl)
    (pss_one (ps_fld (pv 0) pe_dnewK rfl)))), ?_⟩
  refine ⟨rfl, _, rfl, _, rfl, wk, dx, cd, rfl, hw, fun H1 hd sn f1 nhd nsn nhs w1 e1 => ?_⟩
  have hm1 : SqL K H1 m (ns.map V.int) := KeepS.lst (fun a o ho e => f1 a o (by
    intro z
    rw [List.mem_singleton.mp z, hw] at e
    cases e
    exact ho) e) hm
  refine ⟨_, rfl, _, rfl, wk, C, dx, _, rfl, w1.ob, T.cl, W.nPos, (by show 6 < 1000; decide), ?_⟩
  have nwh : wk ≠ hd := fun z => by have := w1.hl; rw [← z, w1.ob] at this; cases this
  have nws : wk ≠ sn := fun z => by rw [← z, w1.ob] at e1; cases e1
  have e2 : (upd H1 wk (.ins C dx (putF "position" (.int x) (wf cd hd sn 0 0 0 [])))) wk = some (.ins C dx (wf cd hd sn 0 0 0 [("position", .int x)])) := upd_same
  have f2 : Fx [wk] H (upd H1 wk (.ins C dx (putF "position" (.int x) (wf cd hd sn 0 0 0 [])))) := f1.trans (Fx.upd (by simp))
  have k2 : KeepS H1 (upd H1 wk (.ins C dx (putF "position" (.int x) (wf cd hd sn 0 0 0 [])))) := KeepS.upd w1.ob (fun z => z)
  have h2 : (upd H1 wk (.ins C dx (putF "position" (.int x) (wf cd hd sn 0 0 0 [])))) hd = some (.dK (hv 0 0)) := by rw [upd_ne nwh.symm]; exact w1.hl
  have n2 : (upd H1 wk (.ins C dx (putF "position" (.int x) (wf cd hd sn 0 0 0 [])))) sn = some (.dT []) := by rw [upd_ne nws.symm]; exact e1
  generalize upd H1 wk (.ins C dx (putF "position" (.int x) (wf cd hd sn 0 0 0 []))) = H2 at e2 f2 k2 h2 n2 ⊢
  have hm2 := k2.lst hm1
  refine ⟨_, rfl, m, rfl, ⟨_, hm2⟩, fun D nD => dc_list (K := K) (a := m) (xs := ns.map V.int) (fun i H' => Same H2 H' ∧ ∃ kvs, H' D = some (.dK kvs) ∧ kvs.length ≤ i ∧ ∀ z : Int, (valV kvs (Sum.inl z : Key)).isSome = decide (z ∈ ns.take i)) ⟨same_new nD _, [], upd_same, by decide, fun z => by simp [valV]⟩ (fun i H' _ ⟨s1, _⟩ => s1.seq hm2) ?_ ?_⟩
  · rintro i y H3 hy ⟨s3, kvs, hk, hkl, hkv⟩
    have hi : i < ns.length := by
      have := (List.getElem?_eq_some_iff.mp hy).1
      rwa [List.length_map] at this
    obtain ⟨n, hn, rfl⟩ : ∃ n, ns[i]? = some n ∧ y = .int n := by
      rw [List.getElem?_map] at hy
      cases e : ns[i]? with
      | none => rw [e] at hy; cases hy
      | some n => rw [e] at hy; exact ⟨n, rfl, by injection hy with hy; exact hy.symm⟩
    refine ⟨rfl, ?_⟩
    dsimp only [tYes]
    rw [if_pos rfl]
    refine ⟨_, rfl, kvs, Sum.inl n, rfl, hk, Nat.lt_of_le_of_lt (Nat.le_trans hkl (Nat.le_trans (Nat.le_of_lt hi) hl)) (by decide), same_upd s3 nD _, _, upd_same, ?_, fun z => ?_⟩
    · unfold putK
      split
      · rw [List.length_map]; omega
      · rw [List.length_append]; show kvs.length + 1 ≤ i + 1; omega
    · rw [valV_put, take_snoc hn]
      by_cases e : z = n
      · subst e
        rw [if_pos rfl]
        simp
      · rw [if_neg (by intro c; injection c with c; exact e c), hkv z]
        simp [e]
  · rintro H3 ⟨s3, kvs, hk, hkl, hkv⟩
    rw [List.length_map, List.take_length] at hkv
    have nwD : wk ≠ D := ne_of_none e2 nD
    refine ⟨_, rfl, wk, C, dx, _, rfl, s3 _ _ e2, T.cl, W.nPre, (by show 7 < 1000; decide), ?_⟩
    have h3 := s3 _ _ h2
    have n3 := s3 _ _ n2
    have f4 : Fx [wk] H (upd H3 wk (.ins C dx (putF "present" (.ref D) (wf cd hd sn 0 0 0 [("position", .int x)])))) := (f2.trans (Fx.of s3)).trans (Fx.upd (by simp))
    have e4 : (upd H3 wk (.ins C dx (putF "present" (.ref D) (wf cd hd sn 0 0 0 [("position", .int x)])))) wk = some (.ins C dx (wf cd hd sn 0 0 0 [("position", .int x), ("present", .ref D)])) := upd_same
    have h4 : (upd H3 wk (.ins C dx (putF "present" (.ref D) (wf cd hd sn 0 0 0 [("position", .int x)])))) hd = some (.dK (hv 0 0)) := by rw [upd_ne nwh.symm]; exact h3
    have n4 : (upd H3 wk (.ins C dx (putF "present" (.ref D) (wf cd hd sn 0 0 0 [("position", .int x)])))) sn = some (.dT []) := by rw [upd_ne nws.symm]; exact n3
    have d4 : (upd H3 wk (.ins C dx (putF "present" (.ref D) (wf cd hd sn 0 0 0 [("position", .int x)])))) D = some (.dK kvs) := by rw [upd_ne nwD.symm]; exact hk
    generalize upd H3 wk (.ins C dx (putF "present" (.ref D) (wf cd hd sn 0 0 0 [("position", .int x)]))) = H4 at e4 f4 h4 n4 d4 ⊢
    intro qs nqs
    have nwq : wk ≠ qs := ne_of_none e4 nqs
    have s5 : Same H4 (upd H4 qs (.dK [])) := same_new nqs _
    have q5 : (upd H4 qs (.dK [])) qs = some (.dK []) := upd_same
    generalize upd H4 qs (.dK []) = H5 at s5 q5 ⊢
    refine ⟨_, rfl, wk, C, dx, _, rfl, s5 _ _ e4, T.cl, W.nQue, (by show 8 < 1000; decide), ?_⟩
    have free : ∀ p, p ≠ wk → H4 p = none → H p = none := fun p n e => by
      cases z : H p with
      | none => rfl
      | some o =>
        have := f4 p o (by simp; exact n) z
        rw [e] at this
        cases this
    have freeD : H D = none := by
      cases z : H D with
      | none => rfl
      | some o =>
        have := f2 D o (by simp; exact fun e => nwD e.symm) z
        rw [nD] at this
        cases this
    have nwh' : hd ≠ wk := nwh.symm
    refine q _ hd sn D qs ((f4.trans (Fx.of s5)).trans (Fx.upd (by simp))) nhd nsn freeD (free qs (fun e => nwq e.symm) nqs) ⟨⟨upd_same, ?_⟩, ⟨kvs, ?_, hkv⟩, ?_, fun e => ?_, fun e => ?_⟩ ?_
    · rw [upd_ne nwh']; exact s5 _ _ h4
    · rw [upd_ne nwD.symm]; exact s5 _ _ d4
    · rw [upd_ne nwq.symm]; exact q5
    · rw [e, nqs] at d4; cases d4
    · rw [e, nD] at h2; cases h2
    · rw [upd_ne nws.symm]; exact s5 _ _ n4
theorem scPl : FnScope ["self", "sign", "term"] ["self", "sign", "term"] (defScope sPl) := ⟨rfl, rfl, rfl, by decide +kernel, rfl, by decide +kernel, by decide +kernel⟩
theorem ok_Pl {f C : Addr} {fd : FuncData} (F : Fun K "place_of" "TellerWalk.place_of" sPl f fd) (W : TC K C) (MW : MCal P w K mg base 1 C "worth" ["self", "term"] (spWorth K C)) : FnOk P w K mg base CX0 2 f fd ["self", "sign", "term"] (spPl K C) := by
  refine F.ok scPl (fun vs H Q E h => ?_) (fun cdv A outer s H vs Q E hr h => ?_)
  · obtain ⟨wk, dx, cd, hd, sn, pr, qs, pc, a, b, t, x, g, v, d, rfl, _⟩ := h
    rfl
  obtain ⟨wk, dx, cd, hd, sn, pr, qs, pc, a, b, t, x, g, v, d, rfl, hw, hdv, ht, hg, q⟩ := h
  have T := W.wc
  have hn := noM_T x pr qs
  refine ⟨_, pss_cons (ps_if (pt_cmpR op_eq (pv 1) pe_str (nomark _)) (pss_one (ps_ret (pe_op op_add (pe_fld (pv 0) rfl) (pe_meth (pv 0) T.cl MW.m MW.G hr MW.b .nil pass0 (pa_cons (pv 2) pa_nil))))) pss_nil)
    (pss_cons (ps_if (pt_cmpR op_eq (pv 1) pe_str (nomark _)) (pss_one (ps_ret (pe_op op_sub (pe_fld (pv 0) rfl) (pe_meth (pv 0) T.cl MW.m MW.G hr MW.b .nil pass0 (pa_cons (pv 2) pa_nil))))) pss_nil)
    (pss_one (ps_ret (pe_meth (pv 0) T.cl MW.m MW.G hr MW.b .nil pass0 (pa_cons (pv 2) pa_nil))))), ?_⟩
  refine ⟨_, rfl, rfl, _, rfl, ?_⟩
  rcases hg with rfl | rfl | rfl
  · refine strT ⟨_, rfl, wk, C, dx, _, _, rfl, hw.ob, T.cl, W.nPos, rfl, _, rfl, wk, dx, _, rfl, hw.ob, hn.1, _, rfl, ?_⟩
    exact ⟨wk, dx, cd, hd, sn, pc, a, b, 0, t, _, v, d, rfl, hw, hdv, ht, _, _, rfl, rfl, q⟩
  · refine strF (by decide +kernel) ⟨_, rfl, rfl, _, rfl, strT ⟨_, rfl, wk, C, dx, _, _, rfl, hw.ob, T.cl, W.nPos, rfl, _, rfl, wk, dx, _, rfl, hw.ob, hn.1, _, rfl, ?_⟩⟩
    exact ⟨wk, dx, cd, hd, sn, pc, a, b, 0, t, _, v, d, rfl, hw, hdv, ht, _, _, rfl, rfl, q⟩
  · refine strF (by decide +kernel) ⟨_, rfl, rfl, _, rfl, strF (by decide +kernel) ⟨_, rfl, wk, dx, _, rfl, hw.ob, hn.1, _, rfl, ?_⟩⟩
    exact ⟨wk, dx, cd, hd, sn, pc, a, b, 0, t, _, v, d, rfl, hw, hdv, ht, q⟩
theorem scAsk : FnScope ["self", "instruction", "sign", "term", "variable", "place"] ["self", "instruction"] (defScope sAsk) := ⟨rfl, rfl, rfl, by decide +kernel, rfl, by decide +kernel, by decide +kernel⟩
theorem scAP : FnScope ["self"] ["self"] (defScope sAP) := ⟨rfl, rfl, rfl, by decide +kernel, rfl, by decide +kernel, by decide +kernel⟩
theorem ok_AP {f C : Addr} {fd : FuncData} (F : Fun K "asked_places" "TellerWalk.asked_places" sAP f fd) (W : TC K C) (ms : mg "sorted" = none) (ml : mg "list" = none) : FnOk P w K mg base CX0 1 f fd ["self"] (spAP K C) := by
  refine F.ok scAP (fun vs H Q E h => ?_) (fun cdv A outer s H vs Q E hr h => ?_)
  · obtain ⟨wk, dx, cd, hd, sn, pr, qs, pc, a, b, t, x, mem, ps, rfl, _⟩ := h
    rfl
  obtain ⟨wk, dx, cd, hd, sn, pr, qs, pc, a, b, t, x, mem, ps, rfl, hw, q⟩ := h
  have T := W.wc
  refine ⟨_, pss_one (ps_ret (pe_callB cr_sortedI (by rfl) ms (by decide +kernel) (pa_cons (pe_callTy (call_list_dK rfl) (by rfl) ml (by decide +kernel) (pa_cons (pe_fld (pv 0) rfl) pa_nil)) pa_nil))), ?_⟩
  refine ⟨_, rfl, wk, C, dx, _, _, rfl, hw.wa.ob, T.cl, W.nQue, rfl, qs, _, rfl, hw.que, fun l nl => ?_⟩
  have e : (qD ps).map (fun kv => kV kv.1) = ps.map V.int := by
    unfold qD
    rw [List.map_map]
    rfl
  rw [e]
  have s1 := same_new nl (.lst (ps.map V.int))
  refine ⟨l, ps, rfl, SqL.of upd_same, fun ns p hp hs np => ?_⟩
  rw [isort_unique hp hs]
  exact q _ p (s1.trans (same_new np _)) (s1.free np) upd_same
end
section
variable {P : Program} {w : World} {K : PySem.W.Frag} {mg : Str → Option Value} {base : Heap}
theorem ok_ask {f C : Addr} {fd : FuncData} (F : Fun K "ask" "TellerWalk.ask" sAsk f fd) (W : TC K C) (MP : MCal P w K mg base 2 C "place_of" ["self", "sign", "term"] (spPl K C)) : FnOk P w K mg base CX0 3 f fd ["self", "instruction"] (spAsk K C) := by
  refine F.ok scAsk (fun vs H Q E h => ?_) (fun cdv A outer s H vs Q E hr h => ?_)
  · obtain ⟨wk, dx, cd, hd, sn, pr, qs, pc, a, b, t, x, mem, ps, v, g, z, d, rfl, _⟩ := h
    rfl
  obtain ⟨wk, dx, cd, hd, sn, pr, qs, pc, a, b, t, x, mem, ps, v, g, z, d, rfl, hw, hdv, hi, hlp, q⟩ := h
  have T := W.wc
  have hu := hu_of hr
  refine ⟨_, pss_cons (ps_asg (pe_slice sl_tup (pv 1) (po_some pe_int) po_none) (pg_tup (by rfl) (pgs_cons (pg_name (i := 2) scAsk.nd rfl (.inl rfl)) (pgs_cons (pg_name (i := 3) scAsk.nd rfl (.inl rfl)) (pgs_cons (pg_name (i := 4) scAsk.nd rfl (.inl rfl)) pgs_nil)))))
    (pss_cons (ps_set (i := 5) scAsk.nd rfl (.inl rfl) (pe_meth (pv 0) T.cl MP.m MP.G hr MP.b .nil pass0 (pa_cons (pv 2) (pa_cons (pv 3) pa_nil))))
    (pss_cons (ps_if (pt_cmpR op_ge (pv 5) pe_int (nomark _)) (pss_one (ps_dput hu (pe_fld (pv 0) rfl) (pv 5) pe_bl rfl)) pss_nil)
    (pss_one (ps_dput hu (pe_fld (pv 0) rfl) (pv 4) (pe_ifExp (PW.pt (pw_and (pt_cmpR op_ge (pv 5) pe_int (nomark _)) (pw_and1 (pt_cmp (pc_din hu (pv 5) (pe_fld (pv 0) rfl)))))) pe_int pe_int) rfl)))), ?_⟩
  obtain ⟨p, xr, rfl, hs, ha⟩ := ins_inv hdv
  obtain ⟨x0, y, x2, rfl, hx0, hy, hx2⟩ := dp_trip ha
  cases hx0
  cases hx2
  obtain ⟨_, hg, ht, hz⟩ := hi
  refine ⟨_, rfl, _, rfl, p, _, rfl, hs, not_whole1 _ _, fun r nr => ?_⟩
  rw [cut1]
  have s3 : Same H (upd H r (.tup [.str g, y, .str z])) := same_new nr _
  have er : (upd H r (.tup [.str g, y, .str z])) r = some (.tup [.str g, y, .str z]) := upd_same
  generalize upd H r (.tup [.str g, y, .str z]) = H3 at s3 er ⊢
  have e3 := s3 _ _ hw.wa.ob
  have h3 := s3 _ _ hw.wa.hl
  obtain ⟨kvs, hpre, hmem⟩ := hw.pre
  have p3 := s3 _ _ hpre
  have q3 := s3 _ _ hw.que
  refine ⟨r, _, rfl, SqT.of er, rfl, _, _, rfl, _, _, rfl, _, _, rfl, rfl, ?_⟩
  refine ⟨_, rfl, wk, dx, _, rfl, e3, rfl, _, rfl, _, rfl, ?_⟩
  refine ⟨wk, dx, cd, hd, sn, pr, qs, pc, a, b, t, x, g, y, d, rfl, ⟨e3, h3⟩, dp_mono s3 _ _ hy, ht, hg, ?_⟩
  refine ⟨_, rfl, _, _, rfl, rfl, _, rfl, ?_⟩
  have nwh : hd ≠ wk := fun z => by rw [z, e3] at h3; cases h3
  have nwq : qs ≠ wk := fun z => by rw [z, e3] at q3; cases q3
  generalize place x a b g d = pl at q ⊢
  by_cases c0 : 0 ≤ pl
  · refine ite2 (fun _ => ?_) (fun c => absurd (decide_eq_true (by show (0 : Int) ≤ pl; exact c0)) c)
    refine ⟨_, rfl, wk, C, dx, _, _, rfl, e3, T.cl, W.nQue, rfl, _, rfl, qs, _, rfl, DPut.k (k := Sum.inl pl) q3 (by unfold qD; rw [List.length_map]; exact Nat.lt_of_le_of_lt hlp (by decide)), ?_⟩
    rw [qD_put]
    have e4 : (upd H3 qs (.dK (qD (putQ pl ps)))) wk = some (.ins C dx (wf cd hd sn pc 0 t (exT x pr qs))) := by rw [upd_ne nwq.symm]; exact e3
    have f4 : Fx [hd, qs] H (upd H3 qs (.dK (qD (putQ pl ps)))) := (Fx.of s3).trans (Fx.upd (by simp))
    -- the held dict and the questions are two dicts: told apart by their keys where they might be one
    by_cases nhq : hd = qs
    · exfalso
      rw [nhq, q3] at h3
      injection h3 with h3
      injection h3 with h3
      cases ps with
      | nil => cases h3
      | cons p0 r0 =>
        injection h3 with h3 _
        injection h3 with h3 _
        cases h3
    have h4 : (upd H3 qs (.dK (qD (putQ pl ps)))) hd = some (.dK (hv a b)) := by rw [upd_ne nhq]; exact h3
    have q4 : (upd H3 qs (.dK (qD (putQ pl ps)))) qs = some (.dK (qD (putQ pl ps))) := upd_same
    by_cases npq : pr = qs
    · -- never: the present members keep their own dict
      exact absurd npq (hw.apart).1
    have p4 : (upd H3 qs (.dK (qD (putQ pl ps)))) pr = some (.dK kvs) := by rw [upd_ne npq]; exact p3
    generalize upd H3 qs (.dK (qD (putQ pl ps))) = H4 at e4 f4 h4 q4 p4 ⊢
    rw [if_pos c0] at q
    refine ⟨_, rfl, _, _, rfl, rfl, _, rfl, ?_⟩
    refine ite2 (fun _ => ?_) (fun c => absurd (decide_eq_true (by show (0 : Int) ≤ pl; exact c0)) c)
    refine ⟨_, rfl, _, rfl, wk, C, dx, _, _, rfl, e4, T.cl, W.nPre, rfl, pr, _, rfl, DGet.k (k := Sum.inl pl) p4, _, rfl, ?_⟩
    rw [hmem pl]
    have fin : ∀ n : Int, n = (if 0 ≤ pl ∧ mem pl = true then 1 else 0) → Q .non (upd H4 hd (.dK (putK (hv a b) (Sum.inr z : Key) (.int n)))) := by
      intro n en
      subst en
      refine q _ (f4.trans (Fx.upd (by simp))) ⟨⟨?_, ?_⟩, ⟨kvs, ?_, hmem⟩, ?_, hw.apart⟩
      · rw [upd_ne nwh.symm]; exact e4
      · rw [upd_same, hv_put hz]
      · rw [upd_ne (hw.apart).2.symm]; exact p4
      · rw [upd_ne (fun e => nhq e.symm)]; exact q4
    cases hm : mem pl with
    | true => exact iteT ⟨_, rfl, wk, C, dx, _, _, rfl, e4, T.cl, T.nHeld, rfl, _, rfl, hd, _, rfl, DPut.k (k := Sum.inr z) h4 (by show 2 < sizeLine; decide), fin 1 (by rw [if_pos ⟨c0, hm⟩])⟩
    | false => exact iteF ⟨_, rfl, wk, C, dx, _, _, rfl, e4, T.cl, T.nHeld, rfl, _, rfl, hd, _, rfl, DPut.k (k := Sum.inr z) h4 (by show 2 < sizeLine; decide), fin 0 (by rw [if_neg (fun c => by rw [hm] at c; cases c.2)])⟩
  · refine ite2 (fun c => absurd (of_decide_eq_true c) (by show ¬ (0 : Int) ≤ pl; exact c0)) (fun _ => ?_)
    rw [if_neg c0] at q
    refine ⟨_, rfl, _, _, rfl, rfl, _, rfl, ?_⟩
    refine ite2 (fun c => absurd (of_decide_eq_true c) (by show ¬ (0 : Int) ≤ pl; exact c0)) (fun _ => iteF ?_)
    refine ⟨_, rfl, wk, C, dx, _, _, rfl, e3, T.cl, T.nHeld, rfl, _, rfl, hd, _, rfl, DPut.k (k := Sum.inr z) h3 (by show 2 < sizeLine; decide), ?_⟩
    have nhq : ¬ hd = qs := by
      intro nhq
      rw [nhq, q3] at h3
      injection h3 with h3
      injection h3 with h3
      cases ps with
      | nil => cases h3
      | cons p0 r0 =>
        injection h3 with h3 _
        injection h3 with h3 _
        cases h3
    refine q _ ((Fx.of s3).trans (Fx.upd (by simp))) ⟨⟨?_, ?_⟩, ⟨kvs, ?_, hmem⟩, ?_, hw.apart⟩
    · rw [upd_ne nwh.symm]; exact e3
    · rw [upd_same, hv_put hz, if_neg (fun c => c0 c.1)]
    · rw [upd_ne (hw.apart).2.symm]; exact p3
    · rw [upd_ne (fun e => nhq e.symm)]; exact q3
end
structure S3 where
  pc : Nat
  a : Int
  b : Int
deriving DecidableEq
/-- what comes of a run -/
inductive Res where
  | ans (v t : Int) (ps : List Int)
  | ended (t : Int) (ps : List Int)
  | silent (f s : Int) (ps : List Int)
  | run (ps : List Int)
def lookS (s : S3) (seen : List (S3 × Int)) : Option Int := (seen.find? fun e => decide (e.1 = s)).map (·.2)
def over (lim : Option Int) (t : Int) : Bool := match lim with
  | none => false
  | some L => decide (L < t)
def askQ (x : Int) (s : S3) (i : Ins) (ps : List Int) : List Int := match i with
  | .ask g d _ => if 0 ≤ place x s.a s.b g d then putQ (place x s.a s.b g d) ps else ps
  | _ => ps
def heldS (x : Int) (mem : Int → Bool) (s : S3) (i : Ins) : Int × Int := match i with
  | .ask g d z => vput z (if 0 ≤ place x s.a s.b g d ∧ mem (place x s.a s.b g d) = true then 1 else 0) (s.a, s.b)
  | i => i.held s.a s.b
def nextS (x : Int) (mem : Int → Bool) (s : S3) (i : Ins) : S3 := ⟨i.next s.pc s.a s.b, (heldS x mem s i).1, (heldS x mem s i).2⟩
def ansOf : Ins → Option Int
  | .ans v => some v
  | _ => none
def repS (lim : Option Int) (f t : Int) (ps : List Int) : Res := match lim with
  | none => .silent f t ps
  | some _ => .run ps
def loopF (code : List Ins) (x : Int) (mem : Int → Bool) (lim : Option Int) : Nat → S3 → Int → List (S3 × Int) → List Int → Res
  | 0, _, _, _, ps => .run ps
  | n + 1, s, t, seen, ps => match lookS s seen with
    | some f => repS lim f t ps
    | none => match code[s.pc]? with
      | none => .ended t ps
      | some i => if over lim (t + i.cost) = true then .run ps else match ansOf i with
        | some v => .ans v (t + i.cost) ps
        | none => loopF code x mem lim n (nextS x mem s i) (t + i.cost) (seen ++ [(s, t)]) (askQ x s i ps)
def fuel (code : List Ins) : Nat := code.length * 256 + 1
def runF (code : List Ins) (x : Int) (mem : Int → Bool) (lim : Option Int) : Res := loopF code x mem lim (fuel code) ⟨0, 0, 0⟩ 0 [] []
/-! ### at most so many states -/
def enc (s : S3) : Nat := (s.pc * 16 + s.a.toNat) * 16 + s.b.toNat
def okS3 (code : List Ins) (s : S3) : Prop := s.pc < code.length ∧ in16 s.a s.b
theorem enc_lt {code : List Ins} {s : S3} (h : okS3 code s) : enc s < code.length * 256 := by
  obtain ⟨h1, ⟨h2, h3⟩, h4, h5⟩ := h
  unfold enc
  omega
theorem enc_inj {code : List Ins} {s s' : S3} (h : okS3 code s) (h' : okS3 code s') (e : enc s = enc s') : s = s' := by
  obtain ⟨pc, a, b⟩ := s
  obtain ⟨pc', a', b'⟩ := s'
  obtain ⟨h1, ⟨h2, h3⟩, h4, h5⟩ := h
  obtain ⟨h1', ⟨h2', h3'⟩, h4', h5'⟩ := h'
  unfold enc at e
  simp only at h1 h2 h3 h4 h5 h1' h2' h3' h4' h5' e
  have e1 : pc = pc' := by omega
  have e2 : a = a' := by omega
  have e3 : b = b' := by omega
  rw [e1, e2, e3]
theorem few_states {code : List Ins} {ss : List S3} (hn : ss.Nodup) (h : ∀ s ∈ ss, okS3 code s) : ss.length ≤ code.length * 256 := by
  have h1 : (ss.map enc).Nodup := by
    induction ss with
    | nil => exact List.nodup_nil
    | cons s r ih =>
      rw [List.nodup_cons] at hn
      rw [List.map_cons, List.nodup_cons]
      refine ⟨fun m => ?_, ih hn.2 fun x m => h x (List.mem_cons_of_mem _ m)⟩
      obtain ⟨s', ms, e⟩ := List.mem_map.mp m
      have := enc_inj (h s' (List.mem_cons_of_mem _ ms)) (h s (by simp)) e
      exact hn.1 (this ▸ ms)
  have h2 : ss.map enc ⊆ List.range (code.length * 256) := by
    intro n m
    obtain ⟨s, ms, rfl⟩ := List.mem_map.mp m
    exact List.mem_range.mpr (enc_lt (h s ms))
  have := List.Nodup.length_le_of_subset h1 h2
  rwa [List.length_map, List.length_range] at this
theorem lookS_none {s : S3} {seen : List (S3 × Int)} (h : lookS s seen = none) : s ∉ seen.map (·.1) := by
  intro m
  obtain ⟨e, me, es⟩ := List.mem_map.mp m
  unfold lookS at h
  rw [Option.map_eq_none_iff, List.find?_eq_none] at h
  have := h e me
  simp [es] at this
/-! ### the dict of states -/
def keyOf (s : S3) : List Key := keyS s.pc s.a s.b
theorem keyOf_inj {s s' : S3} (h : keyOf s = keyOf s') : s = s' := by
  obtain ⟨pc, a, b⟩ := s
  obtain ⟨pc', a', b'⟩ := s'
  unfold keyOf keyS at h
  injection h with h1 h
  injection h with h2 h
  injection h with h3 h
  injection h1 with h1
  injection h2 with h2
  injection h3 with h3
  simp only at h1 h2 h3
  have e1 : pc = pc' := by omega
  rw [e1, h2, h3]
inductive SeenR (H : Hp) : List (List Key × V) → List (S3 × Int) → Prop
  | nil : SeenR H [] []
  | cons {s : S3} {t : Int} {r : Addr} {kvs : List (List Key × V)} {seen : List (S3 × Int)} : H r = some (.tup [.int t, .int 0]) → SeenR H kvs seen → SeenR H ((keyOf s, .ref r) :: kvs) ((s, t) :: seen)
theorem SeenR.len {H : Hp} : ∀ {kvs : List (List Key × V)} {seen : List (S3 × Int)}, SeenR H kvs seen → kvs.length = seen.length
  | _, _, .nil => rfl
  | _, _, .cons _ h => by rw [List.length_cons, List.length_cons, h.len]
theorem SeenR.refs {H : Hp} : ∀ {kvs : List (List Key × V)} {seen : List (S3 × Int)}, SeenR H kvs seen → ∀ p ∈ kvs, ∃ r, p.2 = .ref r
  | _, _, .nil => fun p m => nomatch m
  | _, _, .cons _ h => fun p m => by
    rcases List.mem_cons.mp m with rfl | m
    · exact ⟨_, rfl⟩
    · exact h.refs p m
theorem SeenR.keep {H H' : Hp} (k : KeepS H H') : ∀ {kvs : List (List Key × V)} {seen : List (S3 × Int)}, SeenR H kvs seen → SeenR H' kvs seen
  | _, _, .nil => .nil
  | _, _, .cons e h => .cons (k _ _ trivial e) (h.keep k)
theorem SeenR.snoc {H : Hp} {s : S3} {t : Int} {r : Addr} (e : H r = some (.tup [.int t, .int 0])) : ∀ {kvs : List (List Key × V)} {seen : List (S3 × Int)}, SeenR H kvs seen → SeenR H (kvs ++ [(keyOf s, .ref r)]) (seen ++ [(s, t)])
  | _, _, .nil => .cons e .nil
  | _, _, .cons e' h => .cons e' (h.snoc e)
theorem SeenR.look {H : Hp} (s : S3) : ∀ {kvs : List (List Key × V)} {seen : List (S3 × Int)}, SeenR H kvs seen →
    (valV kvs (keyOf s) = none ∧ lookS s seen = none) ∨ ∃ r t, valV kvs (keyOf s) = some (.ref r) ∧ lookS s seen = some t ∧ H r = some (.tup [.int t, .int 0])
  | _, _, .nil => .inl ⟨rfl, rfl⟩
  | _, _, .cons (s := s0) (t := t0) (r := r0) (kvs := kvs) (seen := seen) e h => by
    by_cases c : s0 = s
    · subst c
      refine .inr ⟨r0, t0, valV_pos rfl, ?_, e⟩
      simp [lookS]
    · have e1 : lookS s ((s0, t0) :: seen) = lookS s seen := by simp [lookS, List.find?_cons, c]
      have e2 : valV ((keyOf s0, V.ref r0) :: kvs) (keyOf s) = valV kvs (keyOf s) := valV_neg (fun z => c (keyOf_inj z))
      rw [e1, e2]
      exact h.look s
/-! ### the object that tells it -/
def resOut : Res → Str
  | .ans _ _ _ => "answered"
  | .ended _ _ => "ended"
  | .silent _ _ _ => "silent"
  | .run _ => "running"
def resAns : Res → V
  | .ans v _ _ => .int v
  | _ => .non
def resLen : Res → V
  | .ans _ t _ => .int t
  | .ended t _ => .int t
  | _ => .non
def resFst : Res → V
  | .silent f _ _ => .int f
  | _ => .non
def resSnd : Res → V
  | .silent _ s _ => .int s
  | _ => .non
def resPs : Res → List Int
  | .ans _ _ ps => isort ps
  | .ended _ ps => isort ps
  | .silent _ _ ps => isort ps
  | .run ps => isort ps
def rf (o : Str) (an l f s : V) (as : Addr) : List (Str × V) := [("outcome", .str o), ("answer", an), ("length", l), ("first", f), ("second", s), ("asked", .ref as)]
def RunV (H : Hp) (C r dx as : Addr) (o : Str) (an l f s : V) (ns : List Int) : Prop := H r = some (.ins C dx (rf o an l f s as)) ∧ H as = some (.lst (ns.map V.int))
def RunA (H : Hp) (C r : Addr) (R : Res) : Prop := ∃ dx as, RunV H C r dx as (resOut R) (resAns R) (resLen R) (resFst R) (resSnd R) (resPs R)
/-- the same, with a list of its own -/
def RunN (H H' : Hp) (C r : Addr) (R : Res) : Prop := ∃ dx as, H as = none ∧ RunV H' C r dx as (resOut R) (resAns R) (resLen R) (resFst R) (resSnd R) (resPs R)
theorem RunN.back {H0 H H' : Hp} {C r : Addr} {R : Res} (s : Same H0 H) (h : RunN H H' C r R) : RunN H0 H' C r R := by
  obtain ⟨dx, as, n, rv⟩ := h
  exact ⟨dx, as, s.free n, rv⟩
abbrev sRI : Stmt := inClass (top 38) 0
abbrev sRep : Stmt := top 41
abbrev sTR : Stmt := top 40
abbrev psR : List Str := ["self", "outcome", "asked", "answer", "length", "first", "second"]
def limV : Option Int → V
  | none => .non
  | some L => .int L
def spRI (K : PySem.W.Frag) (C : Addr) : Sp := fun vs H Q _ => ∃ (r dx q : Addr) (o : Str) (an l f s : V) (ns : List Int), vs = [.ref r, .str o, .ref q, an, l, f, s] ∧ H r = some (.ins C dx []) ∧ SqL K H q (ns.map V.int) ∧
  ∀ H' as, Fx [r] H H' → H as = none → RunV H' C r dx as o an l f s ns → Q .non H'
/-- the class Run, its names and its calls -/
structure RCl (P : Program) (w : World) (K : PySem.W.Frag) (mg : Str → Option Value) (base : Heap) where
  C : Addr
  fI : Addr
  dI : FuncData
  g : mg "Run" = some (.ref C)
  M : Mk K C fI
  G : FnOk P w K mg base CX0 1 fI dI psR (spRI K C)
  kE : ∃ g, KBn K dI psR 3 ["length"] g (fun vs zs => vs ++ ([V.non] ++ (zs ++ [V.non, V.non])))
  kA : ∃ g, KBn K dI psR 3 ["answer", "length"] g (fun vs zs => vs ++ (zs ++ [V.non, V.non]))
  kS : ∃ g, KBn K dI psR 3 ["first", "second"] g (fun vs zs => vs ++ ([V.non, V.non] ++ zs))
  kR : ∃ ds, Vals [V.non, V.non, V.non, V.non] ds ∧ Binds K dI psR ds
structure RNo (K : PySem.W.Frag) (C : Addr) : Prop where
  cl : Cls K C
  nO : NoAttr K C "outcome"
  nA : NoAttr K C "answer"
  nL : NoAttr K C "length"
  nF : NoAttr K C "first"
  nS : NoAttr K C "second"
  nQ : NoAttr K C "asked"
def spRep (K : PySem.W.Frag) (C CR : Addr) : Sp := fun vs H Q _ => ∃ (wk dx cd hd sn pr qs : Addr) (pc : Nat) (a b t x : Int) (mem : Int → Bool) (ps : List Int) (f : Int) (lim : Option Int), vs = [.ref wk, .int f, limV lim] ∧ TkA K H C wk dx cd hd sn pr qs pc a b t x mem ps ∧
  ∀ H' r, Same H H' → H r = none → RunN H H' CR r (repS lim f t ps) → Q (.ref r) H'
def spTR (K : PySem.W.Frag) (CR : Addr) : Sp := fun vs H Q _ => ∃ (cd m : Addr) (x : Int) (lim : Option Int) (xs : List V) (code : List Ins) (ns : List Int), vs = [.ref cd, .int x, .ref m, limV lim] ∧ SqL K H cd xs ∧ DpAll K H xs (code.map Ins.toD) ∧ (∀ i ∈ code, i.ok "teller") ∧ code.length ≤ 100 ∧ SqL K H m (ns.map V.int) ∧ ns.length ≤ 10000 ∧
  ∀ H' r, Same H H' → H r = none → RunN H H' CR r (runF code x (fun z => decide (z ∈ ns)) lim) → Q (.ref r) H'
/-- the new object's place is no place of before -/
theorem made_same {H H' : Hp} {x dx C : Addr} (nx : H x = none) (ndx : H dx = none) (f : Fx [x] (upd (upd H dx (.own x)) x (.ins C dx [])) H') : Same H H' := fun p o e => by
  have h1 : p ≠ x := ne_of_none e nx
  refine f p o (by simp; exact h1) ?_
  rw [upd_ne h1, upd_ne (ne_of_none e ndx)]
  exact e
theorem made_same0 {H : Hp} {x dx C : Addr} (nx : H x = none) (ndx : H dx = none) : Same H (upd (upd H dx (.own x)) x (.ins C dx [])) := made_same nx ndx fun p o _ e => e
section
variable {P : Program} {w : World} {K : PySem.W.Frag} {mg : Str → Option Value} {base : Heap}
theorem scRI : FnScope psR psR (defScope sRI) := ⟨rfl, rfl, rfl, by decide +kernel, rfl, by decide +kernel, by decide +kernel⟩
theorem ok_RI {f C : Addr} {fd : FuncData} {dvs : List V} {kws : List (Str × V)} (F : FunD K "__init__" "Run.__init__" (defArgs sRI) (defBody sRI) (defScope sRI) dvs kws f fd) (N : RNo K C) (ml : mg "list" = none) : FnOk P w K mg base CX0 1 f fd psR (spRI K C) := by
  refine F.ok scRI (fun vs H Q E h => ?_) (fun cdv A outer s H vs Q E hr h => ?_)
  · obtain ⟨r, dx, q, o, an, l, f, s, ns, rfl, _⟩ := h
    rfl
  obtain ⟨r, dx, q, o, an, l, f, s, ns, rfl, hr0, hq, k⟩ := h
  refine ⟨_, pss_cons (ps_fld (pv 0) (pv 1) rfl) (pss_cons (ps_fld (pv 0) (pv 3) rfl) (pss_cons (ps_fld (pv 0) (pv 4) rfl) (pss_cons (ps_fld (pv 0) (pv 5) rfl) (pss_cons (ps_fld (pv 0) (pv 6) rfl)
    (pss_one (ps_fld (pv 0) (pe_callTy call_list_of (by rfl) ml (by decide +kernel) (pa_cons (pv 2) pa_nil)) rfl)))))), ?_⟩
  refine ⟨_, rfl, _, rfl, r, C, dx, _, rfl, hr0, N.cl, N.nO, (by show 0 < 1000; decide), ?_⟩
  refine ⟨_, rfl, _, rfl, r, C, dx, _, rfl, upd_same, N.cl, N.nA, (by show 1 < 1000; decide), ?_⟩
  refine ⟨_, rfl, _, rfl, r, C, dx, _, rfl, upd_same, N.cl, N.nL, (by show 2 < 1000; decide), ?_⟩
  refine ⟨_, rfl, _, rfl, r, C, dx, _, rfl, upd_same, N.cl, N.nF, (by show 3 < 1000; decide), ?_⟩
  refine ⟨_, rfl, _, rfl, r, C, dx, _, rfl, upd_same, N.cl, N.nS, (by show 4 < 1000; decide), ?_⟩
  have f1 : Fx [r] H (upd (upd (upd (upd (upd H r (.ins C dx (putF "outcome" (.str o) []))) r (.ins C dx (putF "answer" an (putF "outcome" (.str o) [])))) r (.ins C dx (putF "length" l (putF "answer" an (putF "outcome" (.str o) []))))) r (.ins C dx (putF "first" f (putF "length" l (putF "answer" an (putF "outcome" (.str o) [])))))) r (.ins C dx (putF "second" s (putF "first" f (putF "length" l (putF "answer" an (putF "outcome" (.str o) []))))))) :=
    ((((Fx.upd (by simp)).trans (Fx.upd (by simp))).trans (Fx.upd (by simp))).trans (Fx.upd (by simp))).trans (Fx.upd (by simp))
  have e1 : (upd (upd (upd (upd (upd H r (.ins C dx (putF "outcome" (.str o) []))) r (.ins C dx (putF "answer" an (putF "outcome" (.str o) [])))) r (.ins C dx (putF "length" l (putF "answer" an (putF "outcome" (.str o) []))))) r (.ins C dx (putF "first" f (putF "length" l (putF "answer" an (putF "outcome" (.str o) [])))))) r (.ins C dx (putF "second" s (putF "first" f (putF "length" l (putF "answer" an (putF "outcome" (.str o) []))))))) r = some (.ins C dx [("outcome", .str o), ("answer", an), ("length", l), ("first", f), ("second", s)]) := upd_same
  have n1 : ∀ p, p ≠ r → (upd (upd (upd (upd (upd H r (.ins C dx (putF "outcome" (.str o) []))) r (.ins C dx (putF "answer" an (putF "outcome" (.str o) [])))) r (.ins C dx (putF "length" l (putF "answer" an (putF "outcome" (.str o) []))))) r (.ins C dx (putF "first" f (putF "length" l (putF "answer" an (putF "outcome" (.str o) [])))))) r (.ins C dx (putF "second" s (putF "first" f (putF "length" l (putF "answer" an (putF "outcome" (.str o) []))))))) p = none → H p = none := fun p n e => by
    rw [upd_ne n, upd_ne n, upd_ne n, upd_ne n, upd_ne n] at e
    exact e
  generalize upd (upd (upd (upd (upd H r (.ins C dx (putF "outcome" (.str o) []))) r (.ins C dx (putF "answer" an (putF "outcome" (.str o) [])))) r (.ins C dx (putF "length" l (putF "answer" an (putF "outcome" (.str o) []))))) r (.ins C dx (putF "first" f (putF "length" l (putF "answer" an (putF "outcome" (.str o) [])))))) r (.ins C dx (putF "second" s (putF "first" f (putF "length" l (putF "answer" an (putF "outcome" (.str o) [])))))) = H1 at f1 e1 n1 ⊢
  have hq1 : SqL K H1 q (ns.map V.int) := KeepS.lst (fun a u hu e => f1 a u (by
    intro z
    rw [List.mem_singleton.mp z, hr0] at e
    cases e
    exact hu) e) hq
  refine ⟨_, rfl, q, _, rfl, .inl hq1, fun as nas => ?_⟩
  have nra : r ≠ as := ne_of_none e1 nas
  refine ⟨_, rfl, r, C, dx, _, rfl, (by rw [upd_ne nra]; exact e1), N.cl, N.nQ, (by show 5 < 1000; decide), ?_⟩
  refine k _ as ((f1.trans (Fx.of (same_new nas _))).trans (Fx.upd (by simp))) (n1 as (fun z => nra z.symm) nas) ⟨upd_same, ?_⟩
  rw [upd_ne nra.symm, upd_same]
/-- a Run made of asked positions that stand in a list -/
theorem mk_run {CR : Addr} {H2 : Hp} {q : Addr} {ns : List Int} {o : Str} {an l f s : V} {Q : VK} {E : XK} (hq : H2 q = some (.lst (ns.map V.int))) (k : ∀ H' r, Same H2 H' → H2 r = none → (∃ dx as, H2 as = none ∧ RunV H' CR r dx as o an l f s ns) → Q (.ref r) H') :
    ∀ x dx, H2 x = none → H2 dx = none → dx ≠ x → spRI K CR [.ref x, .str o, .ref q, an, l, f, s] (upd (upd H2 dx (.own x)) x (.ins CR dx [])) (fun v H3 => v = .non ∧ Q (.ref x) H3) E := by
  intro x dx nx ndx _
  refine ⟨x, dx, q, o, an, l, f, s, ns, rfl, upd_same, SqL.of (made_same0 nx ndx _ _ hq), fun H' as fx nas rv => ⟨rfl, ?_⟩⟩
  exact k H' x (made_same nx ndx fx) nx ⟨dx, as, (made_same0 nx ndx).free nas, rv⟩
theorem scRep : FnScope ["walk", "first", "limit"] ["walk", "first", "limit"] (defScope sRep) := ⟨rfl, rfl, rfl, by decide +kernel, rfl, by decide +kernel, by decide +kernel⟩
theorem ok_Rep {f C : Addr} {fd : FuncData} (F : Fun K "repeated" "repeated" sRep f fd) (W : TC K C) (RC : RCl P w K mg base) (MA : MCal P w K mg base 1 C "asked_places" ["self"] (spAP K C)) : FnOk P w K mg base CX0 3 f fd ["walk", "first", "limit"] (spRep K C RC.C) := by
  refine F.ok scRep (fun vs H Q E h => ?_) (fun cdv A outer s H vs Q E hr h => ?_)
  · obtain ⟨wk, dx, cd, hd, sn, pr, qs, pc, a, b, t, x, mem, ps, f, lim, rfl, _⟩ := h
    rfl
  obtain ⟨wk, dx, cd, hd, sn, pr, qs, pc, a, b, t, x, mem, ps, f, lim, rfl, hw, q⟩ := h
  have T := W.wc
  have hr1 : Room 1 _ := hr.mono (by decide)
  obtain ⟨gS, kS⟩ := RC.kS
  obtain ⟨dsR, vR, bR⟩ := RC.kR
  refine ⟨_, pss_cons (ps_if (pt_cmpR op_notN (pv 2) pe_non (nomark _)) (pss_one (ps_ret (pe_make RC.M RC.G hr rfl RC.g bR vR pass0 (pa_cons pe_str (pa_cons (pe_meth0 (pv 0) T.cl MA.m MA.G hr1 MA.b .nil pass0) pa_nil))))) pss_nil)
    (pss_one (ps_ret (pe_makeN RC.M RC.G hr rfl RC.g kS pass0 (pa_cons pe_str (pa_cons (pe_meth0 (pv 0) T.cl MA.m MA.G hr1 MA.b .nil pass0) pa_nil)) (pk_cons (pv 1) (pk_cons (pe_fld (pv 0) rfl) pk_nil))))), ?_⟩
  refine ⟨_, rfl, rfl, _, rfl, ?_⟩
  cases lim with
  | some L =>
    refine ite2 (fun _ => ?_) (fun c => absurd (by rw [decide_eq_false (fun z => nomatch z)]; rfl) c)
    refine ⟨_, rfl, wk, dx, _, rfl, hw.wa.ob, rfl, wk, dx, cd, hd, sn, pr, qs, pc, a, b, t, x, mem, ps, rfl, hw, fun H1 p s1 np e1 => ?_⟩
    exact mk_run e1 fun H' r s2 nr rv => q H' r (s1.trans s2) (s1.free nr) (RunN.back s1 rv)
  | none =>
    refine ite2 (fun c => absurd c (by rw [show decide (limV none = V.non) = true from decide_eq_true rfl]; decide)) (fun _ => ?_)
    refine ⟨_, rfl, wk, dx, _, rfl, hw.wa.ob, rfl, wk, dx, cd, hd, sn, pr, qs, pc, a, b, t, x, mem, ps, rfl, hw, fun H1 p s1 np e1 => ?_⟩
    refine ⟨_, rfl, _, rfl, wk, C, dx, _, _, rfl, s1 _ _ hw.wa.ob, T.cl, T.nTak, rfl, rfl, rfl, ?_⟩
    exact mk_run e1 fun H' r s2 nr rv => q H' r (s1.trans s2) (s1.free nr) (RunN.back s1 rv)
end
theorem loopF_eq (code : List Ins) (x : Int) (mem : Int → Bool) (lim : Option Int) (n : Nat) (s : S3) (t : Int) (seen : List (S3 × Int)) (ps : List Int) : loopF code x mem lim (n + 1) s t seen ps = (match lookS s seen with
    | some f => repS lim f t ps
    | none => match code[s.pc]? with
      | none => .ended t ps
      | some i => if over lim (t + i.cost) = true then .run ps else match ansOf i with
        | some v => .ans v (t + i.cost) ps
        | none => loopF code x mem lim n (nextS x mem s i) (t + i.cost) (seen ++ [(s, t)]) (askQ x s i ps)) := rfl
theorem askQ_len (x : Int) (s : S3) (i : Ins) (ps : List Int) : (askQ x s i ps).length ≤ ps.length + 1 := by
  cases i with
  | ask g d z =>
    show (if 0 ≤ place x s.a s.b g d then putQ (place x s.a s.b g d) ps else ps).length ≤ _
    split
    · unfold putQ
      split
      · omega
      · rw [List.length_append]; exact Nat.le_refl _
    · omega
  | _ => exact Nat.le_succ _
theorem heldS16 {x : Int} {mem : Int → Bool} {s : S3} {i : Ins} (hi : i.ok "teller") (h : in16 s.a s.b) : in16 (heldS x mem s i).1 (heldS x mem s i).2 := by
  cases i with
  | ask g d z =>
    refine vput16 h ?_ ?_
    · split <;> omega
    · split <;> omega
  | set v n => exact held16 hi h
  | add v n => exact held16 hi h
  | _ => exact h
theorem grown0 {i : Ins} (hi : i.ok "teller") (a b : Int) : i.grown a b = 0 := by
  cases i with
  | grow t => exact absurd rfl hi.1
  | _ => rfl
theorem TkA.hq {K : PySem.W.Frag} {H : Hp} {C wk dx cd hd sn pr qs : Addr} {pc : Nat} {a b t x : Int} {mem : Int → Bool} {ps : List Int} (h : TkA K H C wk dx cd hd sn pr qs pc a b t x mem ps) : hd ≠ qs := by
  intro e
  have h1 := h.wa.hl
  rw [e, h.que] at h1
  injection h1 with h1
  injection h1 with h1
  cases ps with
  | nil => cases h1
  | cons p0 r0 =>
    injection h1 with h1 _
    injection h1 with h1 _
    cases h1
/-- the state of the loop -/
structure LoopI (K : PySem.W.Frag) (H0 H : Hp) (C wk dx cd hd sn pr qs : Addr) (code : List Ins) (x : Int) (mem : Int → Bool) (lim : Option Int) (R : Res) (m : Nat) (s : S3) (t : Int) (seen : List (S3 × Int)) (ps : List Int) : Prop where
  sm : Same H0 H
  nw : H0 wk = none
  nh : H0 hd = none
  ns : H0 sn = none
  nq : H0 qs = none
  tk : TkA K H C wk dx cd hd sn pr qs s.pc s.a s.b t x mem ps
  se : ∃ kvs, H sn = some (.dT kvs) ∧ SeenR H kvs seen
  nd : (seen.map (·.1)).Nodup
  ok : ∀ e ∈ seen, okS3 code e.1
  i16 : in16 s.a s.b
  pl : ps.length ≤ seen.length
  eq : loopF code x mem lim m s t seen ps = R
  fu : m + seen.length = fuel code
section
variable {P : Program} {w : World} {K : PySem.W.Frag} {mg : Str → Option Value} {base : Heap}
theorem dpAll_at {H : Hp} {xs : List V} {code : List Ins} (h : DpAll K H xs (code.map Ins.toD)) (pc : Nat) : (code[pc]? = none ∧ xs[pc]? = none) ∨ ∃ i v, code[pc]? = some i ∧ xs[pc]? = some v ∧ Dp K H v i.toD := by
  have hl := dpAll_len h
  rw [List.length_map] at hl
  by_cases c : pc < code.length
  · have e : xs[pc]? = some xs[pc] := List.getElem?_eq_getElem (by omega)
    obtain ⟨d, hd, hx⟩ := dpAll_get h e
    rw [List.getElem?_map] at hd
    have e2 : code[pc]? = some code[pc] := List.getElem?_eq_getElem c
    rw [e2] at hd
    have ed : code[pc].toD = d := by injection hd
    subst ed
    exact .inr ⟨code[pc], _, e2, e, hx⟩
  · exact .inl ⟨List.getElem?_eq_none (by omega), List.getElem?_eq_none (by omega)⟩
theorem scTR : FnScope ["code", "position", "members", "limit", "walk", "before", "instruction"] ["code", "position", "members", "limit"] (defScope sTR) := ⟨rfl, rfl, rfl, by decide +kernel, rfl, by decide +kernel, by decide +kernel⟩
theorem ok_TR {f C fI : Addr} {fd dI : FuncData} {dvs : List V} {kws : List (Str × V)} (F : FunD K "teller_run" "teller_run" (defArgs sTR) (defBody sTR) (defScope sTR) dvs kws f fd) (W : TC K C) (gC : mg "TellerWalk" = some (.ref C)) (M : Mk K C fI) (GI : FnOk P w K mg base CX0 2 fI dI ["self", "code", "position", "members"] (spTI K C)) (bI : Binds K dI ["self", "code", "position", "members"] [])
    (RC : RCl P w K mg base) (CC : Cal P w K mg base 1 "cost" ["instruction"] (spCost K)) (CR : Cal P w K mg base 3 "repeated" ["walk", "first", "limit"] (spRep K C RC.C))
    (ME : MCal P w K mg base 1 C "earlier" ["self"] (spEar K C)) (MU : MCal P w K mg base 1 C "upcoming" ["self"] (spUp K C)) (MT : MCal P w K mg base 4 C "take" ["self", "instruction"] (spTake K C)) (MK : MCal P w K mg base 3 C "ask" ["self", "instruction"] (spAsk K C)) (MA : MCal P w K mg base 1 C "asked_places" ["self"] (spAP K C)) :
    FnOk P w K mg base CX0 5 f fd ["code", "position", "members", "limit"] (spTR K RC.C) := by
  refine F.ok scTR (fun vs H Q E h => ?_) (fun cdv A outer s H vs Q E hr h => ?_)
  · obtain ⟨cd, m, x, lim, xs, code, ns, rfl, _⟩ := h
    rfl
  obtain ⟨cd, m, x, lim, xs, code, ns, rfl, hcd, hxs, hok, hcl, hm, hnl, q⟩ := h
  have T := W.wc
  have hr1 : Room 1 _ := hr.mono (by decide)
  have hr2 : Room 2 _ := hr.mono (by decide)
  have hr3 : Room 3 _ := hr.mono (by decide)
  obtain ⟨gE, kE⟩ := RC.kE
  obtain ⟨gA, kA⟩ := RC.kA
  obtain ⟨dsR, vR, bR⟩ := RC.kR
  refine ⟨_, PSs.nox (pss_cons (ps_set (i := 4) scTR.nd rfl (.inl rfl) (pe_make M GI hr3 rfl gC bI .nil pass0 (pa_cons (pv 0) (pa_cons (pv 1) (pa_cons (pv 2) pa_nil)))))
    (pss_one (ps_while PassesOwn.never (pt_val pe_bl)
      (pss_cons (ps_set (i := 5) scTR.nd rfl (.inl rfl) (pe_meth0 (pv 4) T.cl ME.m ME.G hr1 ME.b .nil pass0))
      (pss_cons (ps_if (pt_cmpR op_notN (pv 5) pe_non (nomark _)) (pss_one (ps_ret (pe_call CR.G hr3 rfl CR.m CR.kp CR.b .nil pass0 (pa_cons (pv 4) (pa_cons (pe_ix ix_tup (pv 5) pe_int (fun _ _ => rfl)) (pa_cons (pv 3) pa_nil)))))) pss_nil)
      (pss_cons (ps_set (i := 6) scTR.nd rfl (.inl rfl) (pe_meth0 (pv 4) T.cl MU.m MU.G hr1 MU.b .nil pass0))
      (pss_cons (ps_if (pt_cmpR op_isN (pv 6) pe_non (nomark _)) (pss_one (ps_ret (pe_makeN RC.M RC.G hr2 rfl RC.g kE pass0 (pa_cons pe_str (pa_cons (pe_meth0 (pv 4) T.cl MA.m MA.G hr1 MA.b .nil pass0) pa_nil)) (pk_cons (pe_fld (pv 4) rfl) pk_nil)))) pss_nil)
      (pss_cons (ps_if (PW.pt (pw_and (pt_cmpR op_notN (pv 3) pe_non (nomark _)) (pw_and1 (pt_cmpR op_gt (pe_op op_add (pe_fld (pv 4) rfl) (pe_call CC.G hr1 rfl CC.m CC.kp CC.b .nil pass0 (pa_cons (pv 6) pa_nil))) (pv 3) (nomark _))))) (pss_one (ps_ret (pe_make RC.M RC.G hr2 rfl RC.g bR vR pass0 (pa_cons pe_str (pa_cons (pe_meth0 (pv 4) T.cl MA.m MA.G hr1 MA.b .nil pass0) pa_nil))))) pss_nil)
      (pss_cons (ps_expr (pe_meth (pv 4) T.cl MT.m MT.G hr MT.b .nil pass0 (pa_cons (pv 6) pa_nil)))
      (pss_cons (ps_if (pt_cmpR op_eq (pe_ix ix_tup (pv 6) pe_int (fun _ _ => rfl)) pe_str (nomark _)) (pss_one (ps_ret (pe_makeN RC.M RC.G hr2 rfl RC.g kA pass0 (pa_cons pe_str (pa_cons (pe_meth0 (pv 4) T.cl MA.m MA.G hr1 MA.b .nil pass0) pa_nil)) (pk_cons (pe_ix ix_tup (pv 6) pe_int (fun _ _ => rfl)) (pk_cons (pe_fld (pv 4) rfl) pk_nil))))) pss_nil)
      (pss_one (ps_if (pt_cmpR op_eq (pe_ix ix_tup (pv 6) pe_int (fun _ _ => rfl)) pe_str (nomark _)) (pss_one (ps_expr (pe_meth (pv 4) T.cl MK.m MK.G hr3 MK.b .nil pass0 (pa_cons (pv 6) pa_nil)))) pss_nil)))))))))))), ?_⟩
  -- walk = TellerWalk(code, position, members)
  refine ⟨_, rfl, _, rfl, _, rfl, fun wk dx nw ndx nxd => ?_⟩
  have sm0 := made_same0 (C := C) nw ndx
  refine ⟨wk, dx, cd, m, x, ns, rfl, upd_same, sm0.seq hm, hnl, fun H1 hd sn pr qs f1 nhd nsn npr nqs tk1 e1 => ⟨rfl, ?_⟩⟩
  have s1 : Same H H1 := made_same nw ndx f1
  have fr : ∀ p, (upd (upd H dx (.own wk)) wk (.ins C dx [])) p = none → H p = none := fun p e => sm0.free e
  dsimp only [gName]
  refine while_m (fun k σ H' => ∃ (s : S3) (t : Int) (seen : List (S3 × Int)) (ps : List Int) (s5 s6 : Option V), σ = [some (.ref cd), some (.int x), some (.ref m), some (limV lim), some (.ref wk), s5, s6] ∧ LoopI K H H' C wk dx cd hd sn pr qs code x (fun z => decide (z ∈ ns)) lim (runF code x (fun z => decide (z ∈ ns)) lim) k s t seen ps) (m0 := fuel code)
    ⟨⟨0, 0, 0⟩, 0, [], [], none, none, rfl, ⟨s1, nw, fr hd nhd, fr sn nsn, fr qs nqs, tk1, ⟨[], e1, .nil⟩, List.nodup_nil, (fun e m => nomatch m), ⟨⟨by decide, by decide⟩, by decide, by decide⟩, Nat.le_refl _, rfl, rfl⟩⟩ ?_ (fun σ H Q Q' h ⟨b, e, z⟩ => ⟨b, e, h _ _ z⟩)
  rintro k σ H' ⟨s, t, seen, ps, s5, s6, rfl, L⟩
  refine ⟨_, rfl, iteT ?_⟩
  obtain ⟨kvs, hsn, hse⟩ := L.se
  have few := few_states L.nd (fun s0 m0 => by obtain ⟨e, me, rfl⟩ := List.mem_map.mp m0; exact L.ok e me)
  rw [List.length_map] at few
  obtain ⟨k', rfl⟩ : ∃ k', k = k' + 1 := ⟨k - 1, by have := L.fu; unfold fuel at this; omega⟩
  have hEq := L.eq
  rw [loopF_eq] at hEq
  have hlen := hse.len
  have bigN : code.length * 256 ≤ 25600 := by omega
  have obW := L.tk.wa.ob
  refine ⟨_, rfl, wk, dx, _, rfl, obW, rfl, wk, dx, cd, hd, sn, s.pc, s.a, s.b, 0, t, _, kvs, rfl, L.tk.wa, hsn, by omega, hse.refs, fun r hv H2 s2 => ?_, fun hv H2 r f2 e2 nr er => ?_⟩
  · -- the state was met before
    rcases hse.look s with ⟨hv', _⟩ | ⟨r', t0, hv', hl0, er'⟩
    · rw [show valV kvs (keyS s.pc s.a s.b) = none from hv'] at hv; cases hv
    · have er0 : r' = r := by
        rw [show valV kvs (keyS s.pc s.a s.b) = some (.ref r') from hv'] at hv
        injection hv with hv; injection hv
      subst er0
      rw [hl0] at hEq
      have tk2 : TkA K H2 C wk dx cd hd sn pr qs s.pc s.a s.b t x (fun z => decide (z ∈ ns)) ps := ⟨⟨s2 _ _ obW, s2 _ _ L.tk.wa.hl⟩, (by obtain ⟨kv, h1, h2⟩ := L.tk.pre; exact ⟨kv, s2 _ _ h1, h2⟩), s2 _ _ L.tk.que, L.tk.apart⟩
      refine ⟨_, rfl, rfl, _, rfl, ite2 (fun _ => ?_) (fun c => absurd (by rw [decide_eq_false (fun z => nomatch z)]; rfl) c)⟩
      refine ⟨_, rfl, _, rfl, r', _, _, _, rfl, rfl, SqT.of (s2 _ _ er'), atI_nat (j := 0) rfl, _, rfl, ?_⟩
      refine ⟨wk, dx, cd, hd, sn, pr, qs, s.pc, s.a, s.b, t, x, _, ps, t0, lim, rfl, tk2, fun H3 rr s3 nrr ra => ?_⟩
      have hEq' : repS lim t0 t ps = runF code x (fun z => decide (z ∈ ns)) lim := hEq
      rw [hEq'] at ra
      exact q _ rr ((L.sm.trans s2).trans s3) ((L.sm.trans s2).free nrr) (RunN.back (L.sm.trans s2) ra)
  · -- a new state
    have hv0 : valV kvs (keyOf s) = none := hv
    have hl0 : lookS s seen = none := by
      rcases hse.look s with ⟨_, h⟩ | ⟨r', t0, hv', _, _⟩
      · exact h
      · rw [hv0] at hv'; cases hv'
    rw [hl0] at hEq
    have sm2 : Same H H2 := f2.same L.sm (by intro p mp; rw [List.mem_singleton.mp mp]; exact L.ns)
    have nws : wk ≠ sn := fun z => by rw [z, hsn] at obW; cases obW
    have nhs : hd ≠ sn := fun z => by have := L.tk.wa.hl; rw [z, hsn] at this; cases this
    have nqs' : qs ≠ sn := fun z => by have := L.tk.que; rw [z, hsn] at this; cases this
    have k2 : KeepS H' H2 := fun p o hp e => f2 p o (by intro z; rw [List.mem_singleton.mp z, hsn] at e; cases e; exact hp) e
    obtain ⟨kvp, hp1, hp2⟩ := L.tk.pre
    have nps : pr ≠ sn := fun z => by rw [z, hsn] at hp1; cases hp1
    have get2 : ∀ p o, p ≠ sn → H' p = some o → H2 p = some o := fun p o n e => f2 p o (by simp; exact n) e
    have tk2 : TkA K H2 C wk dx cd hd sn pr qs s.pc s.a s.b t x (fun z => decide (z ∈ ns)) ps := ⟨⟨get2 _ _ nws obW, get2 _ _ nhs L.tk.wa.hl⟩, ⟨kvp, get2 _ _ nps hp1, hp2⟩, get2 _ _ nqs' L.tk.que, L.tk.apart⟩
    have se2 : SeenR H2 (kvs ++ [(keyOf s, .ref r)]) (seen ++ [(s, t)]) := (hse.keep k2).snoc er
    have ob2 := tk2.wa.ob
    refine ⟨_, rfl, rfl, _, rfl, ite2 (fun c => absurd c (by rw [decide_eq_true rfl]; decide)) (fun _ => ?_)⟩
    refine ⟨_, rfl, wk, dx, _, rfl, ob2, rfl, wk, dx, cd, hd, sn, s.pc, s.a, s.b, 0, t, _, xs, rfl, tk2.wa, sm2.seq hcd, ?_⟩
    rcases dpAll_at hxs s.pc with ⟨ec, ex⟩ | ⟨i, v, ec, ex, hdv⟩
    · -- ended
      rw [ec] at hEq
      rw [ex]
      refine ⟨_, rfl, rfl, _, rfl, ite2 (fun _ => ?_) (fun c => absurd (decide_eq_true rfl) c)⟩
      refine ⟨_, rfl, wk, dx, _, rfl, ob2, rfl, wk, dx, cd, hd, sn, pr, qs, s.pc, s.a, s.b, t, x, _, ps, rfl, tk2, fun H3 p s3 np e3 => ?_⟩
      refine ⟨_, rfl, wk, C, dx, _, _, rfl, s3 _ _ ob2, T.cl, T.nTak, rfl, rfl, rfl, ?_⟩
      refine mk_run e3 fun H4 rr s4 nrr rv => q _ rr (sm2.trans (s3.trans s4)) ((sm2.trans s3).free nrr) ?_
      rw [← hEq]
      exact RunN.back (sm2.trans s3) rv
    · rw [ec] at hEq
      dsimp only at hEq
      rw [ex]
      have hi : i.ok "teller" := hok i (List.mem_of_getElem? ec)
      have hpc : s.pc < code.length := (List.getElem?_eq_some_iff.mp ec).1
      obtain ⟨p, xr, rfl, hsp, hap⟩ := ins_inv hdv
      have hdv2 := dp_mono sm2 _ _ hdv
      refine ⟨_, rfl, rfl, _, rfl, ite2 (fun c => absurd (of_decide_eq_true c) (fun z => nomatch z)) (fun _ => ?_)⟩
      have nhq : hd ≠ qs := tk2.hq
      have nwh : wk ≠ hd := fun z => by have := tk2.wa.hl; rw [← z, ob2] at this; cases this
      have nwq : wk ≠ qs := fun z => by have := tk2.que; rw [← z, ob2] at this; cases this
      have nwp : wk ≠ pr := fun z => by obtain ⟨kv, h1, _⟩ := tk2.pre; rw [← z, ob2] at h1; cases h1
      cases hov : over lim (t + i.cost) with
      | true =>
        rw [hov, if_pos rfl] at hEq
        cases lim with
        | none => cases hov
        | some Lm =>
          have hlt : Lm < t + i.cost := of_decide_eq_true hov
          refine ⟨_, rfl, rfl, _, rfl, ite2 (fun _ => ?_) (fun c => absurd (by rw [show decide (limV (some Lm) = V.non) = false from decide_eq_false (fun z => nomatch z)]; rfl) c)⟩
          refine ⟨_, rfl, wk, C, dx, _, _, rfl, ob2, T.cl, T.nTak, rfl, _, rfl, .ref p, i, rfl, hdv2, _, _, rfl, rfl, _, rfl, _, _, rfl, rfl, _, rfl, ite2 (fun _ => ?_) (fun c => absurd (decide_eq_true hlt) c)⟩
          refine ⟨_, rfl, wk, dx, _, rfl, ob2, rfl, wk, dx, cd, hd, sn, pr, qs, s.pc, s.a, s.b, t, x, _, ps, rfl, tk2, fun H3 p3 s3 np e3 => ?_⟩
          refine mk_run e3 fun H4 rr s4 nrr rv => q _ rr (sm2.trans (s3.trans s4)) ((sm2.trans s3).free nrr) ?_
          rw [← hEq]
          exact RunN.back (sm2.trans s3) rv
      | false =>
        rw [hov, if_neg (by decide)] at hEq
        have nxt : ∀ (H4 : Hp) (s6' : V), Same H H4 → ansOf i = none → TkA K H4 C wk dx cd hd sn pr qs (nextS x (fun z => decide (z ∈ ns)) s i).pc (nextS x (fun z => decide (z ∈ ns)) s i).a (nextS x (fun z => decide (z ∈ ns)) s i).b (t + i.cost) x (fun z => decide (z ∈ ns)) (askQ x s i ps) → KeepS H2 H4 → H4 sn = some (.dT (kvs ++ [(keyOf s, .ref r)])) →
            ∃ m', m' < k' + 1 ∧ ∃ (s0 : S3) (t0 : Int) (seen0 : List (S3 × Int)) (ps0 : List Int) (s5 s6 : Option V), [some (V.ref cd), some (.int x), some (.ref m), some (limV lim), some (.ref wk), some .non, some s6'] = [some (V.ref cd), some (.int x), some (.ref m), some (limV lim), some (.ref wk), s5, s6] ∧ LoopI K H H4 C wk dx cd hd sn pr qs code x (fun z => decide (z ∈ ns)) lim (runF code x (fun z => decide (z ∈ ns)) lim) m' s0 t0 seen0 ps0 := by
          intro H4 s6' sm4 han tk4 k4 e4
          rw [han] at hEq
          refine ⟨k', Nat.lt_succ_self _, nextS x _ s i, t + i.cost, seen ++ [(s, t)], askQ x s i ps, _, _, rfl, ⟨sm4, L.nw, L.nh, L.ns, L.nq, tk4, ⟨_, e4, se2.keep k4⟩, ?_, ?_, heldS16 hi L.i16, ?_, hEq, ?_⟩⟩
          · rw [List.map_append, List.nodup_append]
            refine ⟨L.nd, List.nodup_cons.mpr ⟨(fun z => nomatch z), List.nodup_nil⟩, fun a1 h1 b1 h2 e => ?_⟩
            have e2 : b1 = s := by simpa using h2
            rw [e, e2] at h1
            exact lookS_none hl0 h1
          · intro e me
            rcases List.mem_append.mp me with me | me
            · exact L.ok e me
            · rw [List.mem_singleton.mp me]
              exact ⟨hpc, L.i16⟩
          · have := askQ_len x s i ps
            have := L.pl
            rw [List.length_append]
            show _ ≤ seen.length + 1
            omega
          · have := L.fu
            rw [List.length_append]
            show k' + (seen.length + 1) = _
            omega
        have rest : ∀ H3, Fx [wk, hd] H2 H3 → WkA K H3 C wk dx cd hd sn (i.next s.pc s.a s.b) (i.held s.a s.b).1 (i.held s.a s.b).2 (0 + i.grown s.a s.b) (t + i.cost) (exT x pr qs) → Same H H3 ∧ KeepS H2 H3 ∧ H3 sn = some (.dT (kvs ++ [(keyOf s, .ref r)])) ∧ TkA K H3 C wk dx cd hd sn pr qs (i.next s.pc s.a s.b) (i.held s.a s.b).1 (i.held s.a s.b).2 (t + i.cost) x (fun z => decide (z ∈ ns)) ps := by
          intro H3 f3 w3
          rw [grown0 hi, Int.add_zero] at w3
          have get3 : ∀ p o, p ≠ wk → p ≠ hd → H2 p = some o → H3 p = some o := fun p o n1 n2 e => f3 p o (by simp; exact ⟨n1, n2⟩) e
          obtain ⟨kv, h1, h2⟩ := tk2.pre
          refine ⟨f3.same sm2 (by intro p mp; simp at mp; rcases mp with rfl | rfl; exact L.nw; exact L.nh), ?_, get3 _ _ (fun z => nws z.symm) (fun z => nhs z.symm) e2, ⟨w3, ⟨kv, get3 _ _ (fun z => nwp z.symm) (fun z => tk2.apart.2 z.symm) h1, h2⟩, get3 _ _ (fun z => nwq z.symm) (fun z => nhq z.symm) tk2.que, tk2.apart⟩⟩
          intro p o ho e
          refine get3 p o (fun z => ?_) (fun z => ?_) e
          · rw [z, ob2] at e; cases e; exact ho
          · rw [z, tk2.wa.hl] at e; cases e; exact ho
        cases lim with
        | none =>
          refine ⟨_, rfl, rfl, _, rfl, ite2 (fun c => absurd c (by rw [show decide (limV none = V.non) = true from decide_eq_true rfl]; decide)) (fun _ => iteF ?_)⟩
          refine ⟨_, rfl, wk, dx, _, rfl, ob2, rfl, _, rfl, wk, dx, cd, hd, sn, s.pc, s.a, s.b, 0, t, _, .ref p, i, "teller", rfl, tk2.wa, noM_T _ _ _, hdv2, hi, fun H3 f3 w3 => ?_⟩
          obtain ⟨sm3, k3, e3, tk3⟩ := rest H3 f3 w3
          have ob3 := tk3.wa.ob
          refine ⟨_, rfl, p, _, _, _, rfl, rfl, Same.tup sm3 hsp, atI_nat (j := 0) rfl, rfl, _, rfl, ?_⟩
          cases i with
          | ans n =>
            obtain ⟨y, rfl, hy⟩ := dp_solo hap
            cases hy
            refine strT ⟨_, rfl, wk, dx, _, rfl, ob3, rfl, wk, dx, cd, hd, sn, pr, qs, _, _, _, _, x, _, ps, rfl, tk3, fun H4 p4 s4 np4 e4 => ?_⟩
            refine ⟨_, rfl, p, _, _, _, rfl, rfl, Same.tup (sm3.trans s4) hsp, atI_nat (j := 1) rfl, _, rfl, wk, C, dx, _, _, rfl, s4 _ _ ob3, T.cl, T.nTak, rfl, rfl, rfl, ?_⟩
            refine mk_run e4 fun H5 rr s5' nrr rv => q _ rr (sm3.trans (s4.trans s5')) ((sm3.trans s4).free nrr) ?_
            rw [← hEq]
            exact RunN.back (sm3.trans s4) rv
          | ask g d z =>
            refine strF (by simp only [Ins.word]; decide +kernel) ⟨_, rfl, p, _, _, _, rfl, rfl, Same.tup sm3 hsp, atI_nat (j := 0) rfl, rfl, _, rfl, strT ?_⟩
            refine ⟨_, rfl, wk, dx, _, rfl, ob3, rfl, _, rfl, wk, dx, cd, hd, sn, pr, qs, _, _, _, _, x, _, ps, .ref p, g, z, d, rfl, tk3, dp_mono sm3 _ _ hdv, hi, by have := L.pl; omega, fun H4 f4 tk4 => ?_⟩
            have get4 : ∀ p o, p ≠ hd → p ≠ qs → H3 p = some o → H4 p = some o := fun p o n1 n2 e => f4 p o (by simp; exact ⟨n1, n2⟩) e
            refine nxt H4 _ (f4.same sm3 (by intro p mp; simp at mp; rcases mp with rfl | rfl; exact L.nh; exact L.nq)) rfl tk4 (k3.trans fun p o ho e => get4 p o (fun z => by rw [z, tk3.wa.hl] at e; cases e; exact ho) (fun z => by rw [z, tk3.que] at e; cases e; exact ho) e) (get4 _ _ (fun z => nhs z.symm) (fun z => nqs' z.symm) e3)
          | set z n => exact strF (by simp only [Ins.word]; decide +kernel) ⟨_, rfl, p, _, _, _, rfl, rfl, Same.tup sm3 hsp, atI_nat (j := 0) rfl, rfl, _, rfl, strF (by simp only [Ins.word]; decide +kernel) (nxt H3 _ sm3 rfl tk3 k3 e3)⟩
          | add z n => exact strF (by simp only [Ins.word]; decide +kernel) ⟨_, rfl, p, _, _, _, rfl, rfl, Same.tup sm3 hsp, atI_nat (j := 0) rfl, rfl, _, rfl, strF (by simp only [Ins.word]; decide +kernel) (nxt H3 _ sm3 rfl tk3 k3 e3)⟩
          | wait n => exact strF (by simp only [Ins.word]; decide +kernel) ⟨_, rfl, p, _, _, _, rfl, rfl, Same.tup sm3 hsp, atI_nat (j := 0) rfl, rfl, _, rfl, strF (by simp only [Ins.word]; decide +kernel) (nxt H3 _ sm3 rfl tk3 k3 e3)⟩
          | grow n => exact absurd rfl hi.1
          | lst n => exact absurd rfl hi.1
          | test n u => exact strF (by simp only [Ins.word]; decide +kernel) ⟨_, rfl, p, _, _, _, rfl, rfl, Same.tup sm3 hsp, atI_nat (j := 0) rfl, rfl, _, rfl, strF (by simp only [Ins.word]; decide +kernel) (nxt H3 _ sm3 rfl tk3 k3 e3)⟩
          | jump n => exact strF (by simp only [Ins.word]; decide +kernel) ⟨_, rfl, p, _, _, _, rfl, rfl, Same.tup sm3 hsp, atI_nat (j := 0) rfl, rfl, _, rfl, strF (by simp only [Ins.word]; decide +kernel) (nxt H3 _ sm3 rfl tk3 k3 e3)⟩
        | some Lm =>
          have hge : ¬ Lm < t + i.cost := of_decide_eq_false hov
          refine ⟨_, rfl, rfl, _, rfl, ite2 (fun _ => ?_) (fun c => absurd (by rw [show decide (limV (some Lm) = V.non) = false from decide_eq_false (fun z => nomatch z)]; rfl) c)⟩
          refine ⟨_, rfl, wk, C, dx, _, _, rfl, ob2, T.cl, T.nTak, rfl, _, rfl, .ref p, i, rfl, hdv2, _, _, rfl, rfl, _, rfl, _, _, rfl, rfl, _, rfl, ite2 (fun c => absurd (of_decide_eq_true c) hge) (fun _ => ?_)⟩
          refine ⟨_, rfl, wk, dx, _, rfl, ob2, rfl, _, rfl, wk, dx, cd, hd, sn, s.pc, s.a, s.b, 0, t, _, .ref p, i, "teller", rfl, tk2.wa, noM_T _ _ _, hdv2, hi, fun H3 f3 w3 => ?_⟩
          obtain ⟨sm3, k3, e3, tk3⟩ := rest H3 f3 w3
          have ob3 := tk3.wa.ob
          refine ⟨_, rfl, p, _, _, _, rfl, rfl, Same.tup sm3 hsp, atI_nat (j := 0) rfl, rfl, _, rfl, ?_⟩
          cases i with
          | ans n =>
            obtain ⟨y, rfl, hy⟩ := dp_solo hap
            cases hy
            refine strT ⟨_, rfl, wk, dx, _, rfl, ob3, rfl, wk, dx, cd, hd, sn, pr, qs, _, _, _, _, x, _, ps, rfl, tk3, fun H4 p4 s4 np4 e4 => ?_⟩
            refine ⟨_, rfl, p, _, _, _, rfl, rfl, Same.tup (sm3.trans s4) hsp, atI_nat (j := 1) rfl, _, rfl, wk, C, dx, _, _, rfl, s4 _ _ ob3, T.cl, T.nTak, rfl, rfl, rfl, ?_⟩
            refine mk_run e4 fun H5 rr s5' nrr rv => q _ rr (sm3.trans (s4.trans s5')) ((sm3.trans s4).free nrr) ?_
            rw [← hEq]
            exact RunN.back (sm3.trans s4) rv
          | ask g d z =>
            refine strF (by simp only [Ins.word]; decide +kernel) ⟨_, rfl, p, _, _, _, rfl, rfl, Same.tup sm3 hsp, atI_nat (j := 0) rfl, rfl, _, rfl, strT ?_⟩
            refine ⟨_, rfl, wk, dx, _, rfl, ob3, rfl, _, rfl, wk, dx, cd, hd, sn, pr, qs, _, _, _, _, x, _, ps, .ref p, g, z, d, rfl, tk3, dp_mono sm3 _ _ hdv, hi, by have := L.pl; omega, fun H4 f4 tk4 => ?_⟩
            have get4 : ∀ p o, p ≠ hd → p ≠ qs → H3 p = some o → H4 p = some o := fun p o n1 n2 e => f4 p o (by simp; exact ⟨n1, n2⟩) e
            refine nxt H4 _ (f4.same sm3 (by intro p mp; simp at mp; rcases mp with rfl | rfl; exact L.nh; exact L.nq)) rfl tk4 (k3.trans fun p o ho e => get4 p o (fun z => by rw [z, tk3.wa.hl] at e; cases e; exact ho) (fun z => by rw [z, tk3.que] at e; cases e; exact ho) e) (get4 _ _ (fun z => nhs z.symm) (fun z => nqs' z.symm) e3)
          | set z n => exact strF (by simp only [Ins.word]; decide +kernel) ⟨_, rfl, p, _, _, _, rfl, rfl, Same.tup sm3 hsp, atI_nat (j := 0) rfl, rfl, _, rfl, strF (by simp only [Ins.word]; decide +kernel) (nxt H3 _ sm3 rfl tk3 k3 e3)⟩
          | add z n => exact strF (by simp only [Ins.word]; decide +kernel) ⟨_, rfl, p, _, _, _, rfl, rfl, Same.tup sm3 hsp, atI_nat (j := 0) rfl, rfl, _, rfl, strF (by simp only [Ins.word]; decide +kernel) (nxt H3 _ sm3 rfl tk3 k3 e3)⟩
          | wait n => exact strF (by simp only [Ins.word]; decide +kernel) ⟨_, rfl, p, _, _, _, rfl, rfl, Same.tup sm3 hsp, atI_nat (j := 0) rfl, rfl, _, rfl, strF (by simp only [Ins.word]; decide +kernel) (nxt H3 _ sm3 rfl tk3 k3 e3)⟩
          | grow n => exact absurd rfl hi.1
          | lst n => exact absurd rfl hi.1
          | test n u => exact strF (by simp only [Ins.word]; decide +kernel) ⟨_, rfl, p, _, _, _, rfl, rfl, Same.tup sm3 hsp, atI_nat (j := 0) rfl, rfl, _, rfl, strF (by simp only [Ins.word]; decide +kernel) (nxt H3 _ sm3 rfl tk3 k3 e3)⟩
          | jump n => exact strF (by simp only [Ins.word]; decide +kernel) ⟨_, rfl, p, _, _, _, rfl, rfl, Same.tup sm3 hsp, atI_nat (j := 0) rfl, rfl, _, rfl, strF (by simp only [Ins.word]; decide +kernel) (nxt H3 _ sm3 rfl tk3 k3 e3)⟩
end
abbrev sRun : Stmt := top 39
abbrev psRun : List Str := ["program", "position", "members", "limit"]
def spRun (K : PySem.W.Frag) (CR : Addr) : Sp := fun vs H Q _ => ∃ (v : V) (m : Addr) (x : Int) (lim : Option Int) (d : PyData) (code : List Ins) (ns : List Int), vs = [v, .int x, .ref m, limV lim] ∧ Dp K H v (.tuple [.str "teller", d]) ∧ Lay (.tuple [.str "teller", d]) ∧ noL d = true ∧ isProg (.tuple [.str "teller", d]) = true ∧ bodyC 4 0 d = code.map Ins.toD ∧ (∀ i ∈ code, i.ok "teller") ∧ (∀ L, lim = some L → 0 ≤ L) ∧
  SqL K H m (ns.map V.int) ∧ ns.length ≤ 10000 ∧ ∀ H' r, Same H H' → H r = none → RunN H H' CR r (runF code x (fun z => decide (z ∈ ns)) lim) → Q (.ref r) H'
theorem prog_bodyT {k : Str} {d : PyData} (h : isProg (.tuple [.str k, d]) = true) : ∃ c, bodyN k 4 d = some c ∧ c ≤ 24 := by
  have h' : (inS (.str k) kinds && okN 0 (bodyN k 4 d)) = true := h
  rw [Bool.and_eq_true] at h'
  cases e : bodyN k 4 d with
  | none => rw [e] at h'; cases h'.2
  | some c =>
    rw [e] at h'
    have hc : 0 + c ≤ 24 := of_decide_eq_true h'.2
    exact ⟨c, rfl, by omega⟩
section
variable {P : Program} {w : World} {K : PySem.W.Frag} {mg : Str → Option Value} {base : Heap}
theorem scRun : FnScope psRun psRun (defScope sRun) := ⟨rfl, rfl, rfl, by decide +kernel, rfl, by decide +kernel, by decide +kernel⟩
theorem ok_run {f CR : Addr} {fd : FuncData} {dvs : List V} {kws : List (Str × V)} (F : FunD K "run" "run" (defArgs sRun) (defBody sRun) (defScope sRun) dvs kws f fd) (CP : Cal P w K mg base 7 "is_program" ["thing"] (spProg K)) (CF : Cal P w K mg base 1 "is_integer_from" ["thing", "least"] (spFrom K)) (CA : Cal P w K mg base 15 "assemble" ["program"] (spAsm K))
    (CT : Cal P w K mg base 5 "teller_run" ["code", "position", "members", "limit"] (spTR K CR)) : FnOk P w K mg base CX0 16 f fd psRun (spRun K CR) := by
  refine F.ok scRun (fun vs H Q E h => ?_) (fun cdv A outer s H vs Q E hr h => ?_)
  · obtain ⟨v, m, x, lim, d, code, ns, rfl, _⟩ := h
    rfl
  obtain ⟨v, m, x, lim, d, code, ns, rfl, hd, ld, nd, hp, hcode, hok, hlim, hm, hnl, q⟩ := h
  have hr1 : Room 1 _ := hr.mono (by decide)
  have hr5 : Room 5 _ := hr.mono (by decide)
  have hr7 : Room 7 _ := hr.mono (by decide)
  refine ⟨_, PSs.nox (pss_cons (ps_if (PW.pt (pw_or (pt_not (pt_val (pe_call CP.G hr7 rfl CP.m CP.kp CP.b .nil pass0 (pa_cons (pv 0) pa_nil)))) (pw_or1 (pt_cmpR op_ne (pe_ix ix_tup (pv 0) pe_int (fun _ _ => rfl)) pe_str (nomark _))))) (pss_one ps_never) pss_nil)
    (pss_cons (ps_if (PW.pt (pw_and (pt_cmpR op_notN (pv 3) pe_non (nomark _)) (pw_and1 (pt_not (pt_val (pe_call CF.G hr1 rfl CF.m CF.kp CF.b .nil pass0 (pa_cons (pv 3) (pa_cons pe_int pa_nil)))))))) (pss_one ps_never) pss_nil)
    (pss_one (ps_ret (pe_call CT.G hr5 rfl CT.m CT.kp CT.b .nil pass0 (pa_cons (pe_call CA.G hr rfl CA.m CA.kp CA.b .nil pass0 (pa_cons (pv 0) pa_nil)) (pa_cons (pv 1) (pa_cons (pv 2) (pa_cons (pv 3) pa_nil))))))))), ?_⟩
  refine ⟨_, rfl, v, _, rfl, hd, ld, fun H1 s1 => ⟨_, rfl, ?_⟩⟩
  rw [hp]
  obtain ⟨a, xs, rfl, hs, ha⟩ := dp_tup_inv hd
  obtain ⟨x0, x1, rfl, hx0, hx1⟩ := dp_pair ha
  cases hx0
  refine iteF ⟨_, rfl, a, _, _, _, rfl, rfl, Same.tup s1 hs, atI_nat (j := 0) rfl, rfl, _, rfl, ?_⟩
  refine ite2 (fun c => absurd c (by rw [decide_eq_true rfl]; decide)) (fun _ => ?_)
  have fin : ∀ D : L2.Ends, D.rt = Q → (tRet (tCall (spTR K CR) [] E0 (tCons (tCall (spAsm K) [] E0 (tCons (tVar 0) tNil)) (tCons (tVar 1) (tCons (tVar 2) (tCons (tVar 3) tNil)))))) D [some (.ref a), some (.int x), some (.ref m), some (limV lim)] H1 := by
    intro D hD
    refine ⟨_, rfl, .ref a, "teller", d, rfl, dp_mono s1 _ _ hd, ld, nd, hp, fun H2 p ys s2 np ep hys => ?_⟩
    have hb := prog_bodyT hp
    obtain ⟨c, hbc, hc⟩ := hb
    obtain ⟨_, hcl⟩ := body_code_ok 0 (lay_mem (lay_tup ld) d (by simp)) hbc
    rw [hcode] at hys hcl
    rw [List.length_map] at hcl
    refine ⟨_, rfl, _, rfl, _, rfl, p, m, x, lim, ys, code, ns, rfl, SqL.of ep, hys, hok, by omega, (s1.trans s2).seq hm, hnl, fun H3 r s3 nr ra => ?_⟩
    show D.rt (.ref r) H3
    rw [hD]
    exact q _ r ((s1.trans s2).trans s3) ((s1.trans s2).free nr) (RunN.back (s1.trans s2) ra)
  cases lim with
  | none =>
    refine ⟨_, rfl, rfl, _, rfl, ite2 (fun c => absurd c (by rw [show decide (limV none = V.non) = true from decide_eq_true rfl]; decide)) (fun _ => iteF (fin _ rfl))⟩
  | some L =>
    refine ⟨_, rfl, rfl, _, rfl, ite2 (fun _ => ?_) (fun c => absurd (by rw [show decide (limV (some L) = V.non) = false from decide_eq_false (fun z => nomatch z)]; rfl) c)⟩
    refine ⟨_, rfl, _, .int L, 0, rfl, .int L, _, rfl, ?_⟩
    have e : intFrom (.int L) 0 = true := decide_eq_true (hlim L rfl)
    rw [e]
    exact iteF (fin _ rfl)
end
def resQs : Res → List Int
  | .ans _ _ ps => ps
  | .ended _ ps => ps
  | .silent _ _ ps => ps
  | .run ps => ps
theorem resPs_eq (R : Res) : resPs R = isort (resQs R) := by cases R <;> rfl
theorem askQ_pre (x : Int) (s : S3) (i : Ins) (ps : List Int) : ps <+: askQ x s i ps := by
  cases i with
  | ask g d z =>
    show ps <+: (if 0 ≤ place x s.a s.b g d then putQ (place x s.a s.b g d) ps else ps)
    split
    · unfold putQ
      split
      · exact List.prefix_refl _
      · exact List.prefix_append _ _
    · exact List.prefix_refl _
  | _ => exact List.prefix_refl _
section
variable {code : List Ins} {x : Int} {mem : Int → Bool}
theorem grows {lim : Option Int} : ∀ (n : Nat) (s : S3) (t : Int) (seen : List (S3 × Int)) (ps : List Int), ps <+: resQs (loopF code x mem lim n s t seen ps)
  | 0, s, t, seen, ps => List.prefix_refl _
  | n + 1, s, t, seen, ps => by
    rw [loopF_eq]
    cases lookS s seen with
    | some f => cases lim <;> exact List.prefix_refl _
    | none =>
      cases code[s.pc]? with
      | none => exact List.prefix_refl _
      | some i =>
        dsimp only
        split
        · exact List.prefix_refl _
        · cases ansOf i with
          | some v => exact List.prefix_refl _
          | none => exact (askQ_pre x s i ps).trans (grows n _ _ _ _)
/-- a run within a limit, beside the whole run -/
def Within (R RL : Res) (L : Int) : Prop := match R with
  | .ans v T qs => (T ≤ L → RL = .ans v T qs) ∧ (L < T → ∃ q', RL = .run q' ∧ q' <+: qs)
  | .ended T qs => (T ≤ L → RL = .ended T qs) ∧ (L < T → ∃ q', RL = .run q' ∧ q' <+: qs)
  | .silent _ S qs => ∃ q', RL = .run q' ∧ q' <+: qs ∧ (S ≤ L → q' = qs)
  | .run qs => ∃ q', RL = .run q' ∧ q' <+: qs
theorem loop_time (hc : ∀ i ∈ code, 1 ≤ i.cost) : ∀ (n : Nat) (s : S3) (t : Int) (seen : List (S3 × Int)) (ps : List Int), match loopF code x mem none n s t seen ps with
    | .ans _ T _ => t < T
    | .ended T _ => t ≤ T
    | .silent _ S _ => t ≤ S
    | .run _ => True
  | 0, s, t, seen, ps => trivial
  | n + 1, s, t, seen, ps => by
    rw [loopF_eq]
    cases lookS s seen with
    | some f => exact Int.le_refl _
    | none =>
      cases e : code[s.pc]? with
      | none => exact Int.le_refl _
      | some i =>
        have h1 := hc i (List.mem_of_getElem? e)
        dsimp only
        rw [if_neg (by intro z; cases z)]
        cases ansOf i with
        | some v => show t < t + i.cost; omega
        | none =>
          have ih := loop_time hc n (nextS x mem s i) (t + i.cost) (seen ++ [(s, t)]) (askQ x s i ps)
          dsimp only
          revert ih
          cases loopF code x mem none n (nextS x mem s i) (t + i.cost) (seen ++ [(s, t)]) (askQ x s i ps) with
          | ans v T qs => intro ih; show t < T; have ih' : t + i.cost < T := ih; omega
          | ended T qs => intro ih; show t ≤ T; have ih' : t + i.cost ≤ T := ih; omega
          | silent f S qs => intro ih; show t ≤ S; have ih' : t + i.cost ≤ S := ih; omega
          | run qs => intro ih; trivial
theorem run_within (hc : ∀ i ∈ code, 1 ≤ i.cost) {L : Int} : ∀ (n : Nat) (s : S3) (t : Int) (seen : List (S3 × Int)) (ps : List Int), t ≤ L → Within (loopF code x mem none n s t seen ps) (loopF code x mem (some L) n s t seen ps) L
  | 0, s, t, seen, ps, _ => ⟨ps, rfl, List.prefix_refl _⟩
  | n + 1, s, t, seen, ps, hL => by
    rw [loopF_eq, loopF_eq]
    cases hl : lookS s seen with
    | some f => exact ⟨ps, rfl, List.prefix_refl _, fun _ => rfl⟩
    | none =>
      cases e : code[s.pc]? with
      | none => exact ⟨fun _ => rfl, fun h => absurd h (by omega)⟩
      | some i =>
        have h1 := hc i (List.mem_of_getElem? e)
        dsimp only
        rw [if_neg (show ¬ over none (t + i.cost) = true from fun z => nomatch z)]
        by_cases ho : L < t + i.cost
        · rw [if_pos (show over (some L) (t + i.cost) = true from decide_eq_true ho)]
          cases ha : ansOf i with
          | some v => exact ⟨fun h => absurd h (by omega), fun _ => ⟨ps, rfl, List.prefix_refl _⟩⟩
          | none =>
            have tm := loop_time (x := x) (mem := mem) hc n (nextS x mem s i) (t + i.cost) (seen ++ [(s, t)]) (askQ x s i ps)
            have gr := (askQ_pre x s i ps).trans (grows (code := code) (x := x) (mem := mem) (lim := none) n (nextS x mem s i) (t + i.cost) (seen ++ [(s, t)]) (askQ x s i ps))
            dsimp only
            revert tm gr
            cases loopF code x mem none n (nextS x mem s i) (t + i.cost) (seen ++ [(s, t)]) (askQ x s i ps) with
            | ans v T qs => intro tm gr; have tm' : t + i.cost < T := tm; exact ⟨fun h => absurd h (by omega), fun _ => ⟨ps, rfl, gr⟩⟩
            | ended T qs => intro tm gr; have tm' : t + i.cost ≤ T := tm; exact ⟨fun h => absurd h (by omega), fun _ => ⟨ps, rfl, gr⟩⟩
            | silent f S qs => intro tm gr; have tm' : t + i.cost ≤ S := tm; exact ⟨ps, rfl, gr, fun h => absurd h (by omega)⟩
            | run qs => intro tm gr; exact ⟨ps, rfl, gr⟩
        · rw [if_neg (show ¬ over (some L) (t + i.cost) = true from fun z => ho (of_decide_eq_true z))]
          cases ha : ansOf i with
          | some v => exact ⟨fun _ => rfl, fun h => absurd h ho⟩
          | none => exact run_within hc n _ _ _ _ (by omega)
/-- a lesser limit asks no more -/
theorem lim_mono {L L' : Int} (h : L ≤ L') : ∀ (n : Nat) (s : S3) (t : Int) (seen : List (S3 × Int)) (ps : List Int), resQs (loopF code x mem (some L) n s t seen ps) <+: resQs (loopF code x mem (some L') n s t seen ps)
  | 0, s, t, seen, ps => List.prefix_refl _
  | n + 1, s, t, seen, ps => by
    rw [loopF_eq, loopF_eq]
    cases hl : lookS s seen with
    | some f => exact List.prefix_refl _
    | none =>
      cases e : code[s.pc]? with
      | none => exact List.prefix_refl _
      | some i =>
        dsimp only
        by_cases ho : L < t + i.cost
        · rw [if_pos (show over (some L) (t + i.cost) = true from decide_eq_true ho)]
          split
          · exact List.prefix_refl _
          · cases ansOf i with
            | some v => exact List.prefix_refl _
            | none => exact (askQ_pre x s i ps).trans (grows n _ _ _ _)
        · rw [if_neg (show ¬ over (some L) (t + i.cost) = true from fun z => ho (of_decide_eq_true z))]
          rw [if_neg (show ¬ over (some L') (t + i.cost) = true from fun z => ho (by have := of_decide_eq_true z; omega))]
          cases ansOf i with
          | some v => exact List.prefix_refl _
          | none => exact lim_mono h n _ _ _ _
end
abbrev nones4 : List V := [V.non, V.non, V.non, V.non]
section
variable {K : PySem.W.Frag} {f : Addr} {fd : FuncData}
theorem ri_kE (F : FunD K "__init__" "Run.__init__" (defArgs sRI) (defBody sRI) (defScope sRI) nones4 [] f fd) : ∃ g, KBn K fd psR 3 ["length"] g (fun vs zs => vs ++ ([V.non] ++ (zs ++ [V.non, V.non]))) := by
  obtain ⟨its, h⟩ := F.kbindsD (ps := psR) 3 ["length"] (fun us its ws => us ++ (its.take 1 ++ (ws ++ its.drop 2))) (by simp) (fun r1 r2 r3 => r1.append ((r2.take 1).append (r3.append (r2.drop 2))))
    (fun T kV doc pm an cdv ct us its ws h1 h2 h3 => match us, its, ws, h1, h2, h3 with | [_, _, _], [_, _, _, _], [_], _, _, _ => ⟨_, rfl, rfl⟩)
  exact ⟨_, h⟩
theorem ri_kA (F : FunD K "__init__" "Run.__init__" (defArgs sRI) (defBody sRI) (defScope sRI) nones4 [] f fd) : ∃ g, KBn K fd psR 3 ["answer", "length"] g (fun vs zs => vs ++ (zs ++ [V.non, V.non])) := by
  obtain ⟨its, h⟩ := F.kbindsD (ps := psR) 3 ["answer", "length"] (fun us its ws => us ++ (ws ++ its.drop 2)) (by simp) (fun r1 r2 r3 => r1.append (r3.append (r2.drop 2)))
    (fun T kV doc pm an cdv ct us its ws h1 h2 h3 => match us, its, ws, h1, h2, h3 with | [_, _, _], [_, _, _, _], [_, _], _, _, _ => ⟨_, rfl, rfl⟩)
  exact ⟨_, h⟩
theorem ri_kS (F : FunD K "__init__" "Run.__init__" (defArgs sRI) (defBody sRI) (defScope sRI) nones4 [] f fd) : ∃ g, KBn K fd psR 3 ["first", "second"] g (fun vs zs => vs ++ ([V.non, V.non] ++ zs)) := by
  obtain ⟨its, h⟩ := F.kbindsD (ps := psR) 3 ["first", "second"] (fun us its ws => us ++ (its.take 2 ++ ws)) (by simp) (fun r1 r2 r3 => r1.append ((r2.take 2).append r3))
    (fun T kV doc pm an cdv ct us its ws h1 h2 h3 => match us, its, ws, h1, h2, h3 with | [_, _, _], [_, _, _, _], [_, _], _, _, _ => ⟨_, rfl, rfl⟩)
  exact ⟨_, h⟩
theorem ri_kR (F : FunD K "__init__" "Run.__init__" (defArgs sRI) (defBody sRI) (defScope sRI) nones4 [] f fd) : ∃ ds, Vals [V.non, V.non, V.non, V.non] ds ∧ Binds K fd psR ds :=
  F.binds1 (ps := psR) 3 0 (by simp) rfl fun T kV doc pm an cdv ct us its h1 h2 => match us, its, h1, h2 with | [_, _, _], [_, _, _, _], _, _ => ⟨_, rfl, rfl⟩
theorem tr_b (F : FunD K "teller_run" "teller_run" (defArgs sTR) (defBody sTR) (defScope sTR) [V.non] [] f fd) : Binds K fd ["code", "position", "members", "limit"] [] := by
  obtain ⟨ds, h1, h2⟩ := F.binds1 (ps := ["code", "position", "members", "limit"]) 4 1 (by simp) rfl fun T kV doc pm an cdv ct us its h1 h2 => match us, its, h1, h2 with | [_, _, _, _], [_], _, _ => ⟨_, rfl, rfl⟩
  cases h1
  exact h2
theorem run_k (F : FunD K "run" "run" (defArgs sRun) (defBody sRun) (defScope sRun) [] [("limit", V.non)] f fd) : ∃ g, KBn K fd psRun 3 ["limit"] g (fun vs zs => vs ++ zs) := by
  obtain ⟨mv, h⟩ := F.kbinds0 (ps := psRun) 3 ["limit"] [] (fun us mv ws => us ++ ws) (by simp) (fun q m => nomatch m) (fun r1 r2 r3 => r1.append r3)
    (fun D doc pm an cdv ct us mv ws h1 h2 h3 => match us, mv, ws, h1, h2, h3 with | [_, _, _], [], [_], _, _, _ => rfl)
  exact ⟨_, h⟩
theorem run_b (F : FunD K "run" "run" (defArgs sRun) (defBody sRun) (defScope sRun) [] [("limit", V.non)] f fd) : ∃ ds, Vals [V.non] ds ∧ Binds K fd psRun ds :=
  F.binds0 (ps := psRun) 3 (by simp) rfl fun D doc pm an cdv ct us ks h1 h2 => match us, ks, h1, h2 with | [_, _, _], [_], _, _ => ⟨_, _, _, _, _, _, rfl, rfl, rfl⟩
theorem fund_d {x qual : Str} {st : Stmt} {dvs : List V} {oc : Value} {od an : Option Addr} {osl sl : Array (Option Value)} {T : Addr} {kV doc pm cdv ct tc : Value} {to : Option Addr} {its : List Value} {n : Nat}
    (l : K.lookup f = some ⟨oc, od, .func (PySem.W.fnOf x qual (defArgs st) (defBody st) (defScope st) (.ref T) kV doc pm an cdv ct), osl⟩) (c : PySem.W.codeIn K cdv qual = true) (k : PySem.W.keepIn K (.ref f) = true) (lT : K.lookup T = some ⟨tc, to, .seq its.toArray n, sl⟩) (hn : dvs ≠ []) (hv : Vals dvs its) :
    FunD K x qual (defArgs st) (defBody st) (defScope st) dvs [] f (PySem.W.fnOf x qual (defArgs st) (defBody st) (defScope st) (.ref T) kV doc pm an cdv ct) :=
  ⟨⟨oc, od, .ref T, kV, doc, pm, an, cdv, ct, osl, rfl, l, c, .inr ⟨hn, T, _, its, n, rfl, lT, rfl, hv⟩, .inl rfl⟩, k⟩
theorem fund_k {x qual : Str} {st : Stmt} {y : Str} {oc : Value} {od an : Option Addr} {osl : Array (Option Value)} {D : Addr} {doc pm cdv ct : Value}
    (l : K.lookup f = some ⟨oc, od, .func (PySem.W.fnOf x qual (defArgs st) (defBody st) (defScope st) .none (.ref D) doc pm an cdv ct), osl⟩) (c : PySem.W.codeIn K cdv qual = true) (k : PySem.W.keepIn K (.ref f) = true) (lD : PySem.W.nsIn K D y = some (some .none)) :
    FunD K x qual (defArgs st) (defBody st) (defScope st) [] [(y, V.non)] f (PySem.W.fnOf x qual (defArgs st) (defBody st) (defScope st) .none (.ref D) doc pm an cdv ct) :=
  ⟨⟨oc, od, .none, .ref D, doc, pm, an, cdv, ct, osl, rfl, l, c, .inl ⟨rfl, rfl⟩, .inr ⟨D, rfl, fun q m => by rw [List.mem_singleton.mp m]; exact ⟨_, lD, rfl⟩⟩⟩, k⟩
end
end My

namespace NeI
open PySem PySem.Spec PyProof.Rows PySem.SeqAt
section
variable {M : Model} {prog : Program} {w : World} {A : Around} {E : Value → Shared → Prop} {s : Shared} {K : PySem.W.Frag} {x y C f : Addr} {ox : Obj} {od : Option Obj}
theorem entry_ne {Q : Fin → Shared → Prop} (hu : A.units < cLine) (X : K.In s.heap) (I : PySem.W.InstAt s.heap x ox C od) (hs : PySem.W.findIn K (.ref C) "__eq__" = some (some (.ref f))) (hf : PySem.W.isFn K (.ref f) = true)
    (hcall : wpAny (model prog w) A (call (.ref f) [.ref x, .ref y]) (fun v s' => ∃ b, v = .bool b ∧ Q (.done (.ret (.bool (!b)))) s') E s) :
    wpAny (model prog w) A (Builtin.«object.__ne__» ⟨[.ref x, .ref y], []⟩) Q E s := by
  unfold Builtin.«object.__ne__»
  repeat (first
    | with_reducible refine wpAny_cRoomFor hu ?_
    | (refine wpAny_bind (m := callSpecialIfBound? (.ref x) (Str.ofString "__eq__") [.ref y])
        (PySem.W.ifBound_K X I hs hf (wpAny_mono hcall (fun r s' hr => by
          obtain ⟨b, rfl, hq⟩ := hr
          repeat (first | exact hq | exact wpAny_pure hq | exact wpAny_truthy_bool hq | (refine wpAny_bind (m := truthy (.bool _)) (wpAny_truthy_bool ?_)) | wp_step)) fun _ _ e => e)))
    | wp_step)
theorem ifBound_ne {args : List Value} {Q : Option Value → Shared → Prop} (X : K.In s.heap) (I : PySem.W.InstAt s.heap x ox C od) (hs : PySem.W.findIn K (.ref C) "__ne__" = some (some (.builtin "object.__ne__")))
    (h : wpAny M A (call (.builtin "object.__ne__") (.ref x :: args)) (fun v => Q (some v)) E s) : wpAny M A (callSpecialIfBound? (.ref x) "__ne__" args) Q E s := by
  simp only [callSpecialIfBound?, bindSpecialIfBound?]
  refine wpAny_holding (wpAny_bind (wpAny_bind (wpAny_bind (I.type.here ((PySem.W.looks_findIn X hs).here ?_)))))
  refine wpAny_bind (wpAny_askSetting (wpAny_ite ?_))
  have fin : wpAny M A (call (.builtin "object.__ne__") ([.ref x] ++ args) >>= fun v => pure (some v)) Q E s := wpAny_bind (wpAny_mono h (fun v s' h' => wpAny_pure h') fun _ _ h' => h')
  split
  · exact wpAny_bind (wpAny_of_eq (F.cmp_object.ne.bind _) (wpAny_pure (by exact fin)))
  · exact wpAny_tryCatch (wpAny_bind (wpAny_of_eq (F.cmp_object.ne.bind _) (wpAny_pure (by exact fin))))
theorem rc_ne {Q : Value → Shared → Prop} {tb : Value} (hu : A.units + 1 < cLine) (X : K.In s.heap) (I : PySem.W.InstAt s.heap x ox C od) (hb : PySem.W.Looks (model prog w) s.heap (typeOf (.ref y)) (.ref C)) (hm : PySem.W.mroIn K C (.type "object") = some true)
    (hs : PySem.W.findIn K (.ref C) "__eq__" = some (some (.ref f))) (hf : PySem.W.isFn K (.ref f) = true) (hn : PySem.W.findIn K (.ref C) "__ne__" = some (some (.builtin "object.__ne__")))
    (h : wpAny (model prog w) A.in1 (call (.ref f) [.ref x, .ref y]) (fun v s' => ∃ b, v = .bool b ∧ Q (.bool (!b)) s') E s) : wpAny (model prog w) A (richCompare .NotEq (.ref x) (.ref y)) Q E s := by
  have one : wpAny (model prog w) A (tryCompare (.ref x) "__ne__" (.ref y)) (fun r s' => ∃ v, r = some v ∧ Q v s') E s := by
    unfold tryCompare
    refine wpAny_bind (ifBound_ne X I hn (wpAny_call (codeAny_call_builtin F.cmp_object.ne.plain F.cmpEntry_ne (PySem.W.check_slot F.cmpKind_ne F.cmpSplit_ne (I.type.andThen (PySem.W.looks_mroIn X hm)) (F.cmpArgs_ne _ _) (entry_ne (A := A.in1) hu X I hs hf (wpAny_mono h (fun v s' hv => ?_) fun _ _ e => e))))))
    obtain ⟨b, rfl, hq⟩ := hv
    first | exact ⟨b, rfl, wpAny_pure ⟨_, rfl, hq⟩⟩ | exact ⟨b, rfl, wpAny_pure (wpAny_pure ⟨_, rfl, hq⟩)⟩
  unfold richCompare
  simp only [oneThing_ref]
  refine wpAny_holding (wpAny_bind (wpAny_cRoomFor (Nat.lt_of_succ_lt hu) ?_))
  rw [cmpInfo_NotEq]
  dsimp only
  refine wpAny_bind (I.type.here (wpAny_bind (hb.here ?_)))
  rw [show (Value.ref C != Value.ref C) = false from by simp]
  simp only [Bool.false_eq_true, if_false]
  refine wpAny_bind (wpAny_pure ?_)
  simp only [Bool.false_eq_true, if_false]
  refine wpAny_bind (wpAny_mono one (fun r s' z => ?_) fun _ _ e => e)
  obtain ⟨v, rfl, hq⟩ := z
  exact wpAny_pure hq
end
end NeI
namespace My
open PySem L2 PySem.Spec PyProof.Rows
def rNeI (C : Addr) (sp : Sp) (E : XK) : R2 := fun x y H Q => ∃ a b dx dy fs gs, x = .ref a ∧ y = .ref b ∧ H a = some (.ins C dx fs) ∧ H b = some (.ins C dy gs) ∧ sp [.ref a, .ref b] H (fun v H' => ∃ r, v = .bl r ∧ Q (.bl (!r)) H') E
/-- x != y, by the class's own == -/
theorem op_neI {X : Cx} {n : Nat} {CX : CXT} {C f : Addr} {fd : FuncData} {ps : List Str} {sp : Sp} {E : XK} (F : FnOk X.prog X.w X.K X.mg X.base CX n f fd ps sp) (hse : PySem.W.findIn X.K (.ref C) "__eq__" = some (some (.ref f))) (hf : PySem.W.isFn X.K (.ref f) = true)
    (hsn : PySem.W.findIn X.K (.ref C) "__ne__" = some (some (.builtin "object.__ne__"))) (hm : PySem.W.mroIn X.K C (.type "object") = some true) (hb : Binds X.K fd ps []) (hx : Passes CX X E) (hr : Room (n + 1) X.A) : OpR X (compareOp .NotEq) (rNeI C sp E) := by
  intro pins s σ H x y v u Q I rx ry h
  obtain ⟨a, b, dx, dy, fs, gs, rfl, rfl, ha, hb', hsp⟩ := h
  cases rx
  cases ry
  show wpAny (model X.prog X.w) X.A (richCompare .NotEq (.ref a) (.ref b)) (EP X pins σ Q) X.xe s
  obtain ⟨mA, J, _⟩ := ins_get I.hok ha
  obtain ⟨mB, J', _⟩ := ins_get I.hok hb'
  obtain ⟨od, J, _⟩ := J.look
  obtain ⟨od', J', _⟩ := J'.look
  have sb : Sub X n X.A.in1 := Sub.in1 ⟨hr, rfl⟩
  refine NeI.rc_ne (tb := .ref C) (hu_of hr) I.kIn J J'.type hm hse hf hsn ?_
  have e0 : Env0 X.prog X.w X.K X.mg X.base X.A.in1 X.stack s H := by
    have e := I.env0
    exact ⟨by rw [sb.fr]; exact e.frames, e.mod, e.bs, e.bsz, e.funs, e.frf, e.hok, e.bare⟩
  have hl := F.len _ _ _ _ hsp
  have r2 : Vals [V.ref a, V.ref b] [Value.ref a, Value.ref b] := .cons rfl (.cons rfl .nil)
  refine wpAny_call (codeAny_mono (F.run X.A.in1 X.stack s H ⟨[.ref a, .ref b], []⟩ [.ref a, .ref b] [.ref a, .ref b] _ E sb.room e0 (by
    have := hb s [.ref a, .ref b] I.kIn (by simpa using hl)
    simpa using this) r2 hsp) fun r s' hq => ?_)
  cases r with
  | error e => exact hx pins σ H s e s' I hq
  | ok fl =>
    cases fl with
    | ret w =>
      obtain ⟨z, H', I', rz, r, ez, qz⟩ := I.after hq
      subst ez
      cases rz
      exact ⟨r, rfl, .bl (!r), H', I', rfl, qz⟩
    | next => exact False.elim hq
    | brk => exact False.elim hq
    | cont => exact False.elim hq
abbrev sEqR : Stmt := inClass (top 38) 1
def eqRes (R S : Res) : Bool := decide (resOut R = resOut S) && decide (resAns R = resAns S) && decide (resLen R = resLen S) && decide (resFst R = resFst S) && decide (resSnd R = resSnd S) && decide (resPs R = resPs S)
theorem eqRes_refl (R : Res) : eqRes R R = true := by simp [eqRes]
def spEqR (K : PySem.W.Frag) (C : Addr) : Sp := fun vs H Q _ => ∃ (a b : Addr) (R S : Res), vs = [.ref a, .ref b] ∧ RunA H C a R ∧ RunA H C b S ∧ Q (.bl (eqRes R S)) H
theorem eqv_ints : ∀ ns ms : List Int, PyData.eqvAll (ns.map PyData.int) (ms.map PyData.int) = decide (ns = ms)
  | [], [] => rfl
  | [], _ :: _ => by simp [PyData.eqvAll]
  | _ :: _, [] => by simp [PyData.eqvAll]
  | n :: r, m :: u => by
    have ih := eqv_ints r u
    simp only [List.map_cons, PyData.eqvAll, ih, PyData.eqv]
    by_cases e1 : n = m <;> by_cases e2 : r = u <;> simp [e1, e2]
theorem eqv_list (ns ms : List Int) : PyData.eqv (.list (ns.map PyData.int)) (.list (ms.map PyData.int)) = decide (ns = ms) := by
  rw [← eqv_ints]
  simp only [PyData.eqv]
theorem shaped_ints (ns : List Int) : SeqAt.shaped (.list (ns.map PyData.int)) = true := by
  show ((PyData.list (ns.map PyData.int)).canLay0 && decide (_ ≤ 64)) = true
  rw [Bool.and_eq_true]
  refine ⟨?_, decide_eq_true ?_⟩
  · simp only [PyData.canLay0]
    exact lay_all fun d m => by obtain ⟨n, _, rfl⟩ := List.mem_map.mp m; exact lay_int n
  · have hd : PyData.depthAll (ns.map PyData.int) ≤ 0 := depth_all fun d m => by obtain ⟨n, _, rfl⟩ := List.mem_map.mp m; simp only [PyData.depth]; exact Nat.le_refl _
    simp only [PyData.depth]
    omega
theorem dp_ints' {K : PySem.W.Frag} {H : Hp} : ∀ ns : List Int, DpAll K H (ns.map V.int) (ns.map PyData.int)
  | [] => .nil
  | n :: r => .cons (.int n) (dp_ints' r)
def isN : V → Prop
  | .non => True
  | .int _ => True
  | _ => False
theorem scal_num {v w : V} (h : isN v) (h' : isN w) : scal v w = true := by
  cases v <;> first | exact absurd h (fun z => z) | (cases w <;> first | exact absurd h' (fun z => z) | rfl)
theorem res_isN (R : Res) : isN (resAns R) ∧ isN (resLen R) ∧ isN (resFst R) ∧ isN (resSnd R) := by cases R <;> exact ⟨trivial, trivial, trivial, trivial⟩
/-- the class as isinstance sees it -/
structure RIs (K : PySem.W.Frag) (C : Addr) : Prop where
  ha : PySem.W.findIn K (.ref C) "__class__" = some (some (.builtin "object.__class__"))
  hn : PySem.W.specialIn K (.builtin "object.__class__") "__get__" = some (some (.builtin "getset_descriptor.__get__"))
  ht : PySem.W.takesIn K (.builtin "object.__class__") = some true
  hm : PySem.W.mroIn K C (.type "object") = some true
theorem kit_same {K : PySem.W.Frag} {D : Addr} : PySem.W.kitOne K (.ref D) (.ref D) = some true := by
  unfold PySem.W.kitOne
  rw [if_pos (beq_self_eq_true _)]
section
variable {P : Program} {w : World} {K : PySem.W.Frag} {mg : Str → Option Value} {base : Heap}
theorem scEqR : FnScope ["self", "other"] ["self", "other"] (defScope sEqR) := ⟨rfl, rfl, rfl, by decide +kernel, rfl, by decide +kernel, by decide +kernel⟩
theorem ok_EqR {f C : Addr} {fd : FuncData} (F : Fun K "__eq__" "Run.__eq__" sEqR f fd) (T : Gs K mg) (N : RNo K C) (I : RIs K C) (gC : mg "Run" = some (.ref C)) : FnOk P w K mg base CX0 1 f fd ["self", "other"] (spEqR K C) := by
  refine F.ok scEqR (fun vs H Q E h => ?_) (fun cdv A outer s H vs Q E hr h => ?_)
  · obtain ⟨a, b, R, S, rfl, _⟩ := h
    rfl
  obtain ⟨a, b, R, S, rfl, ⟨dx, as, h1, h2⟩, ⟨dy, bs, g1, g2⟩, q⟩ := h
  refine ⟨_, pss_one (ps_ret (pe_and (pe_callB call_isi (by rfl) T.isi (by decide +kernel) (pa_cons (pv 1) (pa_cons (pe_gref rfl gC) pa_nil))) (pe_and (pe_cmpR op_eq (pe_fld (pv 0) rfl) (pe_fld (pv 1) rfl) (nomark _)) (pe_and (pe_cmpR op_eq (pe_fld (pv 0) rfl) (pe_fld (pv 1) rfl) (nomark _)) (pe_and (pe_cmpR op_eq (pe_fld (pv 0) rfl) (pe_fld (pv 1) rfl) (nomark _)) (pe_and (pe_cmpR op_eq (pe_fld (pv 0) rfl) (pe_fld (pv 1) rfl) (nomark _)) (pe_and (pe_cmpR op_eq (pe_fld (pv 0) rfl) (pe_fld (pv 1) rfl) (nomark _)) (pe_one (pe_cmpR (op_eqD hr.units) (pe_fld (pv 0) rfl) (pe_fld (pv 1) rfl) (nomark _)))))))))), ?_⟩
  obtain ⟨n1, n2, n3, n4⟩ := res_isN R
  obtain ⟨m1, m2, m3, m4⟩ := res_isN S
  refine ⟨_, rfl, .ref b, .ref C, _, _, _, rfl, .own C, .base (.ins g1 N.cl I.ha I.hn I.ht I.hm), kit_same, _, rfl, iteT ?_⟩
  unfold eqRes at q
  refine ⟨_, rfl, a, C, dx, _, _, rfl, h1, N.cl, N.nO, rfl, _, rfl, b, C, dy, _, _, rfl, g1, N.cl, N.nO, rfl, rfl, _, rfl, ?_⟩
  by_cases c1 : resOut R = resOut S
  case neg =>
    rw [decide_eq_false c1] at q
    simp only [Bool.false_and] at q
    refine ite2 (fun c => absurd (of_decide_eq_true c) (fun z => c1 (by injection z))) (fun c => ?_)
    exact q
  rw [decide_eq_true c1, Bool.true_and] at q
  refine ite2 (fun _ => ?_) (fun c => absurd (decide_eq_true (by rw [c1])) c)
  refine ⟨_, rfl, a, C, dx, _, _, rfl, h1, N.cl, N.nA, rfl, _, rfl, b, C, dy, _, _, rfl, g1, N.cl, N.nA, rfl, scal_num n1 m1, _, rfl, ?_⟩
  cases c2 : decide (resAns R = resAns S) with
  | false => rw [c2] at q; simp only [Bool.false_and] at q; exact iteF q
  | true =>
  rw [c2, Bool.true_and] at q
  refine iteT ⟨_, rfl, a, C, dx, _, _, rfl, h1, N.cl, N.nL, rfl, _, rfl, b, C, dy, _, _, rfl, g1, N.cl, N.nL, rfl, scal_num n2 m2, _, rfl, ?_⟩
  cases c3 : decide (resLen R = resLen S) with
  | false => rw [c3] at q; simp only [Bool.false_and] at q; exact iteF q
  | true =>
  rw [c3, Bool.true_and] at q
  refine iteT ⟨_, rfl, a, C, dx, _, _, rfl, h1, N.cl, N.nF, rfl, _, rfl, b, C, dy, _, _, rfl, g1, N.cl, N.nF, rfl, scal_num n3 m3, _, rfl, ?_⟩
  cases c4 : decide (resFst R = resFst S) with
  | false => rw [c4] at q; simp only [Bool.false_and] at q; exact iteF q
  | true =>
  rw [c4, Bool.true_and] at q
  refine iteT ⟨_, rfl, a, C, dx, _, _, rfl, h1, N.cl, N.nS, rfl, _, rfl, b, C, dy, _, _, rfl, g1, N.cl, N.nS, rfl, scal_num n4 m4, _, rfl, ?_⟩
  cases c5 : decide (resSnd R = resSnd S) with
  | false => rw [c5] at q; simp only [Bool.false_and] at q; exact iteF q
  | true =>
  rw [c5, Bool.true_and] at q
  refine iteT ⟨_, rfl, a, C, dx, _, _, rfl, h1, N.cl, N.nQ, rfl, _, rfl, b, C, dy, _, _, rfl, g1, N.cl, N.nQ, rfl, .list ((resPs R).map PyData.int), .list ((resPs S).map PyData.int), .lst (SqL.of h2) (dp_ints' _), .lst (SqL.of g2) (dp_ints' _), shaped_ints _, shaped_ints _, ?_⟩
  rw [eqv_list]
  exact q
end
/-! ### a whole run ends -/
theorem not_run {code : List Ins} {x : Int} {mem : Int → Bool} (hok : ∀ i ∈ code, i.ok "teller") : ∀ (n : Nat) (s : S3) (t : Int) (seen : List (S3 × Int)) (ps : List Int), (seen.map (·.1)).Nodup → (∀ e ∈ seen, okS3 code e.1) → in16 s.a s.b → n + seen.length = fuel code →
    ∀ qs, loopF code x mem none n s t seen ps ≠ .run qs
  | 0, s, t, seen, ps, hn, ho, _, hf, qs => by
    have := few_states hn (fun s0 m0 => by obtain ⟨e, me, rfl⟩ := List.mem_map.mp m0; exact ho e me)
    rw [List.length_map] at this
    unfold fuel at hf
    omega
  | n + 1, s, t, seen, ps, hn, ho, h16, hf, qs => by
    rw [loopF_eq]
    cases hl : lookS s seen with
    | some f => intro z; cases z
    | none =>
      cases e : code[s.pc]? with
      | none => intro z; cases z
      | some i =>
        dsimp only
        rw [if_neg (show ¬ over none (t + i.cost) = true from fun z => nomatch z)]
        cases ha : ansOf i with
        | some v => intro z; cases z
        | none =>
          refine not_run hok n _ _ _ _ ?_ ?_ (heldS16 (hok i (List.mem_of_getElem? e)) h16) (by rw [List.length_append]; show n + (seen.length + 1) = _; omega) qs
          · rw [List.map_append, List.nodup_append]
            refine ⟨hn, List.nodup_cons.mpr ⟨(fun z => nomatch z), List.nodup_nil⟩, fun a1 h1 b1 h2 e => ?_⟩
            have e2 : b1 = s := by simpa using h2
            rw [e, e2] at h1
            exact lookS_none hl h1
          · intro e' me
            rcases List.mem_append.mp me with me | me
            · exact ho e' me
            · rw [List.mem_singleton.mp me]
              exact ⟨(List.getElem?_eq_some_iff.mp e).1, h16⟩
theorem whole_run {code : List Ins} {x : Int} {mem : Int → Bool} (hok : ∀ i ∈ code, i.ok "teller") (qs : List Int) : runF code x mem none ≠ .run qs :=
  not_run hok (fuel code) ⟨0, 0, 0⟩ 0 [] [] List.nodup_nil (fun e m => nomatch m) ⟨⟨by decide, by decide⟩, by decide, by decide⟩ rfl qs
/-- the number near which the limits are drawn -/
def nearOf : Res → Int
  | .ans _ T _ => T
  | .ended T _ => T
  | .silent _ S _ => S
  | .run _ => 0
/-- what the law asks of a run within a limit -/
theorem part_of {code : List Ins} {x : Int} {mem : Int → Bool} (hok : ∀ i ∈ code, i.ok "teller") {L : Int} (hL : 0 ≤ L) :
    (∀ T, resLen (runF code x mem none) = .int T → T ≤ L → runF code x mem (some L) = runF code x mem none) ∧
    (¬ (∃ T, resLen (runF code x mem none) = .int T ∧ T ≤ L) → ∃ q', runF code x mem (some L) = .run q') ∧
    (resQs (runF code x mem (some L)) <+: resQs (runF code x mem none)) ∧ (nearOf (runF code x mem none) ≤ L → resQs (runF code x mem (some L)) = resQs (runF code x mem none)) := by
  have hw := run_within (x := x) (mem := mem) (L := L) (code := code) (fun i m => (cost_pos (hok i m)).1) (fuel code) ⟨0, 0, 0⟩ 0 [] [] hL
  have hn := whole_run (x := x) (mem := mem) hok
  unfold runF at hn ⊢
  generalize loopF code x mem none (fuel code) ⟨0, 0, 0⟩ 0 [] [] = R at hw hn ⊢
  generalize loopF code x mem (some L) (fuel code) ⟨0, 0, 0⟩ 0 [] [] = RL at hw ⊢
  cases R with
  | ans v T qs =>
    obtain ⟨w1, w2⟩ := (show (T ≤ L → RL = .ans v T qs) ∧ (L < T → ∃ q', RL = .run q' ∧ q' <+: qs) from hw)
    refine ⟨fun T' e h => ?_, fun h => ?_, ?_, fun h => ?_⟩
    · have e' : T = T' := by have e2 : V.int T = V.int T' := e; injection e2
      exact w1 (by omega)
    · have : L < T := by
        by_cases c : T ≤ L
        · exact absurd ⟨T, rfl, c⟩ h
        · omega
      obtain ⟨q', e, _⟩ := w2 this
      exact ⟨q', e⟩
    · by_cases c : T ≤ L
      · rw [w1 c]; exact List.prefix_refl _
      · obtain ⟨q', e, p⟩ := w2 (by omega)
        rw [e]; exact p
    · rw [w1 h]
  | ended T qs =>
    obtain ⟨w1, w2⟩ := (show (T ≤ L → RL = .ended T qs) ∧ (L < T → ∃ q', RL = .run q' ∧ q' <+: qs) from hw)
    refine ⟨fun T' e h => ?_, fun h => ?_, ?_, fun h => ?_⟩
    · have e' : T = T' := by have e2 : V.int T = V.int T' := e; injection e2
      exact w1 (by omega)
    · have : L < T := by
        by_cases c : T ≤ L
        · exact absurd ⟨T, rfl, c⟩ h
        · omega
      obtain ⟨q', e, _⟩ := w2 this
      exact ⟨q', e⟩
    · by_cases c : T ≤ L
      · rw [w1 c]; exact List.prefix_refl _
      · obtain ⟨q', e, p⟩ := w2 (by omega)
        rw [e]; exact p
    · rw [w1 h]
  | silent f S qs =>
    obtain ⟨q', e, p, h⟩ := (show ∃ q', RL = .run q' ∧ q' <+: qs ∧ (S ≤ L → q' = qs) from hw)
    refine ⟨(fun T' e2 _ => nomatch (show V.non = V.int T' from e2)), fun _ => ⟨q', e⟩, by rw [e]; exact p, fun h2 => by rw [e]; exact h h2⟩
  | run qs => exact absurd rfl (hn qs)
theorem near_pos {code : List Ins} {x : Int} {mem : Int → Bool} (hok : ∀ i ∈ code, i.ok "teller") : 0 ≤ nearOf (runF code x mem none) ∧ (resLen (runF code x mem none) = .int (nearOf (runF code x mem none)) ∨ (resLen (runF code x mem none) = .non ∧ resSnd (runF code x mem none) = .int (nearOf (runF code x mem none)))) := by
  have hn := whole_run (x := x) (mem := mem) hok
  have tm := loop_time (x := x) (mem := mem) (code := code) (fun i m => (cost_pos (hok i m)).1) (fuel code) ⟨0, 0, 0⟩ 0 [] []
  unfold runF at hn ⊢
  revert tm hn
  cases loopF code x mem none (fuel code) ⟨0, 0, 0⟩ 0 [] [] with
  | ans v T qs => intro hn tm; have tm' : 0 < T := tm; exact ⟨by show 0 ≤ T; omega, .inl rfl⟩
  | ended T qs => intro hn tm; exact ⟨tm, .inl rfl⟩
  | silent f S qs => intro hn tm; exact ⟨tm, .inr ⟨rfl, rfl⟩⟩
  | run qs => intro hn tm; exact absurd rfl (hn qs)
theorem part_mono {code : List Ins} {x : Int} {mem : Int → Bool} {L L' : Int} (h : L ≤ L') : resQs (runF code x mem (some L)) <+: resQs (runF code x mem (some L')) := lim_mono h _ _ _ _ _
theorem mem_ps {R : Res} {z : Int} : z ∈ resPs R ↔ z ∈ resQs R := by
  rw [resPs_eq]
  exact (isort_perm _).mem_iff
def spProgM (K : PySem.W.Frag) : Sp := fun vs H Q _ => ∃ (b : Addr) (k : Str) (mx : Int), vs = [.ref b, .str k, .int mx] ∧ 0 ≤ mx ∧ mx ≤ 24 ∧ Bag H b ∧ (k = "teller" ∨ k = "collector") ∧
  ∀ H' t v d, Fr b H H' → Bag H' b → H' t = some (.tup [.str k, v]) → t ≠ b → Da K b H' v d → isProg (.tuple [.str k, d]) = true → Lay d → noL d = true → Q (.ref t) H'
section
variable {P : Program} {w : World} {K : PySem.W.Frag} {mg : Str → Option Value} {base : Heap}
theorem ok_progM {f : Addr} {fd : FuncData} (F : Fun K "_law_program" "_law_program" sProgL f fd) (CD : Cal P w K mg base 1 "_law_draw" ["_law_bag_here", "_law_many"] spDraw) (CB : Cal P w K mg base 13 "_law_body" ["_law_bag_here", "_law_kind", "_law_room", "_law_depth", "_law_most"] (spBody K 4)) :
    FnOk P w K mg base CX0 14 f fd ["_law_bag_here", "_law_kind", "_law_most"] (spProgM K) := by
  refine F.ok scProgL (fun vs H Q E h => ?_) (fun cdv A outer s H vs Q E hr h => ?_)
  · obtain ⟨b, k, mx, rfl, _⟩ := h
    rfl
  obtain ⟨b, k, mx, rfl, hmx0, hmx1, hb, hk, q⟩ := h
  have hr1 : Room 1 _ := hr.mono (by decide)
  refine ⟨_, pss_cons (ps_set (i := 3) scProgL.nd rfl (.inl rfl) (pe_lst (pa_cons (pe_call CD.G hr1 rfl CD.m CD.kp CD.b .nil pass0 (pa_cons (pv 0) (pa_cons (pe_op op_add (pv 2) pe_int) pa_nil))) pa_nil)))
    (pss_one (ps_ret (pe_tup (pa_cons (pv 1) (pa_cons (pe_call CB.G hr rfl CB.m CB.kp CB.b .nil pass0 (pa_cons (pv 0) (pa_cons (pv 1) (pa_cons (pv 3) (pa_cons pe_int (pa_cons (pe_ix ix_list (pe_lst (pa_cons pe_int (pa_cons (pe_op op_add (pv 2) pe_int) pa_nil))) (pe_call CD.G hr1 rfl CD.m CD.kp CD.b .nil pass0 (pa_cons (pv 0) (pa_cons pe_int pa_nil))) (fun _ _ => rfl)) pa_nil)))))) pa_nil))))), ?_⟩
  refine ⟨_, rfl, _, rfl, _, _, rfl, rfl, b, _, rfl, hb, by omega, by omega, fun H1 r f1 b1 r0 r1 => ⟨(by show 1 ≤ sizeLine; decide), fun m nm => ?_⟩⟩
  obtain ⟨rn, rfl⟩ : ∃ rn : Nat, r = rn := ⟨r.toNat, by omega⟩
  have nmb : m ≠ b := (b1.ne nm).symm
  have b2 := b1.keep (same_new nm (.lst [.int (rn : Nat)]))
  have g2 : Fr b H1 (upd H1 m (.lst [.int (rn : Nat)])) := Fr.of (same_new nm _)
  have hm2 : Rm (upd H1 m (.lst [.int (rn : Nat)])) m rn := upd_same
  generalize upd H1 m (.lst [.int (rn : Nat)]) = H2 at b2 g2 hm2 ⊢
  refine ⟨_, rfl, _, rfl, _, rfl, _, rfl, _, rfl, _, _, rfl, rfl, (by show 2 ≤ sizeLine; decide), fun l nl => ?_⟩
  have nlb : l ≠ b := (b2.ne nl).symm
  have b3 := b2.keep (same_new nl (.lst [.int 7, .int (mx + 1)]))
  refine ⟨_, rfl, b, 2, rfl, b3, by decide, by decide, fun H4 r4 f4 b4 r40 r41 => ?_⟩
  have hm4 : Rm H4 m rn := f4 m _ nmb (same_new nl _ _ _ hm2)
  obtain ⟨x, hx, hc⟩ := at2 (x := V.int 7) (y := V.int (mx + 1)) r40 r41
  refine ⟨l, _, _, _, rfl, rfl, SqL.of (f4 l _ nlb upd_same), hx, ?_⟩
  obtain ⟨mo, rfl, hmo⟩ : ∃ mo : Int, x = .int mo ∧ mo < 1000 := by
    rcases hc with rfl | rfl
    · exact ⟨_, rfl, by decide⟩
    · exact ⟨_, rfl, by omega⟩
  refine ⟨b, m, k, rn, 1, mo, rfl, by decide, by decide, b4, hm4, nmb, hk, hmo, fun H5 v d r5 c5 f5 b5 hm5 hd5 no5 ly5 hc5 hr5 => ⟨(by show 2 ≤ sizeLine; decide), fun t nt => ?_⟩⟩
  have g6 : Fr b H5 (upd H5 t (.tup [.str k, v])) := Fr.of (same_new nt _)
  have fr : Fr b H (upd H5 t (.tup [.str k, v])) := by
    intro a o n1 ha
    have ha1 := f1 a o n1 ha
    have nam : a ≠ m := ne_of_none ha1 nm
    exact g6 a o n1 (f5 a o n1 nam (f4 a o n1 (same_new nl _ _ _ (g2 a o n1 ha1))))
  refine q _ _ _ d fr (b5.keep (same_new nt _)) upd_same (b5.ne nt).symm (hd5.fr g6) ?_ ly5 no5
  show (inS (.str k) kinds && okN 0 (bodyN k 4 d)) = true
  rw [kinds_in hk, hc5]
  exact decide_eq_true (by omega)
end
def spLaw (K : PySem.W.Frag) : Sp := fun vs H Q _ => ∃ (a : Addr) (ns : List Int), vs = [.ref a] ∧ SqL K H a (ns.map V.int) ∧ ns.length ≤ 63 ∧ ∀ H', Q (.bl true) H'
theorem rep_snoc (i : Nat) : (List.replicate i true).map V.bl ++ [V.bl true] = (List.replicate (i + 1) true).map V.bl := by
  rw [List.map_replicate, List.map_replicate, ← List.replicate_succ']
theorem all_rep (n : Nat) : (List.replicate n true).all id = true := by
  induction n with
  | zero => rfl
  | succ n ih => rw [List.replicate_succ, List.all_cons, ih]; rfl
theorem inV_ints {z : Int} {ns : List Int} (h : z ∈ ns) : inV (.int z) (ns.map V.int) = true := by
  unfold inV
  rw [List.any_eq_true]
  exact ⟨.int z, List.mem_map_of_mem h, by simp [eqV]⟩
theorem flat_ints (ns : List Int) : (ns.map V.int).all flatV = true := by
  rw [List.all_eq_true]
  intro v m
  obtain ⟨n, _, rfl⟩ := List.mem_map.mp m
  rfl
theorem ints_get {ns : List Int} {i : Nat} {v : V} (h : (ns.map V.int)[i]? = some v) : ∃ n, ns[i]? = some n ∧ v = .int n := by
  rw [List.getElem?_map] at h
  cases e : ns[i]? with
  | none => rw [e] at h; cases h
  | some n => rw [e] at h; exact ⟨n, rfl, by injection h with h; exact h.symm⟩
/-- [place in B for place in A], A and B lists of positions, each of A's in B -/
theorem lc_allin {K : PySem.W.Frag} {a p : Addr} {xs ys : List Int} {j : Nat} {σ : L2.St} {H : Hp} {D : Addr} {tb : TE} {Qd : Hp → Prop} (hw : ∀ x : V, wipe ((wipe σ [j]).set j (some x)) [j] = wipe σ [j] ∧ ((wipe σ [j]).set j (some x))[j]? = some (some x))
    (htb : ∀ (x : V) (H' : Hp) (Q : VK), Same H H' → Q (.ref p) H' → tb ((wipe σ [j]).set j (some x)) H' Q) (ha : H a = some (.lst (xs.map V.int))) (hp : H p = some (.lst (ys.map V.int))) (hs : ∀ z ∈ xs, z ∈ ys) (hl : xs.length ≤ 100000) (nD : H D = none) (hd : ∀ H', Same H H' → H' D = some (.lst ((List.replicate xs.length true).map V.bl)) → Qd H') :
    ∃ W : Nat → Nat → Hp → Prop, (∃ m, W 0 m (upd H D (.lst []))) ∧ ∀ i m H, W i m H →
      ((Itl K a).stop i H ∧ Qd H) ∨ ((Itl K a).go i H ∧ ∃ Nx : Hp → Prop, (∀ H', Nx H' → ∃ m', m' < m ∧ W (i + 1) m' H') ∧ ∀ x H', (Itl K a).yld i H x H' → (gName j) x (wipe σ [j]) H' fun σ2 H2 => wipe σ2 [j] = wipe σ [j] ∧ tYes σ2 H2 fun b H3 =>
        if b = true then (tOp (rIn K false) (tVar j) tb) σ2 H3 fun y H4 => ∃ acc, H4 D = some (.lst acc) ∧ acc.length < sizeLine ∧ Nx (upd H4 D (.lst (acc ++ [y]))) else Nx H3) := by
  refine lc_list (K := K) (a := a) (xs := xs.map V.int) (fun i H' => Same H H' ∧ H' D = some (.lst ((List.replicate i true).map V.bl))) ⟨same_new nD _, upd_same⟩ (fun i H' _ ⟨s1, _⟩ => SqL.of (s1 _ _ ha)) ?_ ?_
  · rintro i v H1 hv ⟨s1, e1⟩
    obtain ⟨n, hn, rfl⟩ := ints_get hv
    have hi : i < xs.length := (List.getElem?_eq_some_iff.mp hn).1
    refine ⟨(hw _).1, ?_⟩
    dsimp only [tYes]
    rw [if_pos rfl]
    refine ⟨_, (hw _).2, htb _ _ _ s1 ?_⟩
    refine ⟨p, ys.map V.int, rfl, .inl (SqL.of (s1 _ _ hp)), rfl, flat_ints ys, _, e1, by rw [List.length_map, List.length_replicate]; exact Nat.lt_of_le_of_lt (by omega : i ≤ 100000) (by decide), same_upd s1 nD _, ?_⟩
    rw [upd_same]
    have e : (if false = true then !inV (V.int n) (ys.map V.int) else inV (V.int n) (ys.map V.int)) = true := by rw [if_neg (by decide)]; exact inV_ints (hs n (List.mem_of_getElem? hn))
    rw [e, rep_snoc]
  · rintro H1 ⟨s1, e1⟩
    rw [List.length_map] at e1
    exact hd _ s1 e1
theorem imp_of {P Q : Prop} (f : P → Q) (p : P) : Q := f p
theorem imp_of2 {H : Hp} {P : Hp → Prop} {Q : Prop} (f : (∀ H', Same H H' → P H') → Q) (p : ∀ H', Same H H' → P H') : Q := f p
theorem pw_le {l : List Int} (h : l.Pairwise (· ≤ ·)) {i j : Nat} {a b : Int} (hij : i ≤ j) (hi : l[i]? = some a) (hj : l[j]? = some b) : a ≤ b := by
  obtain ⟨li, rfl⟩ := List.getElem?_eq_some_iff.mp hi
  obtain ⟨lj, rfl⟩ := List.getElem?_eq_some_iff.mp hj
  rcases Nat.lt_or_ge i j with c | c
  · exact List.pairwise_iff_getElem.mp h i j li lj c
  · have : i = j := by omega
    subst this
    exact Int.le_refl _
theorem qs_len {code : List Ins} {x : Int} {mem : Int → Bool} {lim : Option Int} : ∀ (n : Nat) (s : S3) (t : Int) (seen : List (S3 × Int)) (ps : List Int), (resQs (loopF code x mem lim n s t seen ps)).length ≤ ps.length + n
  | 0, s, t, seen, ps => Nat.le_refl _
  | n + 1, s, t, seen, ps => by
    rw [loopF_eq]
    cases lookS s seen with
    | some f => cases lim <;> exact Nat.le_add_right _ _
    | none =>
      cases code[s.pc]? with
      | none => exact Nat.le_add_right _ _
      | some i =>
        dsimp only
        split
        · exact Nat.le_add_right _ _
        · cases ansOf i with
          | some v => exact Nat.le_add_right _ _
          | none =>
            have h1 := askQ_len x s i ps
            have h2 := qs_len (code := code) (x := x) (mem := mem) (lim := lim) n (nextS x mem s i) (t + i.cost) (seen ++ [(s, t)]) (askQ x s i ps)
            dsimp only
            omega
theorem ps_few {code : List Ins} {x : Int} {mem : Int → Bool} {lim : Option Int} (h : code.length ≤ 100) : (resPs (runF code x mem lim)).length ≤ 100000 := by
  rw [resPs_eq, (isort_perm _).length_eq]
  have := qs_len (code := code) (x := x) (mem := mem) (lim := lim) (fuel code) ⟨0, 0, 0⟩ 0 [] []
  unfold runF
  unfold fuel at this ⊢
  simp only [List.length_nil] at this
  omega
/-! ### the law's own steps -/
abbrev sTO : Stmt := top 56
abbrev sTr : Stmt := top 57
abbrev sNx : Stmt := top 58
abbrev sPlc : Stmt := top 59
def stV (s : S3) : List V := [.int (s.pc : Nat), .int s.a, .int s.b]
def spTO (K : PySem.W.Frag) : Sp := fun vs H Q _ => ∃ (v : V) (st : Addr) (d : PyData) (s : S3), vs = [v, .ref st] ∧ Dp K H v d ∧ isTerm d = true ∧ SqT K H st (stV s) ∧ Q (.int (tval s.a s.b d)) H
def spTr (K : PySem.W.Frag) : Sp := fun vs H Q _ => ∃ (v : V) (st : Addr) (d : PyData) (s : S3), vs = [v, .ref st] ∧ Dp K H v d ∧ isCond d = true ∧ SqT K H st (stV s) ∧ Q (.bl (cval s.a s.b d)) H
def heldN (an : Int) (s : S3) : Ins → Int × Int
  | .ask _ _ z => vput z an (s.a, s.b)
  | i => i.held s.a s.b
def spNx (K : PySem.W.Frag) : Sp := fun vs H Q _ => ∃ (v : V) (st : Addr) (an : Int) (i : Ins) (s : S3) (k : Str), vs = [v, .ref st, .int an] ∧ Dp K H v i.toD ∧ i.ok k ∧ SqT K H st (stV s) ∧
  ∀ H' r, Same H H' → H r = none → H' r = some (.tup [.int ((s.pc + 1 : Nat) : Int), .int (heldN an s i).1, .int (heldN an s i).2]) → Q (.ref r) H'
def spPlc (K : PySem.W.Frag) : Sp := fun vs H Q _ => ∃ (v : V) (st : Addr) (x : Int) (g : Str) (d : PyData) (z : Str) (k : Str) (s : S3), vs = [v, .ref st, .int x] ∧ Dp K H v (Ins.ask g d z).toD ∧ (Ins.ask g d z).ok k ∧ SqT K H st (stV s) ∧
  ∀ H', Same H H' → Q (.int (place x s.a s.b g d)) H'
section
variable {P : Program} {w : World} {K : PySem.W.Frag} {mg : Str → Option Value} {base : Heap}
theorem scTO : FnScope ["_law_term_here", "_law_state"] ["_law_term_here", "_law_state"] (defScope sTO) := ⟨rfl, rfl, rfl, by decide +kernel, rfl, by decide +kernel, by decide +kernel⟩
theorem ok_TO {f : Addr} {fd : FuncData} (F : Fun K "_law_term_of" "_law_term_of" sTO f fd) : FnOk P w K mg base CX0 1 f fd ["_law_term_here", "_law_state"] (spTO K) := by
  refine F.ok scTO (fun vs H Q E h => ?_) (fun cdv A outer s H vs Q E hr h => ?_)
  · obtain ⟨v, st, d, s, rfl, _⟩ := h
    rfl
  obtain ⟨v, st, d, s3, rfl, hd, ht, hs, q⟩ := h
  refine ⟨_, pss_cons (ps_if (pt_cmpR op_eq (pv 0) pe_str (nomark _)) (pss_one (ps_ret (pe_ix ix_tup (pv 1) pe_int (fun _ _ => rfl)))) pss_nil)
    (pss_cons (ps_if (pt_cmpR op_eq (pv 0) pe_str (nomark _)) (pss_one (ps_ret (pe_ix ix_tup (pv 1) pe_int (fun _ _ => rfl)))) pss_nil)
    (pss_one (ps_ret (pv 0)))), ?_⟩
  rcases term_cases ht with ⟨z, rfl, rfl | rfl⟩ | ⟨i, rfl, h0, h1⟩
  · cases hd
    exact ⟨_, rfl, rfl, _, rfl, strT ⟨_, rfl, st, _, _, _, rfl, rfl, hs, atI_nat (j := 1) rfl, q⟩⟩
  · cases hd
    exact ⟨_, rfl, rfl, _, rfl, strF (by decide +kernel) ⟨_, rfl, rfl, _, rfl, strT ⟨_, rfl, st, _, _, _, rfl, rfl, hs, atI_nat (j := 2) rfl, q⟩⟩⟩
  · cases hd
    refine ⟨_, rfl, rfl, _, rfl, ite2 (fun c => absurd (of_decide_eq_true c) (fun z => nomatch z)) (fun _ => ?_)⟩
    refine ⟨_, rfl, rfl, _, rfl, ite2 (fun c => absurd (of_decide_eq_true c) (fun z => nomatch z)) (fun _ => ?_)⟩
    exact ⟨_, rfl, q⟩
theorem scTr : FnScope ["_law_condition_here", "_law_state", "_law_value", "_law_other"] ["_law_condition_here", "_law_state"] (defScope sTr) := ⟨rfl, rfl, rfl, by decide +kernel, rfl, by decide +kernel, by decide +kernel⟩
theorem ok_Tr {f : Addr} {fd : FuncData} (F : Fun K "_law_true" "_law_true" sTr f fd) (CT : Cal P w K mg base 1 "_law_term_of" ["_law_term_here", "_law_state"] (spTO K)) : FnOk P w K mg base CX0 2 f fd ["_law_condition_here", "_law_state"] (spTr K) := by
  refine F.ok scTr (fun vs H Q E h => ?_) (fun cdv A outer s H vs Q E hr h => ?_)
  · obtain ⟨v, st, d, s, rfl, _⟩ := h
    rfl
  obtain ⟨v, st, d, s3, rfl, hd, hc, hs, q⟩ := h
  refine ⟨_, pss_cons (ps_set (i := 2) scTr.nd rfl (.inl rfl) (pe_call CT.G hr rfl CT.m CT.kp CT.b .nil pass0 (pa_cons (pe_ix ix_tup (pv 0) pe_int (fun _ _ => rfl)) (pa_cons (pv 1) pa_nil))))
    (pss_cons (ps_set (i := 3) scTr.nd rfl (.inl rfl) (pe_call CT.G hr rfl CT.m CT.kp CT.b .nil pass0 (pa_cons (pe_ix ix_tup (pv 0) pe_int (fun _ _ => rfl)) (pa_cons (pv 1) pa_nil))))
    (pss_cons (ps_if (pt_cmpR op_eq (pe_ix ix_tup (pv 0) pe_int (fun _ _ => rfl)) pe_str (nomark _)) (pss_one (ps_ret (pe_cmpR op_eq (pv 2) (pv 3) (nomark _)))) pss_nil)
    (pss_cons (ps_if (pt_cmpR op_eq (pe_ix ix_tup (pv 0) pe_int (fun _ _ => rfl)) pe_str (nomark _)) (pss_one (ps_ret (pe_cmpR op_ne (pv 2) (pv 3) (nomark _)))) pss_nil)
    (pss_one (ps_ret (pe_cmpR op_lt (pv 2) (pv 3) (nomark _))))))), ?_⟩
  obtain ⟨v0, g, t0, rfl, hv0, hg, ht⟩ := cond_cases hc
  obtain ⟨p, xs, rfl, hp, ha⟩ := dp_tup_inv hd
  obtain ⟨x, y, z, rfl, hx, hy, hz⟩ := dp_trip ha
  cases hx
  cases hy
  have eC : cval s3.a s3.b (.tuple [.str v0, .str g, t0]) = (if g = "==" then decide (vget s3.a s3.b v0 = tval s3.a s3.b t0) else if g = "!=" then !decide (vget s3.a s3.b v0 = tval s3.a s3.b t0) else decide (vget s3.a s3.b v0 < tval s3.a s3.b t0)) := rfl
  rw [eC] at q
  have hv1 : isTerm (.str v0) = true := by rcases hv0 with rfl | rfl <;> decide +kernel
  refine ⟨_, rfl, p, _, _, _, rfl, rfl, hp, atI_nat (j := 0) rfl, _, rfl, _, st, .str v0, s3, rfl, .str _, hv1, hs, ?_⟩
  refine ⟨_, rfl, p, _, _, _, rfl, rfl, hp, atI_nat (j := 2) rfl, _, rfl, _, st, t0, s3, rfl, hz, ht, hs, ?_⟩
  show (tSeq _ _) _ [_, _, some (.int (vget s3.a s3.b v0)), some (.int (tval s3.a s3.b t0))] _
  generalize vget s3.a s3.b v0 = X at q ⊢
  generalize tval s3.a s3.b t0 = Y at q ⊢
  refine ⟨_, rfl, p, _, _, _, rfl, rfl, hp, atI_nat (j := 1) rfl, rfl, _, rfl, ?_⟩
  have eqq : decide (V.int X = V.int Y) = decide (X = Y) := by
    by_cases c : X = Y
    · rw [decide_eq_true c]; exact decide_eq_true (by rw [c])
    · rw [decide_eq_false c]; exact decide_eq_false (fun z => c (by injection z))
  rcases hg with rfl | rfl | rfl
  · rw [if_pos rfl] at q
    refine strT ⟨_, rfl, _, rfl, rfl, ?_⟩
    rw [eqq]; exact q
  · rw [if_neg (by decide +kernel), if_pos rfl] at q
    refine strF (by decide +kernel) ⟨_, rfl, p, _, _, _, rfl, rfl, hp, atI_nat (j := 1) rfl, rfl, _, rfl, strT ⟨_, rfl, _, rfl, rfl, ?_⟩⟩
    rw [eqq]; exact q
  · rw [if_neg (by decide +kernel), if_neg (by decide +kernel)] at q
    exact strF (by decide +kernel) ⟨_, rfl, p, _, _, _, rfl, rfl, hp, atI_nat (j := 1) rfl, rfl, _, rfl, strF (by decide +kernel) ⟨_, rfl, _, rfl, _, _, rfl, rfl, q⟩⟩
theorem find_ab {z : Str} (h : okV z) : Txt.find ("ab" : Str) z = (if z = "a" then 0 else 1) := by
  rcases h with rfl | rfl <;> decide +kernel
theorem scPlc : FnScope ["_law_step", "_law_state", "_law_position", "_law_value"] ["_law_step", "_law_state", "_law_position"] (defScope sPlc) := ⟨rfl, rfl, rfl, by decide +kernel, rfl, by decide +kernel, by decide +kernel⟩
theorem ok_Plc {f : Addr} {fd : FuncData} (F : Fun K "_law_place" "_law_place" sPlc f fd) (CT : Cal P w K mg base 1 "_law_term_of" ["_law_term_here", "_law_state"] (spTO K)) : FnOk P w K mg base CX0 2 f fd ["_law_step", "_law_state", "_law_position"] (spPlc K) := by
  refine F.ok scPlc (fun vs H Q E h => ?_) (fun cdv A outer s H vs Q E hr h => ?_)
  · obtain ⟨v, st, x, g, d, z, k, s, rfl, _⟩ := h
    rfl
  obtain ⟨v, st, x, g, d, z, k, s3, rfl, hd, hi, hs, q⟩ := h
  obtain ⟨_, hg, ht, hz⟩ := hi
  refine ⟨_, pss_cons (ps_set (i := 3) scPlc.nd rfl (.inl rfl) (pe_call CT.G hr rfl CT.m CT.kp CT.b .nil pass0 (pa_cons (pe_ix ix_tup (pv 0) pe_int (fun _ _ => rfl)) (pa_cons (pv 1) pa_nil))))
    (pss_one (ps_ret (pe_dget (hu_of hr) (pe_disp (pps_cons pe_str (pe_op op_add (pv 2) (pv 3)) (pps_cons pe_str (pe_op op_sub (pv 2) (pv 3)) (pps_cons pe_str (pv 3) pps_nil))) (by rfl) (by rfl) (fun z => by cases z) (by decide)) (pe_ix ix_tup (pv 0) pe_int (fun _ _ => rfl)) (fun _ _ => rfl)))), ?_⟩
  obtain ⟨p, xr, rfl, hp, ha⟩ := ins_inv hd
  obtain ⟨x0, y, x2, rfl, hx0, hy, hx2⟩ := dp_trip ha
  cases hx0
  cases hx2
  refine ⟨_, rfl, p, _, _, _, rfl, rfl, hp, atI_nat (j := 2) rfl, _, rfl, _, st, d, s3, rfl, hy, ht, hs, ?_⟩
  have eP : place x s3.a s3.b g d = (if g = "+" then x + tval s3.a s3.b d else if g = "-" then x - tval s3.a s3.b d else tval s3.a s3.b d) := rfl
  rw [eP] at q
  generalize tval s3.a s3.b d = Y at q ⊢
  refine fun dd ndd => ?_
  refine ⟨_, rfl, _, rfl, _, _, rfl, rfl, _, rfl, _, rfl, _, _, rfl, rfl, _, rfl, upd_same, [(Sum.inr "+", .int (x + Y)), (Sum.inr "-", .int (x - Y)), (Sum.inr "=", .int Y)], rfl, by show 3 ≤ 15; decide, ?_⟩
  have s1 : Same H (upd (upd H dd (.dK [])) dd (.dK (mergeK [] [((Sum.inr "+" : Key), V.int (x + Y)), (Sum.inr "-", .int (x - Y)), (Sum.inr "=", .int Y)]))) := same_upd (same_new ndd _) ndd _
  have hget : ∀ n : Int, valV (mergeK [] [((Sum.inr "+" : Key), V.int (x + Y)), (Sum.inr "-", .int (x - Y)), (Sum.inr "=", .int Y)]) (Sum.inr g : Key) = some (.int n) → DGet (upd (upd H dd (.dK [])) dd (.dK (mergeK [] [((Sum.inr "+" : Key), V.int (x + Y)), (Sum.inr "-", .int (x - Y)), (Sum.inr "=", .int Y)]))) dd (.str g) (some (.int n)) := fun n e => by rw [← e]; exact DGet.k (k := Sum.inr g) upd_same
  refine ⟨_, rfl, p, _, _, _, rfl, rfl, Same.tup s1 hp, atI_nat (j := 1) rfl, dd, _, rfl, hget _ ?_, q _ s1⟩
  rcases hg with rfl | rfl | rfl
  · rw [if_pos rfl]; rfl
  · rw [if_neg (by decide +kernel), if_pos rfl]; rfl
  · rw [if_neg (by decide +kernel), if_neg (by decide +kernel)]; rfl
theorem scNx : FnScope ["_law_step", "_law_state", "_law_answer", "_law_found", "_law_at"] ["_law_step", "_law_state", "_law_answer"] (defScope sNx) := ⟨rfl, rfl, rfl, by decide +kernel, rfl, by decide +kernel, by decide +kernel⟩
theorem ok_Nx {f : Addr} {fd : FuncData} (F : Fun K "_law_next" "_law_next" sNx f fd) (T : Gs K mg) (ml : mg "list" = none) (CT : Cal P w K mg base 1 "_law_term_of" ["_law_term_here", "_law_state"] (spTO K)) : FnOk P w K mg base CX0 2 f fd ["_law_step", "_law_state", "_law_answer"] (spNx K) := by
  refine F.ok scNx (fun vs H Q E h => ?_) (fun cdv A outer s H vs Q E hr h => ?_)
  · obtain ⟨v, st, an, i, s, k, rfl, _⟩ := h
    rfl
  obtain ⟨v, st, an, i, s3, k, rfl, hd, hi, hs, q⟩ := h
  refine ⟨_, pss_cons (ps_set (i := 3) scNx.nd rfl (.inl rfl) (pe_callTy call_list_of (by rfl) ml (by decide +kernel) (pa_cons (pv 1) pa_nil)))
    (pss_cons (ps_asg (pe_op op_add (pe_ix ix_list (pv 3) pe_int (fun _ _ => rfl)) pe_int) (pg_sub (pv 3) pe_int set_list))
    (pss_cons (ps_if (pt_cmpR op_eq (pe_ix ix_tup (pv 0) pe_int (fun _ _ => rfl)) pe_str (nomark _))
        (pss_one (ps_asg (pe_ix ix_tup (pv 0) pe_int (fun _ _ => rfl)) (pg_sub (pv 3) (pe_op op_add pe_int (pe_m1 PySem.F.slot_str_find PySem.F.type_str_find mt_find pe_str (pe_ix ix_tup (pv 0) pe_int (fun _ _ => rfl)))) set_list)))
        (pss_one (ps_if (pt_cmpR op_eq (pe_ix ix_tup (pv 0) pe_int (fun _ _ => rfl)) pe_str (nomark _))
          (pss_cons (ps_set (i := 4) scNx.nd rfl (.inl rfl) (pe_op op_add pe_int (pe_m1 PySem.F.slot_str_find PySem.F.type_str_find mt_find pe_str (pe_ix ix_tup (pv 0) pe_int (fun _ _ => rfl)))))
          (pss_one (ps_asg (pe_op op_mod (pe_op op_add (pe_ix ix_list (pv 3) (pv 4) (fun _ _ => rfl)) (pe_call CT.G hr rfl CT.m CT.kp CT.b .nil pass0 (pa_cons (pe_ix ix_tup (pv 0) pe_int (fun _ _ => rfl)) (pa_cons (pv 1) pa_nil)))) pe_int) (pg_sub (pv 3) (pv 4) set_list))))
          (pss_one (ps_if (pt_cmpR op_eq (pe_ix ix_tup (pv 0) pe_int (fun _ _ => rfl)) pe_str (nomark _))
            (pss_one (ps_asg (pv 2) (pg_sub (pv 3) (pe_op op_add pe_int (pe_m1 PySem.F.slot_str_find PySem.F.type_str_find mt_find pe_str (pe_ix ix_tup (pv 0) pe_int (fun _ _ => rfl)))) set_list))) pss_nil)))))
    (pss_one (ps_ret (pe_callTy call_tuple_of (by rfl) T.tup (by decide +kernel) (pa_cons (pv 3) pa_nil)))))), ?_⟩
  obtain ⟨p, xr, rfl, hp, ha⟩ := ins_inv hd
  refine ⟨_, rfl, st, _, rfl, .inr hs, fun l nl => ?_⟩
  have s1 := same_new nl (.lst (stV s3))
  have e1 : (upd H l (.lst (stV s3))) l = some (.lst (stV s3)) := upd_same
  generalize upd H l (.lst (stV s3)) = H1 at s1 e1 ⊢
  refine ⟨_, rfl, l, _, _, _, rfl, rfl, SqL.of e1, atI_nat (j := 0) rfl, _, _, rfl, rfl, _, rfl, l, _, _, 0, rfl, rfl, e1, ixN_at (by decide : 0 < 3), ?_⟩
  have s2 : Same H (upd H1 l (.lst ((stV s3).set 0 (.int ((s3.pc : Nat) + 1))))) := same_upd s1 nl _
  have e2 : (upd H1 l (.lst ((stV s3).set 0 (.int ((s3.pc : Nat) + 1))))) l = some (.lst [.int ((s3.pc + 1 : Nat) : Int), .int s3.a, .int s3.b]) := upd_same
  generalize upd H1 l (.lst ((stV s3).set 0 (.int ((s3.pc : Nat) + 1)))) = H2 at s2 e2 ⊢
  have fin : ∀ (J : Hp) (a' b' : Int), Same H J → (a', b') = heldN an s3 i → ∀ t, J t = none → Q (.ref t) (upd J t (.tup [.int ((s3.pc + 1 : Nat) : Int), .int a', .int b'])) := by
    intro J a' b' sJ eh t nt
    refine q _ t (sJ.trans (same_new nt _)) (sJ.free nt) ?_
    rw [← eh]
    exact upd_same
  have hp2 := Same.tup s2 hp
  have put : ∀ (J : Hp) (z : Str) (n : Int), okV z → Same H J → J l = some (.lst [.int ((s3.pc + 1 : Nat) : Int), .int s3.a, .int s3.b]) → vput z n (s3.a, s3.b) = heldN an s3 i →
      ∃ m : Nat, ixN 3 (1 + Txt.find ("ab" : Str) z) = some m ∧ ∃ a' b', Same H (upd J l (.lst (([.int ((s3.pc + 1 : Nat) : Int), .int s3.a, .int s3.b] : List V).set m (.int n)))) ∧ (upd J l (.lst (([.int ((s3.pc + 1 : Nat) : Int), .int s3.a, .int s3.b] : List V).set m (.int n)))) l = some (.lst [.int ((s3.pc + 1 : Nat) : Int), .int a', .int b']) ∧ (a', b') = heldN an s3 i := by
    intro J z n hz sJ eJ eh
    rw [find_ab hz]
    rcases hz with rfl | rfl
    · exact ⟨1, by rw [if_pos rfl]; rfl, n, s3.b, same_upd sJ nl _, upd_same, eh⟩
    · exact ⟨2, by rw [if_neg (by decide +kernel)]; rfl, s3.a, n, same_upd sJ nl _, upd_same, eh⟩
  refine ⟨_, rfl, p, _, _, _, rfl, rfl, hp2, atI_nat (j := 0) rfl, rfl, _, rfl, ?_⟩
  have no3 : ∀ h : heldN an s3 i = (s3.a, s3.b), ∀ t, H2 t = none → Q (.ref t) (upd H2 t (.tup [.int ((s3.pc + 1 : Nat) : Int), .int s3.a, .int s3.b])) := fun h => fin H2 _ _ s2 h.symm
  cases i with
  | set z n =>
    obtain ⟨x, y, rfl, hx, hy⟩ := dp_pair ha
    cases hx
    cases hy
    obtain ⟨m, em, a', b', sJ, eJ, eh⟩ := put H2 z n hi.1 s2 e2 rfl
    refine strT ⟨_, rfl, p, _, _, _, rfl, rfl, hp2, atI_nat (j := 2) rfl, _, rfl, ⟨_, rfl⟩, _, rfl, p, _, _, _, rfl, rfl, hp2, atI_nat (j := 1) rfl, _, _, rfl, rfl, _, _, rfl, rfl, l, _, _, m, rfl, rfl, e2, em, ?_⟩
    exact ⟨_, rfl, l, _, rfl, .inl ⟨SqL.of eJ, fin _ a' b' sJ eh⟩⟩
  | add z d =>
    obtain ⟨x, y, rfl, hx, hy⟩ := dp_pair ha
    cases hx
    obtain ⟨m, em, a', b', sJ, eJ, eh⟩ := put H2 z ((vget s3.a s3.b z + tval s3.a s3.b d) % 16) hi.1 s2 e2 rfl
    refine strF (by simp only [Ins.word]; decide +kernel) ⟨_, rfl, p, _, _, _, rfl, rfl, hp2, atI_nat (j := 0) rfl, rfl, _, rfl, strT ?_⟩
    refine ⟨⟨_, rfl⟩, _, rfl, p, _, _, _, rfl, rfl, hp2, atI_nat (j := 1) rfl, _, _, rfl, rfl, _, _, rfl, rfl, ?_⟩
    have hat : ∃ j : Nat, (1 + Txt.find ("ab" : Str) z) = (j : Int) ∧ ([.int ((s3.pc + 1 : Nat) : Int), .int s3.a, .int s3.b] : List V)[j]? = some (.int (vget s3.a s3.b z)) := by
      rw [find_ab hi.1]
      rcases hi.1 with rfl | rfl
      · exact ⟨1, by rw [if_pos rfl]; rfl, rfl⟩
      · exact ⟨2, by rw [if_neg (by decide +kernel)]; rfl, rfl⟩
    obtain ⟨j, ej, hj⟩ := hat
    rw [ej] at em
    dsimp only
    rw [ej]
    refine ⟨_, rfl, _, rfl, l, _, _, _, rfl, rfl, SqL.of e2, atI_nat (j := j) hj, ?_⟩
    refine ⟨_, rfl, p, _, _, _, rfl, rfl, hp2, atI_nat (j := 2) rfl, _, rfl, _, st, d, s3, rfl, dp_mono s2 _ _ hy, hi.2, Same.tup s2 hs, ?_⟩
    refine ⟨_, _, rfl, rfl, _, _, rfl, rfl, (by show (0 : Int) < 16; decide), _, rfl, _, rfl, l, _, _, m, rfl, rfl, e2, em, ?_⟩
    exact ⟨_, rfl, l, _, rfl, .inl ⟨SqL.of eJ, fin _ a' b' sJ eh⟩⟩
  | ask g d z =>
    obtain ⟨x, y, x2, rfl, hx, hy, hz⟩ := dp_trip ha
    cases hz
    obtain ⟨m, em, a', b', sJ, eJ, eh⟩ := put H2 z an hi.2.2.2 s2 e2 rfl
    refine strF (by simp only [Ins.word]; decide +kernel) ⟨_, rfl, p, _, _, _, rfl, rfl, hp2, atI_nat (j := 0) rfl, rfl, _, rfl, strF (by simp only [Ins.word]; decide +kernel) ⟨_, rfl, p, _, _, _, rfl, rfl, hp2, atI_nat (j := 0) rfl, rfl, _, rfl, strT ?_⟩⟩
    refine ⟨_, rfl, _, rfl, ⟨_, rfl⟩, _, rfl, p, _, _, _, rfl, rfl, hp2, atI_nat (j := 3) rfl, _, _, rfl, rfl, _, _, rfl, rfl, l, _, _, m, rfl, rfl, e2, em, ?_⟩
    exact ⟨_, rfl, l, _, rfl, .inl ⟨SqL.of eJ, fin _ a' b' sJ eh⟩⟩
  | wait n => exact strF (by simp only [Ins.word]; decide +kernel) ⟨_, rfl, p, _, _, _, rfl, rfl, hp2, atI_nat (j := 0) rfl, rfl, _, rfl, strF (by simp only [Ins.word]; decide +kernel) ⟨_, rfl, p, _, _, _, rfl, rfl, hp2, atI_nat (j := 0) rfl, rfl, _, rfl, strF (by simp only [Ins.word]; decide +kernel) ⟨_, rfl, l, _, rfl, .inl ⟨SqL.of e2, no3 rfl⟩⟩⟩⟩
  | ans n => exact strF (by simp only [Ins.word]; decide +kernel) ⟨_, rfl, p, _, _, _, rfl, rfl, hp2, atI_nat (j := 0) rfl, rfl, _, rfl, strF (by simp only [Ins.word]; decide +kernel) ⟨_, rfl, p, _, _, _, rfl, rfl, hp2, atI_nat (j := 0) rfl, rfl, _, rfl, strF (by simp only [Ins.word]; decide +kernel) ⟨_, rfl, l, _, rfl, .inl ⟨SqL.of e2, no3 rfl⟩⟩⟩⟩
  | grow n => exact strF (by simp only [Ins.word]; decide +kernel) ⟨_, rfl, p, _, _, _, rfl, rfl, hp2, atI_nat (j := 0) rfl, rfl, _, rfl, strF (by simp only [Ins.word]; decide +kernel) ⟨_, rfl, p, _, _, _, rfl, rfl, hp2, atI_nat (j := 0) rfl, rfl, _, rfl, strF (by simp only [Ins.word]; decide +kernel) ⟨_, rfl, l, _, rfl, .inl ⟨SqL.of e2, no3 rfl⟩⟩⟩⟩
  | lst n => exact strF (by simp only [Ins.word]; decide +kernel) ⟨_, rfl, p, _, _, _, rfl, rfl, hp2, atI_nat (j := 0) rfl, rfl, _, rfl, strF (by simp only [Ins.word]; decide +kernel) ⟨_, rfl, p, _, _, _, rfl, rfl, hp2, atI_nat (j := 0) rfl, rfl, _, rfl, strF (by simp only [Ins.word]; decide +kernel) ⟨_, rfl, l, _, rfl, .inl ⟨SqL.of e2, no3 rfl⟩⟩⟩⟩
  | test n u => exact strF (by simp only [Ins.word]; decide +kernel) ⟨_, rfl, p, _, _, _, rfl, rfl, hp2, atI_nat (j := 0) rfl, rfl, _, rfl, strF (by simp only [Ins.word]; decide +kernel) ⟨_, rfl, p, _, _, _, rfl, rfl, hp2, atI_nat (j := 0) rfl, rfl, _, rfl, strF (by simp only [Ins.word]; decide +kernel) ⟨_, rfl, l, _, rfl, .inl ⟨SqL.of e2, no3 rfl⟩⟩⟩⟩
  | jump n => exact strF (by simp only [Ins.word]; decide +kernel) ⟨_, rfl, p, _, _, _, rfl, rfl, hp2, atI_nat (j := 0) rfl, rfl, _, rfl, strF (by simp only [Ins.word]; decide +kernel) ⟨_, rfl, p, _, _, _, rfl, rfl, hp2, atI_nat (j := 0) rfl, rfl, _, rfl, strF (by simp only [Ins.word]; decide +kernel) ⟨_, rfl, l, _, rfl, .inl ⟨SqL.of e2, no3 rfl⟩⟩⟩⟩
end
/-! ### where instructions lead -/
def Ins.tgt : Ins → Nat
  | .test _ t => t
  | .jump t => t
  | _ => 0
theorem plain_tgt {k : Str} {s : PyData} {i : Ins} (h : isPlain s k = true) (e : s = i.toD) : i.tgt = 0 := by
  obtain ⟨j, ej, hj⟩ := plain_ins h
  cases i with
  | test c t =>
    exfalso
    obtain ⟨z, ps, rs, e2, hz, _, _⟩ := plain_inv h
    rw [e] at e2
    injection e2 with e2
    injection e2 with e2 _
    injection e2 with e2
    subst e2
    unfold rolesZ at hz
    revert hz
    simp (decide := true)
  | jump t =>
    exfalso
    obtain ⟨z, ps, rs, e2, hz, _, _⟩ := plain_inv h
    rw [e] at e2
    injection e2 with e2
    injection e2 with e2 _
    injection e2 with e2
    subst e2
    unfold rolesZ at hz
    revert hz
    simp (decide := true)
  | _ => rfl
/-- the instructions of a program, none of which leads past the end -/
theorem code_tgt {k : Str} : ∀ {n c : Nat} {d : PyData} (st0 : Nat), bodyN k n d = some c → ∃ is : List Ins, bodyC n st0 d = is.map Ins.toD ∧ (∀ i ∈ is, i.ok k) ∧ ∀ i ∈ is, i.tgt ≤ st0 + is.length
  | 0, c, d, st0, h => ⟨[], rfl, (fun i m => nomatch m), (fun i m => nomatch m)⟩
  | n + 1, c, d, st0, h => by
    obtain ⟨ss, rfl⟩ := body_tuple h
    rw [bodyN_tup] at h
    show ∃ is : List Ins, codeL (stC (bodyC n)) st0 ss = is.map Ins.toD ∧ (∀ i ∈ is, i.ok k) ∧ ∀ i ∈ is, i.tgt ≤ st0 + is.length
    induction ss generalizing st0 c with
    | nil => exact ⟨[], rfl, (fun i m => nomatch m), (fun i m => nomatch m)⟩
    | cons s r ih =>
      obtain ⟨a, b, e1, e2, _, _⟩ := addO_le (show addO (stN k n s) (sumO (r.map (stN k n))) = some c from h)
      have one : ∃ is : List Ins, stC (bodyC n) st0 s = is.map Ins.toD ∧ (∀ i ∈ is, i.ok k) ∧ ∀ i ∈ is, i.tgt ≤ st0 + is.length := by
        rcases st_shape e1 with ⟨z, ps, rfl, h1, h2, hp, rfl⟩ | ⟨co, bb, c', rfl, hco, hb, rfl⟩ | ⟨co, b1, b2, c1, c2, rfl, hco, hb1, hb2, rfl⟩
        · rw [stC_plain h1 h2]
          obtain ⟨i, e, hi⟩ := plain_ins hp
          refine ⟨[i], by rw [e]; rfl, fun j m => by rw [List.mem_singleton.mp m]; exact hi, fun j m => ?_⟩
          rw [List.mem_singleton.mp m, plain_tgt hp e]
          exact Nat.zero_le _
        · rw [stC_while]
          unfold whC
          obtain ⟨is, e, hi, ht⟩ := code_tgt (st0 + 1) hb
          have el : (bodyC n (st0 + 1) bb).length = is.length := by rw [e, List.length_map]
          refine ⟨.test co (st0 + 1 + (bodyC n (st0 + 1) bb).length + 1) :: (is ++ [.jump st0]), ?_, fun j m => ?_, fun j m => ?_⟩
          · rw [e]
            simp [Ins.toD]
          · simp only [List.mem_cons, List.mem_append, List.not_mem_nil, or_false] at m
            rcases m with rfl | m | rfl
            · exact hco
            · exact hi j m
            · trivial
          · simp only [List.length_cons, List.length_append, List.length_nil]
            simp only [List.mem_cons, List.mem_append, List.not_mem_nil, or_false] at m
            rcases m with rfl | m | rfl
            · show st0 + 1 + (bodyC n (st0 + 1) bb).length + 1 ≤ _
              omega
            · have := ht j m
              omega
            · show st0 ≤ _
              omega
        · rw [stC_if]
          unfold ifC
          obtain ⟨is, e, hi, ht⟩ := code_tgt (st0 + 1) hb1
          have el : (bodyC n (st0 + 1) b1).length = is.length := by rw [e, List.length_map]
          split
          · refine ⟨.test co (st0 + 1 + (bodyC n (st0 + 1) b1).length) :: is, ?_, fun j m => ?_, fun j m => ?_⟩
            · rw [e]
              simp [Ins.toD]
            · rcases List.mem_cons.mp m with rfl | m
              · exact hco
              · exact hi j m
            · simp only [List.length_cons]
              rcases List.mem_cons.mp m with rfl | m
              · show st0 + 1 + (bodyC n (st0 + 1) b1).length ≤ _
                omega
              · have := ht j m
                omega
          · obtain ⟨js, e', hj, ht'⟩ := code_tgt (st0 + 1 + (bodyC n (st0 + 1) b1).length + 1) hb2
            have el' : (bodyC n (st0 + 1 + (bodyC n (st0 + 1) b1).length + 1) b2).length = js.length := by rw [e', List.length_map]
            refine ⟨.test co (st0 + 1 + (bodyC n (st0 + 1) b1).length + 1) :: (is ++ .jump (st0 + 1 + (bodyC n (st0 + 1) b1).length + 1 + (bodyC n (st0 + 1 + (bodyC n (st0 + 1) b1).length + 1) b2).length) :: js), ?_, fun j m => ?_, fun j m => ?_⟩
            · rw [e', e]
              simp [Ins.toD]
            · simp only [List.mem_cons, List.mem_append] at m
              rcases m with rfl | m | rfl | m
              · exact hco
              · exact hi j m
              · trivial
              · exact hj j m
            · simp only [List.length_cons, List.length_append]
              simp only [List.mem_cons, List.mem_append] at m
              rcases m with rfl | m | rfl | m
              · show st0 + 1 + (bodyC n (st0 + 1) b1).length + 1 ≤ _
                omega
              · have := ht j m
                omega
              · show st0 + 1 + (bodyC n (st0 + 1) b1).length + 1 + (bodyC n (st0 + 1 + (bodyC n (st0 + 1) b1).length + 1) b2).length ≤ _
                omega
              · have := ht' j m
                omega
      obtain ⟨is, e, hi, ht⟩ := one
      obtain ⟨js, e', hj, ht'⟩ := ih (st0 := st0 + (stC (bodyC n) st0 s).length) (c := b) e2
      have el : (stC (bodyC n) st0 s).length = is.length := by rw [e, List.length_map]
      refine ⟨is ++ js, ?_, fun j m => ?_, fun j m => ?_⟩
      · simp only [codeL]
        rw [e', e, List.map_append]
      · rcases List.mem_append.mp m with m | m
        · exact hi j m
        · exact hj j m
      · rw [List.length_append]
        rcases List.mem_append.mp m with m | m
        · have := ht j m
          omega
        · have := ht' j m
          omega
theorem next_le {code : List Ins} {x : Int} {mem : Int → Bool} {s : S3} {i : Ins} (h : s.pc < code.length) (ht : i.tgt ≤ code.length) : (nextS x mem s i).pc ≤ code.length := by
  show i.next s.pc s.a s.b ≤ _
  cases i with
  | jump t => exact ht
  | test c t =>
    show (if cval s.a s.b c = true then s.pc + 1 else t) ≤ _
    split
    · omega
    · exact ht
  | _ => exact h
/-! ### the law's dict of states -/
def seenK (seen : List (S3 × Int)) : List (List Key × V) := seen.map fun e => (keyOf e.1, V.int e.2)
theorem seenK_look (s : S3) : ∀ seen : List (S3 × Int), valV (seenK seen) (keyOf s) = (lookS s seen).map V.int
  | [] => rfl
  | (s0, t0) :: r => by
    show valV ((keyOf s0, V.int t0) :: seenK r) (keyOf s) = _
    by_cases c : s0 = s
    · subst c
      rw [valV_pos rfl]
      simp [lookS]
    · rw [valV_neg (fun z => c (keyOf_inj z)), seenK_look s r]
      simp [lookS, List.find?_cons, c]
theorem seenK_put {s : S3} {t : Int} {seen : List (S3 × Int)} (h : lookS s seen = none) : putK (seenK seen) (keyOf s) (V.int t) = seenK (seen ++ [(s, t)]) := by
  rw [putK_new _ (by rw [seenK_look, h]; rfl)]
  simp [seenK]
theorem inV_dec {z : Int} {ns : List Int} : inV (.int z) (ns.map V.int) = decide (z ∈ ns) := by
  unfold inV
  induction ns with
  | nil => rfl
  | cons n r ih =>
    rw [List.map_cons, List.any_cons, ih]
    by_cases c : z = n
    · subst c
      simp [eqV]
    · have c' : ¬ n = z := fun e => c e.symm
      simp [eqV, c, c']
theorem held_eq (x : Int) (mem : Int → Bool) (s : S3) (i : Ins) (an : Int) (h : ∀ g d z, i = .ask g d z → an = (if 0 ≤ place x s.a s.b g d ∧ mem (place x s.a s.b g d) = true then 1 else 0)) : heldN an s i = heldS x mem s i := by
  cases i with
  | ask g d z =>
    show vput z an (s.a, s.b) = _
    rw [h g d z rfl]
    rfl
  | _ => rfl
/-! ### the law's own run -/
abbrev psLR : List Str := ["_law_program_here", "_law_position", "_law_members", "_law_cap"]
/-- a run, told as a tuple -/
def TupR (H : Hp) (t q : Addr) (R : Res) : Prop := H t = some (.tup [.str (resOut R), resAns R, resLen R, resFst R, resSnd R, .ref q]) ∧ H q = some (.lst ((resPs R).map V.int))
def spLR (K : PySem.W.Frag) : Sp := fun vs H Q _ => ∃ (v : V) (m : Addr) (x : Int) (lim : Option Int) (d : PyData) (code : List Ins) (ns : List Int), vs = [v, .int x, .ref m, limV lim] ∧ Dp K H v (.tuple [.str "teller", d]) ∧ Lay (.tuple [.str "teller", d]) ∧ noL d = true ∧ isProg (.tuple [.str "teller", d]) = true ∧ bodyC 4 0 d = code.map Ins.toD ∧ (∀ i ∈ code, i.ok "teller") ∧ (∀ i ∈ code, i.tgt ≤ code.length) ∧
  SqL K H m (ns.map V.int) ∧ ∀ H' t q, Same H H' → H t = none → H q = none → TupR H' t q (runF code x (fun z => decide (z ∈ ns)) lim) → Q (.ref t) H'
/-- the state of the loop -/
structure LawI (H0 H : Hp) (st sn qs : Addr) (code : List Ins) (x : Int) (mem : Int → Bool) (lim : Option Int) (R : Res) (m : Nat) (s : S3) (t : Int) (seen : List (S3 × Int)) (ps : List Int) : Prop where
  sm : Same H0 H
  ns : H0 sn = none
  nq : H0 qs = none
  st : H st = some (.tup ((keyOf s).map kV))
  se : H sn = some (.dT (seenK seen))
  qu : H qs = some (.dK (qD ps))
  nd : (seen.map (·.1)).Nodup
  ok : ∀ e ∈ seen, okS3 code e.1
  i16 : in16 s.a s.b
  pl : ps.length ≤ seen.length
  eq : loopF code x mem lim m s t seen ps = R
  fu : m + seen.length = fuel code
  le : s.pc ≤ code.length
section
variable {P : Program} {w : World} {K : PySem.W.Frag} {mg : Str → Option Value} {base : Heap}
end
abbrev sTold : Stmt := top 60
def numV : V → Prop
  | .non => True
  | .int _ => True
  | _ => False
theorem numV_cases {v : V} (h : numV v) : v = .non ∨ ∃ i, v = .int i := by
  cases v with
  | non => exact .inl rfl
  | int i => exact .inr ⟨i, rfl⟩
  | _ => exact absurd h (fun z => z)
theorem res_num (R : Res) : numV (resAns R) ∧ numV (resLen R) ∧ numV (resFst R) ∧ numV (resSnd R) := by cases R <;> exact ⟨trivial, trivial, trivial, trivial⟩
def spTold (K : PySem.W.Frag) (C : Addr) : Sp := fun vs H Q _ => ∃ (r dx as : Addr) (o : Str) (an l f s : V) (ns : List Int), vs = [.ref r] ∧ RunV H C r dx as o an l f s ns ∧ numV an ∧ numV l ∧ numV f ∧ numV s ∧ ns.length ≤ 100000 ∧
  ∀ H' t q, Same H H' → H t = none → H q = none → H' t = some (.tup [.str o, an, l, f, s, .ref q]) → H' q = some (.lst (ns.map V.int)) → Q (.ref t) H'
theorem dp_ints {K : PySem.W.Frag} {H : Hp} : ∀ ns : List Int, DpAll K H (ns.map V.int) (ns.map PyData.int)
  | [] => .nil
  | n :: r => .cons (.int n) (dp_ints r)
section
variable {P : Program} {w : World} {K : PySem.W.Frag} {mg : Str → Option Value} {base : Heap}
theorem scTold : FnScope ["_law_found", "_law_numbers", "_law_number", "_law_place_here"] ["_law_found"] (defScope sTold) := ⟨rfl, rfl, rfl, by decide +kernel, rfl, by decide +kernel, by decide +kernel⟩
theorem ok_told {f C : Addr} {fd : FuncData} (F : Fun K "_law_told" "_law_told" sTold f fd) (T : Gs K mg) (ml : mg "list" = none) (N : RNo K C) (CW : Cal P w K mg base 1 "_law_whole" ["_law_thing"] (spL1 isInt K)) : FnOk P w K mg base CX0 2 f fd ["_law_found"] (spTold K C) := by
  refine F.ok scTold (fun vs H Q E h => ?_) (fun cdv A outer s H vs Q E hr h => ?_)
  · obtain ⟨r, dx, as, o, an, l, f, s, ns, rfl, _⟩ := h
    rfl
  obtain ⟨r, dx, as, o, an, l, f, s, ns, rfl, ⟨hr0, has⟩, na, nl, nf, nse, hnl, q⟩ := h
  refine ⟨_, pss_cons (ps_set (i := 1) scTold.nd rfl (.inl rfl) (pe_lst (pa_cons (pe_fld (pv 0) rfl) (pa_cons (pe_fld (pv 0) rfl) (pa_cons (pe_fld (pv 0) rfl) (pa_cons (pe_fld (pv 0) rfl) pa_nil))))))
    (pss_cons (ps_if (PW.pt (pw_or (pt_not (pt_val (pe_callB (cr_all rfl) (by rfl) T.all (by decide +kernel) (pa_cons (pe_lc (own := [("_law_number", 2)]) (g := gName 2) (tt := tYes) rfl scTold.nd (pi_list (pv 1)) (blkOk_by (N := ["_law_found", "_law_numbers", "_law_number", "_law_place_here"]) (sc := defScope sTold) (by decide +kernel))
          (fun _ _ _ _ _ => pg_name (i := 2) scTold.nd rfl (.inl rfl)) (fun _ _ _ _ _ => pts_nil) (fun _ _ _ _ _ => pe_or (pe_cmpR op_isN (pv 2) pe_non (nomark _)) (pe_one (pe_call CW.G hr rfl CW.m CW.kp CW.b .nil pass0 (pa_cons (pv 2) pa_nil))))) pa_nil))))
        (pw_or1 (pt_not (pt_val (pe_callB call_isi (by rfl) T.isi (by decide +kernel) (pa_cons (pe_fld (pv 0) rfl) (pa_cons (pe_bltn (v := .ty "list") (by rfl) ml (by decide +kernel) rfl) pa_nil)))))))) (pss_one (ps_ret pe_non)) pss_nil)
    (pss_cons (ps_if (PW.pt (pw_or (pt_not (pt_val (pe_callB call_isi (by rfl) T.isi (by decide +kernel) (pa_cons (pe_fld (pv 0) rfl) (pa_cons (pe_bltn (v := .ty "str") (by rfl) T.str (by decide +kernel) rfl) pa_nil)))))
        (pw_or1 (pt_not (pt_val (pe_callB (cr_all rfl) (by rfl) T.all (by decide +kernel) (pa_cons (pe_lc (own := [("_law_place_here", 3)]) (g := gName 3) (tt := tYes) rfl scTold.nd (pi_list (pe_fld (pv 0) rfl)) (blkOk_by (N := ["_law_found", "_law_numbers", "_law_number", "_law_place_here"]) (sc := defScope sTold) (by decide +kernel))
          (fun _ _ _ _ _ => pg_name (i := 3) scTold.nd rfl (.inl rfl)) (fun _ _ _ _ _ => pts_nil) (fun _ _ _ _ _ => pe_call CW.G hr rfl CW.m CW.kp CW.b .nil pass0 (pa_cons (pv 3) pa_nil))) pa_nil))))))) (pss_one (ps_ret pe_non)) pss_nil)
    (pss_one (ps_ret (pe_tup (pa_cons (pe_fld (pv 0) rfl) (pa_cons (pe_fld (pv 0) rfl) (pa_cons (pe_fld (pv 0) rfl) (pa_cons (pe_fld (pv 0) rfl) (pa_cons (pe_fld (pv 0) rfl) (pa_cons (pe_callTy call_list_of (by rfl) ml (by decide +kernel) (pa_cons (pe_fld (pv 0) rfl) pa_nil)) pa_nil))))))))))), ?_⟩
  refine ⟨_, rfl, r, C, dx, _, _, rfl, hr0, N.cl, N.nA, rfl, _, rfl, r, C, dx, _, _, rfl, hr0, N.cl, N.nL, rfl, _, rfl, r, C, dx, _, _, rfl, hr0, N.cl, N.nF, rfl, _, rfl, r, C, dx, _, _, rfl, hr0, N.cl, N.nS, rfl, (by show 4 ≤ sizeLine; decide), fun ln nln => ?_⟩
  have s1 := same_new nln (.lst [an, l, f, s])
  have e1 : (upd H ln (.lst [an, l, f, s])) ln = some (.lst [an, l, f, s]) := upd_same
  generalize upd H ln (.lst [an, l, f, s]) = H1 at s1 e1 ⊢
  have nums : ∀ (i : Nat) (v : V), ([an, l, f, s] : List V)[i]? = some v → numV v := by
    intro i v e
    have m : v ∈ [an, l, f, s] := List.mem_of_getElem? e
    simp only [List.mem_cons, List.not_mem_nil, or_false] at m
    rcases m with rfl | rfl | rfl | rfl <;> assumption
  refine ⟨_, rfl, ln, rfl, ⟨_, SqL.of e1⟩, fun D nD => lc_list (K := K) (a := ln) (xs := [an, l, f, s]) (fun i H' => Same H1 H' ∧ H' D = some (.lst ((List.replicate i true).map V.bl))) ⟨same_new nD _, upd_same⟩ (fun i H' _ ⟨s2, _⟩ => SqL.of (s2 _ _ e1)) ?_ ?_⟩
  · rintro i v H2 hv ⟨s2, e2⟩
    refine ⟨rfl, ?_⟩
    dsimp only [tYes]
    rw [if_pos rfl]
    have hi : i < 4 := (List.getElem?_eq_some_iff.mp hv).1
    have fin : ∀ H3, Same H2 H3 → ∃ acc, H3 D = some (.lst acc) ∧ acc.length < sizeLine ∧ Same H1 (upd H3 D (.lst (acc ++ [V.bl true]))) ∧ (upd H3 D (.lst (acc ++ [V.bl true]))) D = some (.lst ((List.replicate (i + 1) true).map V.bl)) := fun H3 s3 => ⟨_, s3 _ _ e2, by rw [List.length_map, List.length_replicate]; exact Nat.lt_of_le_of_lt (by omega : i ≤ 1000) (by decide), same_upd (s2.trans s3) nD _, by rw [upd_same, rep_snoc]⟩
    refine ⟨_, rfl, rfl, ?_⟩
    rcases numV_cases (nums i v hv) with rfl | ⟨n, rfl⟩
    · refine ⟨_, rfl, ite2 (fun _ => ?_) (fun c => absurd (decide_eq_true rfl) c)⟩
      exact fin H2 (Same.refl _)
    · refine ⟨_, rfl, ite2 (fun c => absurd (of_decide_eq_true c) (fun z => nomatch z)) (fun _ => ?_)⟩
      exact ⟨_, rfl, _, .int n, rfl, .int n, lay_int n, fun H3 s3 => fin H3 s3⟩
  · rintro H2 ⟨s2, e2⟩
    refine ⟨D, List.replicate 4 true, rfl, SqL.of e2, _, rfl, ?_⟩
    rw [all_rep]
    have s12 := s1.trans s2
    have hr2 := s12 _ _ hr0
    have ha2 := s12 _ _ has
    refine iteF ⟨_, rfl, r, C, dx, _, _, rfl, hr2, N.cl, N.nQ, rfl, _, .ty "list", _, _, _, rfl, .ty _, dp_ty (.lst (SqL.of ha2) (dp_ints ns)), kit_isT (.list _) (by simp) (fun _ e => nomatch e), _, rfl, ?_⟩
    refine ite2 (fun c => absurd (show false = true from c) (by decide)) (fun _ => ?_)
    refine ⟨_, rfl, r, C, dx, _, _, rfl, hr2, N.cl, N.nO, rfl, _, .ty "str", _, _, _, rfl, .ty _, dp_ty (.str o), kit_isT (.str o) (by simp) (fun _ e => nomatch e), _, rfl, ?_⟩
    refine ite2 (fun c => absurd (show false = true from c) (by decide)) (fun _ => ?_)
    refine ⟨_, rfl, r, C, dx, _, _, rfl, hr2, N.cl, N.nQ, rfl, as, rfl, ⟨_, SqL.of ha2⟩, fun D2 nD2 => lc_list (K := K) (a := as) (xs := ns.map V.int) (fun i H' => Same H2 H' ∧ H' D2 = some (.lst ((List.replicate i true).map V.bl))) ⟨same_new nD2 _, upd_same⟩ (fun i H' _ ⟨s3, _⟩ => SqL.of (s3 _ _ ha2)) ?_ ?_⟩
    · rintro i v H3 hv ⟨s3, e3⟩
      refine ⟨rfl, ?_⟩
      dsimp only [tYes]
      rw [if_pos rfl]
      have hi : i < ns.length := by
        have := (List.getElem?_eq_some_iff.mp hv).1
        rwa [List.length_map] at this
      obtain ⟨n, rfl⟩ : ∃ n, v = .int n := by
        rw [List.getElem?_map] at hv
        cases e : ns[i]? with
        | none => rw [e] at hv; cases hv
        | some n => rw [e] at hv; exact ⟨n, by injection hv with hv; exact hv.symm⟩
      refine ⟨_, rfl, _, .int n, rfl, .int n, lay_int n, fun H4 s4 => ⟨_, s4 _ _ e3, ?_, same_upd (s3.trans s4) nD2 _, ?_⟩⟩
      · rw [List.length_map, List.length_replicate]; exact Nat.lt_of_le_of_lt (by omega : i ≤ 100000) (by decide)
      · rw [upd_same]; show some (HO.lst ((List.replicate i true).map V.bl ++ [V.bl true])) = _; rw [rep_snoc]
    · rintro H3 ⟨s3, e3⟩
      refine ⟨D2, List.replicate (ns.map V.int).length true, rfl, SqL.of e3, _, rfl, ?_⟩
      rw [all_rep]
      have s13 := s12.trans s3
      have hr3 := s13 _ _ hr0
      have ha3 := s13 _ _ has
      refine iteF ?_
      refine ⟨_, rfl, r, C, dx, _, _, rfl, hr3, N.cl, N.nO, rfl, _, rfl, r, C, dx, _, _, rfl, hr3, N.cl, N.nA, rfl, _, rfl, r, C, dx, _, _, rfl, hr3, N.cl, N.nL, rfl, _, rfl, r, C, dx, _, _, rfl, hr3, N.cl, N.nF, rfl, _, rfl, r, C, dx, _, _, rfl, hr3, N.cl, N.nS, rfl, _, rfl, r, C, dx, _, _, rfl, hr3, N.cl, N.nQ, rfl, as, _, rfl, .inl (SqL.of ha3), fun qq nqq => ?_⟩
      refine ⟨(by show 6 ≤ sizeLine; decide), fun t nt => ?_⟩
      have s4 := same_new nqq (.lst (ns.map V.int))
      exact q _ t qq (s13.trans (s4.trans (same_new nt _))) ((s13.trans s4).free nt) (s13.free nqq) upd_same (same_new nt _ _ _ upd_same)
end
abbrev okS0 (z : Str) : Prop := PyData.strOk z = true
/-- the tuple that is told against the tuple that is due -/
theorem told_same {K : PySem.W.Frag} {H : Hp} {p r q u : Addr} {o : Str} {an l f s : V} {da dl df ds : PyData} {ns : List Int} {Q : VK} (hp : H p = some (.tup [.str o, an, l, f, s, .ref q])) (hq : H q = some (.lst (ns.map V.int))) (hr : H r = some (.tup [.str o, an, l, f, s, .ref u])) (hu : H u = some (.lst (ns.map V.int)))
    (h1 : Dp K H an da) (h2 : Dp K H l dl) (h3 : Dp K H f df) (h4 : Dp K H s ds) (lo : okS0 o) (l1 : Lay da ∧ da.depth = 0) (l2 : Lay dl ∧ dl.depth = 0) (l3 : Lay df ∧ df.depth = 0) (l4 : Lay ds ∧ ds.depth = 0) (k : Q (.bl false) H) : rNeD K (.ref p) (.ref r) H Q := by
  have sh : SeqAt.shaped (.tuple [.str o, da, dl, df, ds, .list (ns.map PyData.int)]) = true := by
    show ((PyData.tuple [.str o, da, dl, df, ds, .list (ns.map PyData.int)]).canLay0 && decide (_ ≤ 64)) = true
    rw [Bool.and_eq_true]
    refine ⟨lay_tuple fun d m => ?_, decide_eq_true ?_⟩
    · have m' : d = .str o ∨ d = da ∨ d = dl ∨ d = df ∨ d = ds ∨ d = .list (ns.map PyData.int) := by simpa using m
      rcases m' with rfl | rfl | rfl | rfl | rfl | rfl
      · exact lay_str lo
      · exact l1.1
      · exact l2.1
      · exact l3.1
      · exact l4.1
      · unfold Lay
        simp only [PyData.canLay0]
        exact lay_all fun d m => by obtain ⟨n, _, rfl⟩ := List.mem_map.mp m; exact lay_int n
    · have hd : PyData.depthAll (ns.map PyData.int) ≤ 0 := depth_all fun d m => by obtain ⟨n, _, rfl⟩ := List.mem_map.mp m; simp only [PyData.depth]; exact Nat.le_refl _
      simp only [PyData.depth, PyData.depthAll, l1.2, l2.2, l3.2, l4.2]
      omega
  refine ⟨_, _, .tup (SqT.of hp) (.cons (.str o) (.cons h1 (.cons h2 (.cons h3 (.cons h4 (.cons (.lst (SqL.of hq) (dp_ints ns)) .nil)))))), .tup (SqT.of hr) (.cons (.str o) (.cons h1 (.cons h2 (.cons h3 (.cons h4 (.cons (.lst (SqL.of hu) (dp_ints ns)) .nil)))))), sh, sh, ?_⟩
  rw [SeqAt.eqv_refl _ (SeqAt.canLay_of_shaped sh)]
  exact k
def numD : V → PyData
  | .int i => .int i
  | _ => .none
theorem numD_ok {K : PySem.W.Frag} {H : Hp} {v : V} (h : numV v) : Dp K H v (numD v) ∧ Lay (numD v) ∧ (numD v).depth = 0 := by
  rcases numV_cases h with rfl | ⟨i, rfl⟩
  · exact ⟨.non, by unfold Lay; simp only [numD, PyData.canLay0], by simp only [numD, PyData.depth]⟩
  · exact ⟨.int i, lay_int i, by simp only [numD, PyData.depth]⟩
theorem okOut (R : Res) : okS0 (resOut R) := by
  cases R with
  | ans _ _ _ => show okS0 "answered"; decide +kernel
  | ended _ _ => show okS0 "ended"; decide +kernel
  | silent _ _ _ => show okS0 "silent"; decide +kernel
  | run _ => show okS0 "running"; decide +kernel
/-- what is told of a run is what is due -/
theorem told_due {K : PySem.W.Frag} {H : Hp} {p r q u : Addr} {R : Res} {Q : VK} (hp : TupR H p q R) (hr : TupR H r u R) (k : Q (.bl false) H) : rNeD K (.ref p) (.ref r) H Q := by
  obtain ⟨n1, n2, n3, n4⟩ := res_num R
  exact told_same hp.1 hp.2 hr.1 hr.2 (numD_ok n1).1 (numD_ok n2).1 (numD_ok n3).1 (numD_ok n4).1 (okOut R) (numD_ok (K := K) (H := H) n1).2 (numD_ok (K := K) (H := H) n2).2 (numD_ok (K := K) (H := H) n3).2 (numD_ok (K := K) (H := H) n4).2 k
/-! ### data without lists, over a heap whose lists change -/
def tupH (H : Hp) : Hp := fun a => match H a with
  | some (.tup xs) => some (.tup xs)
  | some (.frz o u) => some (.frz o u)
  | _ => none
theorem tupH_same (H : Hp) : Same (tupH H) H := fun a o h => by
  unfold tupH at h
  split at h
  · rename_i e; rw [e]; exact h
  · rename_i e; rw [e]; exact h
  · cases h
def KeepT (H H' : Hp) : Prop := (∀ a xs, H a = some (.tup xs) → H' a = some (.tup xs)) ∧ ∀ a o u, H a = some (.frz o u) → H' a = some (.frz o u)
theorem KeepT.same {H H' : Hp} (k : KeepT H H') : Same (tupH H) (tupH H') := fun a o h => by
  unfold tupH at h
  split at h
  · rename_i e
    unfold tupH
    rw [k.1 _ _ e]
    exact h
  · rename_i e
    unfold tupH
    rw [k.2 _ _ _ e]
    exact h
  · cases h
theorem KeepT.trans {H H' H'' : Hp} (a : KeepT H H') (b : KeepT H' H'') : KeepT H H'' := ⟨fun x xs e => b.1 _ _ (a.1 _ _ e), fun x o u e => b.2 _ _ _ (a.2 _ _ _ e)⟩
theorem KeepT.of {H H' : Hp} (s : Same H H') : KeepT H H' := ⟨fun x xs e => s _ _ e, fun x o u e => s _ _ e⟩
theorem KeepT.fr {b : Addr} {H H' : Hp} (hb : ∃ xs, H b = some (.lst xs)) (f : Fr b H H') : KeepT H H' := by
  obtain ⟨xs, hb⟩ := hb
  exact ⟨fun x ys e => f _ _ (fun z => by rw [z, hb] at e; cases e) e, fun x o u e => f _ _ (fun z => by rw [z, hb] at e; cases e) e⟩
theorem KeepT.upd {b : Addr} {H : Hp} {o : HO} (hb : ∃ xs, H b = some (.lst xs)) : KeepT H (upd H b o) := KeepT.fr hb (Fr.upd o)
abbrev Dt (K : PySem.W.Frag) (H : Hp) (v : V) (d : PyData) : Prop := Dp K (tupH H) v d
theorem new_tup {K : PySem.W.Frag} {H : Hp} {p : Addr} {xs : List V} {ds : List PyData} (np : H p = none) (h : DpAll K (tupH H) xs ds) : Dt K (upd H p (.tup xs)) (.ref p) (.tuple ds) := by
  have e : tupH (upd H p (.tup xs)) p = some (.tup xs) := by unfold tupH; rw [upd_same]
  exact .tup (SqT.of e) (dpAll_mono (KeepT.of (same_new np _)).same _ _ h)
theorem Bag.lst {H : Hp} {b : Addr} (h : Bag H b) : ∃ xs, H b = some (.lst xs) := by
  obtain ⟨c, s, e, _⟩ := h
  exact ⟨_, e⟩
/-! ### a plain walk of a teller -/
structure TW where
  s : S3
  t : Int
  ps : List Int
def askP (x : Int) (s : S3) : Ins → List Int
  | .ask g d _ => if 0 ≤ place x s.a s.b g d then [place x s.a s.b g d] else []
  | _ => []
def nextT (x : Int) (mem : Int → Bool) (w : TW) (i : Ins) : TW := ⟨nextS x mem w.s i, w.t + i.cost, w.ps ++ askP x w.s i⟩
def stepT (code : List Ins) (x : Int) (mem : Int → Bool) (w : TW) : TW := match code[w.s.pc]? with
  | none => w
  | some i => if (ansOf i).isSome = true then w else nextT x mem w i
def wt (code : List Ins) (x : Int) (mem : Int → Bool) : Nat → TW
  | 0 => ⟨⟨0, 0, 0⟩, 0, []⟩
  | n + 1 => stepT code x mem (wt code x mem n)
def psQ (ps : List Int) : List Int := ps.foldl (fun acc p => putQ p acc) []
theorem psQ_snoc (ps qs : List Int) : psQ (ps ++ qs) = qs.foldl (fun acc p => putQ p acc) (psQ ps) := by
  unfold psQ
  rw [List.foldl_append]
theorem askQ_psQ (x : Int) (s : S3) (i : Ins) (ps : List Int) : askQ x s i (psQ ps) = psQ (ps ++ askP x s i) := by
  rw [psQ_snoc]
  cases i with
  | ask g d v =>
    show (if 0 ≤ place x s.a s.b g d then putQ (place x s.a s.b g d) (psQ ps) else psQ ps) = (if 0 ≤ place x s.a s.b g d then [place x s.a s.b g d] else []).foldl _ _
    split <;> rfl
  | _ => rfl
theorem mem_foldQ {z : Int} : ∀ (qs acc : List Int), z ∈ qs.foldl (fun acc p => putQ p acc) acc ↔ z ∈ acc ∨ z ∈ qs
  | [], acc => by simp
  | q :: t, acc => by
    rw [List.foldl_cons, mem_foldQ t (putQ q acc)]
    unfold putQ
    by_cases c : q ∈ acc
    · rw [if_pos c]
      constructor
      · rintro (h | h)
        · exact .inl h
        · exact .inr (List.mem_cons_of_mem _ h)
      · rintro (h | h)
        · exact .inl h
        · rcases List.mem_cons.mp h with rfl | h
          · exact .inl c
          · exact .inr h
    · rw [if_neg c]
      simp only [List.mem_append, List.mem_cons, List.not_mem_nil, or_false]
      constructor
      · rintro ((h | h) | h)
        · exact .inl h
        · exact .inr (.inl h)
        · exact .inr (.inr h)
      · rintro (h | h | h)
        · exact .inl (.inl h)
        · exact .inl (.inr h)
        · exact .inr h
theorem mem_psQ {z : Int} (ps : List Int) : z ∈ psQ ps ↔ z ∈ ps := by
  unfold psQ
  rw [mem_foldQ]
  simp
theorem nodup_foldQ : ∀ (qs acc : List Int), acc.Nodup → (qs.foldl (fun acc p => putQ p acc) acc).Nodup
  | [], acc, h => h
  | q :: t, acc, h => by
    rw [List.foldl_cons]
    refine nodup_foldQ t _ ?_
    unfold putQ
    split
    · exact h
    · rename_i c
      exact List.nodup_append.mpr ⟨h, by simp, fun a ma b mb e => c (by rw [List.mem_singleton.mp mb] at e; exact e ▸ ma)⟩
theorem psQ_nodup (ps : List Int) : (psQ ps).Nodup := nodup_foldQ ps [] List.nodup_nil
theorem psQ_same {ps qs : List Int} (h : ∀ z, z ∈ ps ↔ z ∈ qs) : isort (psQ ps) = isort (psQ qs) := by
  have hp : (psQ ps).Perm (psQ qs) := (List.perm_ext_iff_of_nodup (psQ_nodup _) (psQ_nodup _)).mpr fun z => by rw [mem_psQ, mem_psQ]; exact h z
  exact isort_unique ((isort_perm _).trans hp) (isort_sorted _)
section
variable {code : List Ins} {x : Int} {mem : Int → Bool}
/-- one instruction that is no answer -/
def goes (code : List Ins) (w : TW) (i : Ins) : Prop := code[w.s.pc]? = some i ∧ ansOf i = none
theorem stepT_go {w : TW} {i : Ins} (h : goes code w i) : stepT code x mem w = nextT x mem w i := by
  unfold stepT
  rw [h.1]
  show (if (ansOf i).isSome = true then w else nextT x mem w i) = _
  rw [h.2]
  rfl
theorem wt_16 (hok : ∀ i ∈ code, i.ok "teller") : ∀ n, in16 (wt code x mem n).s.a (wt code x mem n).s.b
  | 0 => ⟨⟨by show (0 : Int) ≤ 0; decide, by show (0 : Int) ≤ 15; decide⟩, by show (0 : Int) ≤ 0; decide, by show (0 : Int) ≤ 15; decide⟩
  | n + 1 => by
    have ih := wt_16 hok n
    show in16 (stepT code x mem (wt code x mem n)).s.a (stepT code x mem (wt code x mem n)).s.b
    unfold stepT
    cases h : code[(wt code x mem n).s.pc]? with
    | none => exact ih
    | some i =>
      dsimp only
      split
      · exact ih
      · exact heldS16 (hok i (List.mem_of_getElem? h)) ih
def seenT (code : List Ins) (x : Int) (mem : Int → Bool) (m : Nat) : List (S3 × Int) := (List.range m).map fun k => ((wt code x mem k).s, (wt code x mem k).t)
/-- what a run comes to -/
inductive EndT (code : List Ins) (x : Int) (mem : Int → Bool) : Res → Prop
  | ans (j : Nat) (v : Int) : (∀ k, k < j → ∃ i, goes code (wt code x mem k) i) → code[(wt code x mem j).s.pc]? = some (.ans v) → j < code.length * 256 → EndT code x mem (.ans v ((wt code x mem j).t + 1) (psQ (wt code x mem j).ps))
  | ended (j : Nat) : (∀ k, k < j → ∃ i, goes code (wt code x mem k) i) → code[(wt code x mem j).s.pc]? = none → j ≤ code.length * 256 → EndT code x mem (.ended (wt code x mem j).t (psQ (wt code x mem j).ps))
  | silent (i j : Nat) : i < j → j ≤ code.length * 256 → (∀ k, k < j → ∃ i, goes code (wt code x mem k) i) → (wt code x mem i).s = (wt code x mem j).s → EndT code x mem (.silent (wt code x mem i).t (wt code x mem j).t (psQ (wt code x mem j).ps))
theorem loop_wt (hok : ∀ i ∈ code, i.ok "teller") : ∀ n m, m + n = fuel code → (∀ k, k < m → ∃ i, goes code (wt code x mem k) i) → ((seenT code x mem m).map (·.1)).Nodup →
    EndT code x mem (loopF code x mem none n (wt code x mem m).s (wt code x mem m).t (seenT code x mem m) (psQ (wt code x mem m).ps))
  | n, m => fun hf hv nd => by
    have hst : ∀ s ∈ (seenT code x mem m).map (·.1), okS3 code s := fun s ms => by
      obtain ⟨e, me, rfl⟩ := List.mem_map.mp ms
      obtain ⟨k, mk, rfl⟩ := List.mem_map.mp me
      obtain ⟨i, hi⟩ := hv k (List.mem_range.mp mk)
      exact ⟨(List.getElem?_eq_some_iff.mp hi.1).1, wt_16 hok k⟩
    have few := few_states (code := code) nd hst
    have hsl : (seenT code x mem m).length = m := by unfold seenT; rw [List.length_map, List.length_range]
    rw [List.length_map, hsl] at few
    cases n with
    | zero => unfold fuel at hf; omega
    | succ n =>
      unfold loopF
      cases el : lookS (wt code x mem m).s (seenT code x mem m) with
      | some f =>
        have hm : ∃ e ∈ seenT code x mem m, e.1 = (wt code x mem m).s ∧ e.2 = f := by
          unfold lookS at el
          rw [Option.map_eq_some_iff] at el
          obtain ⟨e, he, hf⟩ := el
          exact ⟨e, List.mem_of_find?_eq_some he, by simpa using List.find?_some he, hf⟩
        obtain ⟨e, me, e1, rfl⟩ := hm
        obtain ⟨k, mk, rfl⟩ := List.mem_map.mp me
        exact .silent k m (List.mem_range.mp mk) few hv e1
      | none =>
        dsimp only
        cases ec : code[(wt code x mem m).s.pc]? with
        | none => exact .ended m hv ec few
        | some i =>
          have ho : ¬ over none ((wt code x mem m).t + i.cost) = true := fun z => by cases z
          dsimp only
          rw [if_neg ho]
          have hlt : (wt code x mem m).s.pc < code.length := (List.getElem?_eq_some_iff.mp ec).1
          have nd2 : ((seenT code x mem m).map (·.1) ++ [(wt code x mem m).s]).Nodup := by
            refine List.nodup_append.mpr ⟨nd, by simp, fun a ma b mb => ?_⟩
            rw [List.mem_singleton] at mb
            rintro rfl
            rw [mb] at ma
            exact lookS_none el ma
          have few2 := few_states (code := code) nd2 (fun s ms => by
            rcases List.mem_append.mp ms with ms | ms
            · exact hst s ms
            · rw [List.mem_singleton.mp ms]; exact ⟨hlt, wt_16 hok m⟩)
          rw [List.length_append, List.length_map, hsl] at few2
          cases ea : ansOf i with
          | some v =>
            have ei : i = .ans v := by
              cases i with
              | ans n => have : n = v := by injection ea
                         rw [this]
              | _ => cases ea
            subst ei
            exact .ans m v hv ec (by have : [(wt code x mem m).s].length = 1 := rfl; omega)
          | none =>
            have hg : goes code (wt code x mem m) i := ⟨ec, ea⟩
            have hw : wt code x mem (m + 1) = nextT x mem (wt code x mem m) i := stepT_go hg
            have hs : seenT code x mem (m + 1) = seenT code x mem m ++ [((wt code x mem m).s, (wt code x mem m).t)] := by
              unfold seenT
              rw [List.range_succ, List.map_append]
              rfl
            have ih := loop_wt hok n (m + 1) (by omega) (fun k hk => by
              by_cases c : k = m
              · rw [c]; exact ⟨i, hg⟩
              · exact hv k (by omega)) (by rw [hs, List.map_append]; exact nd2)
            rw [hs, hw] at ih
            have e2 : askQ x (wt code x mem m).s i (psQ (wt code x mem m).ps) = psQ (nextT x mem (wt code x mem m) i).ps := askQ_psQ _ _ _ _
            dsimp only
            rw [e2]
            exact ih
termination_by n => n
theorem run_wt (hok : ∀ i ∈ code, i.ok "teller") : EndT code x mem (runF code x mem none) :=
  loop_wt hok (fuel code) 0 (by simp) (fun k hk => by omega) (by unfold seenT; simp)
/-! ### from one place to another -/
inductive Go (code : List Ins) (x : Int) (mem : Int → Bool) : Nat → TW → TW → Prop
  | zero {w : TW} : Go code x mem 0 w w
  | succ {k : Nat} {w w' : TW} {i : Ins} : goes code w i → Go code x mem k (nextT x mem w i) w' → Go code x mem (k + 1) w w'
theorem Go.trans {k m : Nat} {w w' w'' : TW} (h : Go code x mem k w w') (g : Go code x mem m w' w'') : Go code x mem (k + m) w w'' := by
  induction h with
  | zero => rw [Nat.zero_add]; exact g
  | succ a b ih => rw [Nat.add_right_comm]; exact .succ a (ih g)
theorem Go.one {w : TW} {i : Ins} (h : goes code w i) : Go code x mem 1 w (nextT x mem w i) := .succ h .zero
theorem Go.wt {n k : Nat} {w : TW} (h : Go code x mem k (wt code x mem n) w) : w = My.wt code x mem (n + k) ∧ ∀ j, n ≤ j → j < n + k → ∃ i, goes code (My.wt code x mem j) i := by
  have key : ∀ k n w0 w, w0 = My.wt code x mem n → Go code x mem k w0 w → w = My.wt code x mem (n + k) ∧ ∀ j, n ≤ j → j < n + k → ∃ i, goes code (My.wt code x mem j) i := by
    intro k
    induction k with
    | zero =>
      intro n w0 w e h
      cases h
      exact ⟨e, fun j h1 h2 => by omega⟩
    | succ k ih =>
      intro n w0 w e h
      cases h with
      | succ hg h =>
        rename_i i
        rw [e] at hg h
        obtain ⟨h1, h2⟩ := ih (n + 1) (nextT x mem (My.wt code x mem n) i) w (stepT_go hg).symm h
        refine ⟨by rw [h1, show n + 1 + k = n + (k + 1) by omega], fun j h3 h4 => ?_⟩
        by_cases c : j = n
        · rw [c]; exact ⟨i, hg⟩
        · exact h2 j (by omega) (by omega)
  exact key k n _ w rfl h
/-- asked positions grow -/
theorem wt_grow (n : Nat) : ∀ m z, z ∈ (wt code x mem n).ps → z ∈ (wt code x mem (n + m)).ps
  | 0, z, h => h
  | m + 1, z, h => by
    have ih := wt_grow n m z h
    show z ∈ (stepT code x mem (wt code x mem (n + m))).ps
    unfold stepT
    split
    · exact ih
    · split
      · exact ih
      · exact List.mem_append.mpr (.inl ih)
theorem wt_round {i j : Nat} (hij : i < j) (e : (wt code x mem i).s = (wt code x mem j).s) : ∀ k, (wt code x mem (j + k)).s = (wt code x mem (i + k)).s
  | 0 => e.symm
  | k + 1 => by
    have ih := wt_round hij e k
    show (stepT code x mem (wt code x mem (j + k))).s = (stepT code x mem (wt code x mem (i + k))).s
    unfold stepT
    rw [ih]
    split
    · exact ih
    · split
      · exact ih
      · show nextS x mem (wt code x mem (j + k)).s _ = nextS x mem (wt code x mem (i + k)).s _
        rw [ih]
theorem wt_asked {i j : Nat} (hij : i < j) (e : (wt code x mem i).s = (wt code x mem j).s) : ∀ k z, z ∈ (wt code x mem (j + k)).ps → z ∈ (wt code x mem j).ps := by
  have step : ∀ n z, z ∈ (wt code x mem (n + 1)).ps → z ∈ (wt code x mem n).ps ∨ ∃ q, goes code (wt code x mem n) q ∧ z ∈ askP x (wt code x mem n).s q := by
    intro n z h
    have h' : z ∈ (stepT code x mem (wt code x mem n)).ps := h
    unfold stepT at h'
    cases ec : code[(wt code x mem n).s.pc]? with
    | none => rw [ec] at h'; exact .inl h'
    | some q =>
      rw [ec] at h'
      dsimp only at h'
      split at h'
      · exact .inl h'
      · rename_i hn
        rcases List.mem_append.mp h' with h' | h'
        · exact .inl h'
        · refine .inr ⟨q, ⟨ec, ?_⟩, h'⟩
          cases ea : ansOf q with
          | none => rfl
          | some v => rw [ea] at hn; exact absurd rfl hn
  have into : ∀ n q z, goes code (wt code x mem n) q → z ∈ askP x (wt code x mem n).s q → z ∈ (wt code x mem (n + 1)).ps := by
    intro n q z hg h
    show z ∈ (stepT code x mem (wt code x mem n)).ps
    rw [stepT_go hg]
    exact List.mem_append.mpr (.inr h)
  have all : ∀ n, ∀ q z, goes code (wt code x mem n) q → z ∈ askP x (wt code x mem n).s q → z ∈ (wt code x mem j).ps := by
    intro n
    induction n using Nat.strongRecOn with
    | ind n ih =>
      intro q z hg h
      by_cases c : n < j
      · have := wt_grow (code := code) (x := x) (mem := mem) (n + 1) (j - (n + 1)) z (into n q z hg h)
        rwa [show n + 1 + (j - (n + 1)) = j by omega] at this
      · have er := wt_round hij e (n - j)
        rw [show j + (n - j) = n by omega] at er
        refine ih (i + (n - j)) (by omega) q z ?_ ?_
        · unfold goes at hg ⊢
          rw [← er]; exact hg
        · rw [← er]; exact h
  intro k
  induction k with
  | zero => intro z h; exact h
  | succ k ih =>
    intro z h
    rcases step (j + k) z h with h | ⟨q, hg, hz⟩
    · exact ih z h
    · exact all _ q z hg hz
/-- the run, by where a plain walk has come -/
theorem run_ans (hok : ∀ i ∈ code, i.ok "teller") {k : Nat} {w : TW} {v : Int} (h : Go code x mem k (wt code x mem 0) w) (ha : code[w.s.pc]? = some (.ans v)) : runF code x mem none = .ans v (w.t + 1) (psQ w.ps) ∧ k < code.length * 256 := by
  obtain ⟨e, hv⟩ := h.wt
  rw [Nat.zero_add] at e hv
  subst e
  have no : ∀ q, ¬ goes code (wt code x mem k) q := fun q hq => by
    have := hq.1.symm.trans ha
    injection this with this
    have h2 := hq.2
    rw [this] at h2
    cases h2
  generalize eR : runF code x mem none = R
  have hE := run_wt (x := x) (mem := mem) hok
  rw [eR] at hE
  cases hE with
  | ans j v' hj ha' hb =>
    have ejk : j = k := by
      rcases Nat.lt_trichotomy j k with c | c | c
      · obtain ⟨q, hq⟩ := hv j (Nat.zero_le _) c
        have := hq.1.symm.trans ha'
        injection this with this
        have h2 := hq.2
        rw [this] at h2
        cases h2
      · exact c
      · obtain ⟨q, hq⟩ := hj k c
        exact absurd hq (no q)
    subst ejk
    have := ha'.symm.trans ha
    injection this with this
    injection this with this
    rw [this]
    exact ⟨rfl, hb⟩
  | ended j hj ha' hb =>
    exfalso
    rcases Nat.lt_trichotomy j k with c | c | c
    · obtain ⟨q, hq⟩ := hv j (Nat.zero_le _) c
      have := hq.1.symm.trans ha'
      cases this
    · subst c; rw [ha] at ha'; cases ha'
    · obtain ⟨q, hq⟩ := hj k c
      exact no q hq
  | silent i j hij hjb hj es =>
    exfalso
    have all : ∀ n, ∃ q, goes code (wt code x mem n) q := by
      intro n
      induction n using Nat.strongRecOn with
      | ind n ih =>
        by_cases c : n < j
        · exact hj n c
        · have er := wt_round hij es (n - j)
          rw [show j + (n - j) = n by omega] at er
          obtain ⟨q, hq⟩ := ih (i + (n - j)) (by omega)
          refine ⟨q, ?_⟩
          unfold goes at hq ⊢
          rw [er]; exact hq
    obtain ⟨q, hq⟩ := all k
    exact no q hq
theorem run_end (hok : ∀ i ∈ code, i.ok "teller") {k : Nat} {w : TW} (h : Go code x mem k (wt code x mem 0) w) (ha : code[w.s.pc]? = none) : runF code x mem none = .ended w.t (psQ w.ps) ∧ k ≤ code.length * 256 := by
  obtain ⟨e, hv⟩ := h.wt
  rw [Nat.zero_add] at e hv
  subst e
  have no : ∀ q, ¬ goes code (wt code x mem k) q := fun q hq => by
    have := hq.1.symm.trans ha
    cases this
  generalize eR : runF code x mem none = R
  have hE := run_wt (x := x) (mem := mem) hok
  rw [eR] at hE
  cases hE with
  | ans j v' hj ha' hb =>
    exfalso
    rcases Nat.lt_trichotomy j k with c | c | c
    · obtain ⟨q, hq⟩ := hv j (Nat.zero_le _) c
      have := hq.1.symm.trans ha'
      injection this with this
      have h2 := hq.2
      rw [this] at h2
      cases h2
    · subst c; rw [ha] at ha'; cases ha'
    · obtain ⟨q, hq⟩ := hj k c
      exact no q hq
  | ended j hj ha' hb =>
    have ejk : j = k := by
      rcases Nat.lt_trichotomy j k with c | c | c
      · obtain ⟨q, hq⟩ := hv j (Nat.zero_le _) c
        have := hq.1.symm.trans ha'
        cases this
      · exact c
      · obtain ⟨q, hq⟩ := hj k c
        exact absurd hq (no q)
    subst ejk
    exact ⟨rfl, hb⟩
  | silent i j hij hjb hj es =>
    exfalso
    have all : ∀ n, ∃ q, goes code (wt code x mem n) q := by
      intro n
      induction n using Nat.strongRecOn with
      | ind n ih =>
        by_cases c : n < j
        · exact hj n c
        · have er := wt_round hij es (n - j)
          rw [show j + (n - j) = n by omega] at er
          obtain ⟨q, hq⟩ := ih (i + (n - j)) (by omega)
          refine ⟨q, ?_⟩
          unfold goes at hq ⊢
          rw [er]; exact hq
    obtain ⟨q, hq⟩ := all k
    exact no q hq
theorem run_sil (hok : ∀ i ∈ code, i.ok "teller") {k : Nat} {w : TW} (h : Go code x mem k (wt code x mem 0) w) (hk : code.length * 256 < k) : ∃ f s qs, runF code x mem none = .silent f s qs ∧ isort qs = isort (psQ w.ps) := by
  obtain ⟨e, hv⟩ := h.wt
  rw [Nat.zero_add] at e hv
  subst e
  generalize eR : runF code x mem none = R
  have hE := run_wt (x := x) (mem := mem) hok
  rw [eR] at hE
  cases hE with
  | ans j v' hj ha' hb =>
    exfalso
    obtain ⟨q, hq⟩ := hv j (Nat.zero_le _) (by omega)
    have := hq.1.symm.trans ha'
    injection this with this
    have h2 := hq.2
    rw [this] at h2
    cases h2
  | ended j hj ha' hb =>
    exfalso
    obtain ⟨q, hq⟩ := hv j (Nat.zero_le _) (by omega)
    have := hq.1.symm.trans ha'
    cases this
  | silent i j hij hjb hj es =>
    refine ⟨_, _, _, rfl, psQ_same fun z => ?_⟩
    by_cases c : j ≤ k
    · constructor
      · intro m
        have := wt_grow (code := code) (x := x) (mem := mem) j (k - j) z m
        rwa [show j + (k - j) = k by omega] at this
      · intro m
        refine wt_asked hij es (k - j) z ?_
        rwa [show j + (k - j) = k by omega]
    · omega
end
/-! ### a run by statements -/
structure Wd where
  a : Int
  b : Int
  st : Int
  lf : Int
  an : Option Int
  ps : List Int
def alive (W : Wd) : Prop := W.an = none ∧ 0 < W.lf
def tstW (W : Wd) : Wd := ⟨W.a, W.b, W.st + 1, W.lf - 1, W.an, W.ps⟩
def bmp (W : Wd) : Wd := ⟨W.a, W.b, W.st + 1, W.lf, W.an, W.ps⟩
def flatI : Ins → Prop
  | .test _ _ => False
  | .jump _ => False
  | _ => True
def plW (x : Int) (mem : Int → Bool) (i : Ins) (W : Wd) : Wd := ⟨(heldS x mem ⟨0, W.a, W.b⟩ i).1, (heldS x mem ⟨0, W.a, W.b⟩ i).2, W.st + i.cost, W.lf - 1, ansOf i, W.ps ++ askP x ⟨0, W.a, W.b⟩ i⟩
def step1 (S : PyData → Wd → Wd → Prop) (s : PyData) (W W' : Wd) : Prop := (¬ alive W ∧ W' = W) ∨ (alive W ∧ S s W W')
def DoL (S : PyData → Wd → Wd → Prop) : List PyData → Wd → Wd → Prop
  | [], W, W' => W' = W
  | s :: r, W, W' => ∃ W1, step1 S s W W1 ∧ DoL S r W1 W'
def onW (W : Wd) : Wd := if W.an = none then bmp W else W
def WhR (B : Wd → Wd → Prop) (co : PyData) : Nat → Wd → Wd → Prop
  | 0, W, W' => (¬ alive W ∧ W' = W) ∨ (alive W ∧ cval W.a W.b co = false ∧ W' = tstW W)
  | k + 1, W, W' => alive W ∧ cval W.a W.b co = true ∧ ∃ W1, B (tstW W) W1 ∧ WhR B co k (onW W1) W'
def stR (x : Int) (mem : Int → Bool) (B : List PyData → Wd → Wd → Prop) (s : PyData) (W W' : Wd) : Prop :=
  (∃ i, flatI i ∧ s = i.toD ∧ W' = plW x mem i W) ∨
  (∃ co b1 b2 W1, s = .tuple [.str "if", co, .tuple b1, .tuple b2] ∧ ((cval W.a W.b co = true ∧ B b1 (tstW W) W1 ∧ W' = (if b2 = [] then W1 else onW W1)) ∨ (cval W.a W.b co = false ∧ B b2 (tstW W) W1 ∧ W' = W1))) ∨
  (∃ co b k, s = .tuple [.str "while", co, .tuple b] ∧ WhR (B b) co k W W')
def DoB (x : Int) (mem : Int → Bool) : Nat → List PyData → Wd → Wd → Prop
  | 0, ss, W, W' => ss = [] ∧ W' = W
  | n + 1, ss, W, W' => DoL (stR x mem (DoB x mem n)) ss W W'
theorem DoL_snoc {S : PyData → Wd → Wd → Prop} : ∀ {ss : List PyData} {s : PyData} {W W1 W' : Wd}, DoL S ss W W1 → step1 S s W1 W' → DoL S (ss ++ [s]) W W'
  | [], s, W, W1, W', h, g => by
    have e : W1 = W := h
    subst e
    exact ⟨W', g, rfl⟩
  | t :: r, s, W, W1, W', ⟨W2, h1, h2⟩, g => ⟨W2, h1, DoL_snoc h2 g⟩
theorem DoL_dead {S : PyData → Wd → Wd → Prop} : ∀ {ss : List PyData} {W W' : Wd}, ¬ alive W → DoL S ss W W' → W' = W
  | [], W, W', _, h => h
  | s :: r, W, W', hn, ⟨W1, h1, h2⟩ => by
    rcases h1 with ⟨_, rfl⟩ | ⟨ha, _⟩
    · exact DoL_dead hn h2
    · exact absurd ha hn
/-! ### it goes where the instructions go -/
theorem toD_inj {i j : Ins} (h : i.toD = j.toD) : i = j := by
  rw [toD_eq, toD_eq] at h
  injection h with h
  injection h with h1 h2
  injection h1 with h1
  cases i <;> cases j <;> first
    | (exfalso; revert h1; simp only [Ins.word]; decide +kernel)
    | skip
  all_goals simp only [Ins.parts] at h2
  all_goals injection h2 with e1 h2
  all_goals try injection h2 with e2 h2
  all_goals try injection h2 with e3 h2
  all_goals try injection e1 with e1
  all_goals try injection e2 with e2
  all_goals try injection e3 with e3
  all_goals first
    | (subst_vars; rfl)
    | (have e1' := Int.ofNat.inj e1; subst_vars; rfl)
    | (have e2' := Int.ofNat.inj e2; subst_vars; rfl)
def Pl (code : List Ins) (p : Nat) (cs : List PyData) : Prop := ∀ j, j < cs.length → (code[p + j]?).map Ins.toD = cs[j]?
theorem Pl.head {code : List Ins} {p : Nat} {i : Ins} {cs : List PyData} (h : Pl code p (i.toD :: cs)) : code[p]? = some i := by
  have := h 0 (by simp)
  rw [Nat.add_zero] at this
  cases e : code[p]? with
  | none => rw [e] at this; cases this
  | some j =>
    rw [e] at this
    have e2 : j.toD = i.toD := by
      have h3 : some j.toD = some i.toD := this
      injection h3
    rw [toD_inj e2]
theorem Pl.tail {code : List Ins} {p : Nat} {d : PyData} {cs : List PyData} (h : Pl code p (d :: cs)) : Pl code (p + 1) cs := fun j hj => by
  have := h (j + 1) (by simp; omega)
  rw [show p + (j + 1) = p + 1 + j by omega] at this
  exact this
theorem Pl.left {code : List Ins} {p : Nat} {as bs : List PyData} (h : Pl code p (as ++ bs)) : Pl code p as := fun j hj => by
  have := h j (by rw [List.length_append]; omega)
  rwa [List.getElem?_append_left hj] at this
theorem Pl.right {code : List Ins} {p : Nat} {as bs : List PyData} (h : Pl code p (as ++ bs)) : Pl code (p + as.length) bs := fun j hj => by
  have := h (as.length + j) (by rw [List.length_append]; omega)
  rw [List.getElem?_append_right (by omega), show as.length + j - as.length = j by omega, ← Nat.add_assoc] at this
  exact this
def tw (p : Nat) (W : Wd) : TW := ⟨⟨p, W.a, W.b⟩, W.st, W.ps⟩
structure Sim (code : List Ins) (x : Int) (mem : Int → Bool) (p q : Nat) (W W' : Wd) : Prop where
  ex : ∃ k w', Go code x mem k (tw p W) w' ∧ 0 ≤ W'.lf ∧ W.lf ≤ W'.lf + k + (if W'.an = none then 0 else 1) ∧ w'.ps = W'.ps ∧ (∀ v, W'.an = some v → code[w'.s.pc]? = some (.ans v) ∧ w'.t + 1 = W'.st) ∧ (alive W' → w' = tw q W')
section
variable {code : List Ins} {x : Int} {mem : Int → Bool}
theorem Sim.stay {p q : Nat} {W : Wd} (ha : W.an = none) (h0 : 0 ≤ W.lf) (hq : alive W → q = p) : Sim code x mem p q W W :=
  ⟨0, tw p W, .zero, h0, by rw [if_pos ha]; omega, rfl, fun v e => (by rw [ha] at e; cases e), fun h => by rw [hq h]⟩
theorem Sim.dead {p q q' : Nat} {W W' : Wd} (h : Sim code x mem p q W W') (hn : ¬ alive W') : Sim code x mem p q' W W' := by
  obtain ⟨k, w', h1, h2, h3, h4, h5, h6⟩ := h.ex
  exact ⟨k, w', h1, h2, h3, h4, h5, fun z => absurd z hn⟩
theorem Sim.trans {p q r : Nat} {W W1 W' : Wd} (h : Sim code x mem p q W W1) (ha : alive W1) (g : Sim code x mem q r W1 W') : Sim code x mem p r W W' := by
  obtain ⟨k, w', h1, h2, h3, h4, h5, h6⟩ := h.ex
  obtain ⟨m, w'', g1, g2, g3, g4, g5, g6⟩ := g.ex
  rw [h6 ha] at h1
  rw [if_pos ha.1] at h3
  exact ⟨k + m, w'', h1.trans g1, g2, by split at g3 <;> split <;> first | omega | (rename_i z1 z2; exact absurd z1 z2) | (rename_i z1 z2; exact absurd z2 z1), g4, g5, g6⟩
theorem Sim.test {p p' q : Nat} {W W' : Wd} {co : PyData} {t : Nat} (hc : code[p]? = some (.test co t)) (hp : p' = if cval W.a W.b co = true then p + 1 else t) (g : Sim code x mem p' q (tstW W) W') : Sim code x mem p q W W' := by
  obtain ⟨m, w'', g1, g2, g3, g4, g5, g6⟩ := g.ex
  have hg : goes code (tw p W) (.test co t) := ⟨hc, rfl⟩
  have e : nextT x mem (tw p W) (.test co t) = tw p' (tstW W) := by
    rw [hp]
    unfold nextT tw tstW nextS
    simp only [askP, List.append_nil]
    rfl
  have h1 := Go.one (x := x) (mem := mem) hg
  rw [e] at h1
  exact ⟨1 + m, w'', h1.trans g1, g2, by have e2 : (tstW W).lf = W.lf - 1 := rfl; rw [e2] at g3; omega, g4, g5, g6⟩
theorem Sim.jump {p q t : Nat} {W W' : Wd} (h : Sim code x mem p q W W') (hj : code[q]? = some (.jump t)) : Sim code x mem p t W (onW W') := by
  obtain ⟨k, w', h1, h2, h3, h4, h5, h6⟩ := h.ex
  by_cases ha : W'.an = none
  · have eo : onW W' = bmp W' := by unfold onW; rw [if_pos ha]
    rw [eo]
    by_cases hl : 0 < W'.lf
    · have hw := h6 ⟨ha, hl⟩
      rw [hw] at h1
      have hg : goes code (tw q W') (.jump t) := ⟨hj, rfl⟩
      have e : nextT x mem (tw q W') (.jump t) = tw t (bmp W') := by
        unfold nextT tw bmp nextS
        simp only [askP, List.append_nil]
        rfl
      have h7 := Go.one (x := x) (mem := mem) hg
      rw [e] at h7
      refine ⟨k + 1, tw t (bmp W'), h1.trans h7, h2, ?_, rfl, fun v e => ?_, fun _ => rfl⟩
      · rw [if_pos ha] at h3
        rw [if_pos (show (bmp W').an = none from ha)]
        show W.lf ≤ W'.lf + _ + 0
        omega
      · have : W'.an = some v := e
        rw [ha] at this; cases this
    · refine ⟨k, w', h1, h2, ?_, h4, fun v e => ?_, fun z => absurd z.2 hl⟩
      · rw [if_pos ha] at h3
        rw [if_pos (show (bmp W').an = none from ha)]
        exact h3
      · have : W'.an = some v := e
        rw [ha] at this; cases this
  · have eo : onW W' = W' := by unfold onW; rw [if_neg ha]
    rw [eo]
    exact h.dead (fun z => ha z.1)
theorem onW_alive {W : Wd} : alive (onW W) ↔ alive W := by
  unfold onW
  split <;> exact Iff.rfl
theorem tst_an {W : Wd} (h : alive W) : (tstW W).an = none ∧ 0 ≤ (tstW W).lf := ⟨h.1, by have := h.2; show 0 ≤ W.lf - 1; omega⟩
def simB (code : List Ins) (x : Int) (mem : Int → Bool) (n : Nat) : Prop := ∀ ss p W W', Pl code p (bodyC n p (.tuple ss)) → W.an = none → 0 ≤ W.lf → DoB x mem n ss W W' → Sim code x mem p (p + (bodyC n p (.tuple ss)).length) W W'
theorem simP {i : Ins} {p : Nat} {W : Wd} (hi : flatI i) (hc : code[p]? = some i) (ha : alive W) : Sim code x mem p (p + 1) W (plW x mem i W) := by
  have h0 : 0 ≤ (plW x mem i W).lf := by have := ha.2; show 0 ≤ W.lf - 1; omega
  have el : (plW x mem i W).lf = W.lf - 1 := rfl
  cases ea : ansOf i with
  | some v =>
    have ei : i = .ans v := by
      cases i with
      | ans n => have : n = v := by injection ea
                 rw [this]
      | _ => cases ea
    subst ei
    have e1 : (plW x mem (.ans v) W).an = some v := rfl
    refine ⟨0, tw p W, .zero, h0, ?_, ?_, fun v' e => ?_, fun z => ?_⟩
    · rw [el, if_neg (by rw [e1]; exact fun z => nomatch z)]; omega
    · show W.ps = W.ps ++ []
      simp
    · rw [e1] at e
      injection e with e
      subst e
      exact ⟨hc, rfl⟩
    · rw [alive, e1] at z
      cases z.1
  | none =>
    have hg : goes code (tw p W) i := ⟨hc, ea⟩
    have e1 : (plW x mem i W).an = none := ea
    have e : nextT x mem (tw p W) i = tw (p + 1) (plW x mem i W) := by
      have h1 : heldS x mem ⟨p, W.a, W.b⟩ i = heldS x mem ⟨0, W.a, W.b⟩ i := by cases i <;> rfl
      have h2 : askP x ⟨p, W.a, W.b⟩ i = askP x ⟨0, W.a, W.b⟩ i := by cases i <;> rfl
      have h3 : i.next p W.a W.b = p + 1 := by cases i <;> first | rfl | exact hi.elim
      show (⟨⟨i.next p W.a W.b, (heldS x mem ⟨p, W.a, W.b⟩ i).1, (heldS x mem ⟨p, W.a, W.b⟩ i).2⟩, W.st + i.cost, W.ps ++ askP x ⟨p, W.a, W.b⟩ i⟩ : TW) = _
      rw [h1, h2, h3]
      rfl
    have h7 := Go.one (x := x) (mem := mem) hg
    rw [e] at h7
    refine ⟨1, _, h7, h0, ?_, rfl, fun v' e' => ?_, fun _ => rfl⟩
    · rw [el, if_pos e1]; omega
    · rw [e1] at e'; cases e'
theorem simW {n : Nat} (ih : simB code x mem n) {co : PyData} {b : List PyData} {p : Nat} (hpl : Pl code p (whC (bodyC n) p co (.tuple b))) : ∀ k W W', W.an = none → 0 ≤ W.lf → WhR (DoB x mem n b) co k W W' → Sim code x mem p (p + (whC (bodyC n) p co (.tuple b)).length) W W' := by
  have hlen : (whC (bodyC n) p co (.tuple b)).length = (bodyC n (p + 1) (.tuple b)).length + 2 := by unfold whC; simp
  unfold whC at hpl
  have ht : code[p]? = some (.test co (p + 1 + (bodyC n (p + 1) (.tuple b)).length + 1)) := Pl.head (i := .test co _) hpl
  have hb := hpl.tail.left
  have hj : code[p + 1 + (bodyC n (p + 1) (.tuple b)).length]? = some (.jump p) := Pl.head (i := .jump p) hpl.tail.right
  intro k
  induction k with
  | zero =>
    intro W W' ha h0 h
    rcases h with ⟨hn, rfl⟩ | ⟨hal, hc, rfl⟩
    · exact (Sim.stay (q := p) ha h0 fun _ => rfl).dead hn
    · obtain ⟨h1, h2⟩ := tst_an hal
      refine Sim.test ht rfl ?_
      rw [hc, if_neg (by decide), hlen]
      exact Sim.stay h1 h2 fun _ => by omega
  | succ k ihk =>
    intro W W' ha h0 ⟨hal, hc, W1, hB, hR⟩
    obtain ⟨h1, h2⟩ := tst_an hal
    have s1 := ih b (p + 1) (tstW W) W1 hb h1 h2 hB
    have s2 : Sim code x mem p (p + 1 + (bodyC n (p + 1) (.tuple b)).length) W W1 := Sim.test ht (by rw [hc, if_pos rfl]) s1
    have s3 := s2.jump hj
    by_cases c : alive (onW W1)
    · exact s3.trans c (ihk (onW W1) W' c.1 (Int.le_of_lt c.2) hR)
    · have e : W' = onW W1 := by
        cases k with
        | zero =>
          rcases hR with ⟨_, rfl⟩ | ⟨z, _⟩
          · rfl
          · exact absurd z c
        | succ k => exact absurd hR.1 c
      rw [e]
      exact s3.dead c
theorem simS {n : Nat} (ih : simB code x mem n) {s : PyData} {p : Nat} {W W' : Wd} (hpl : Pl code p (stC (bodyC n) p s)) (ha : alive W) (h : stR x mem (DoB x mem n) s W W') : Sim code x mem p (p + (stC (bodyC n) p s).length) W W' := by
  rcases h with ⟨i, hi, rfl, rfl⟩ | ⟨co, b1, b2, W1, rfl, h⟩ | ⟨co, b, k, rfl, h⟩
  · have e : stC (bodyC n) p i.toD = [i.toD] := by
      cases i with
      | test c t => exact hi.elim
      | jump t => exact hi.elim
      | _ => exact stC_plain (by decide +kernel) (by decide +kernel)
    rw [e] at hpl ⊢
    exact simP hi hpl.head ha
  · rw [stC_if] at hpl ⊢
    obtain ⟨h1, h2⟩ := tst_an ha
    by_cases c : b2 = []
    · subst c
      have e : ifC (bodyC n) p co (.tuple b1) (.tuple []) = insT co (p + 1 + (bodyC n (p + 1) (.tuple b1)).length) :: bodyC n (p + 1) (.tuple b1) := by unfold ifC; rw [if_pos (show isNil (.tuple []) = true from rfl)]
      rw [e] at hpl ⊢
      have ht : code[p]? = some (.test co (p + 1 + (bodyC n (p + 1) (.tuple b1)).length)) := Pl.head (i := .test co _) hpl
      rw [List.length_cons, show p + ((bodyC n (p + 1) (.tuple b1)).length + 1) = p + 1 + (bodyC n (p + 1) (.tuple b1)).length by omega]
      rcases h with ⟨hc, hB, hW⟩ | ⟨hc, hB, hW⟩
      · rw [if_pos rfl] at hW
        subst hW
        exact Sim.test ht (by rw [hc, if_pos rfl]) (ih b1 (p + 1) (tstW W) _ hpl.tail h1 h2 hB)
      · subst hW
        have e0 : W' = tstW W := by
          cases n with
          | zero => exact hB.2
          | succ n => exact hB
        subst e0
        exact Sim.test ht (by rw [hc, if_neg (by decide)]) (Sim.stay h1 h2 fun _ => rfl)
    · have hnil : ¬ isNil (.tuple b2) = true := by
        cases b2 with
        | nil => exact absurd rfl c
        | cons y r => exact fun z => nomatch z
      have e : ifC (bodyC n) p co (.tuple b1) (.tuple b2) = insT co (p + 1 + (bodyC n (p + 1) (.tuple b1)).length + 1) :: (bodyC n (p + 1) (.tuple b1) ++ insJ (p + 1 + (bodyC n (p + 1) (.tuple b1)).length + 1 + (bodyC n (p + 1 + (bodyC n (p + 1) (.tuple b1)).length + 1) (.tuple b2)).length) :: bodyC n (p + 1 + (bodyC n (p + 1) (.tuple b1)).length + 1) (.tuple b2)) := by unfold ifC; rw [if_neg hnil]
      rw [e] at hpl ⊢
      have ht : code[p]? = some (.test co (p + 1 + (bodyC n (p + 1) (.tuple b1)).length + 1)) := Pl.head (i := .test co _) hpl
      have hb1 := hpl.tail.left
      have hr := hpl.tail.right
      have hj : code[p + 1 + (bodyC n (p + 1) (.tuple b1)).length]? = some (.jump (p + 1 + (bodyC n (p + 1) (.tuple b1)).length + 1 + (bodyC n (p + 1 + (bodyC n (p + 1) (.tuple b1)).length + 1) (.tuple b2)).length)) := Pl.head (i := .jump _) hr
      have hb2 := hr.tail
      have el : p + (insT co (p + 1 + (bodyC n (p + 1) (.tuple b1)).length + 1) :: (bodyC n (p + 1) (.tuple b1) ++ insJ (p + 1 + (bodyC n (p + 1) (.tuple b1)).length + 1 + (bodyC n (p + 1 + (bodyC n (p + 1) (.tuple b1)).length + 1) (.tuple b2)).length) :: bodyC n (p + 1 + (bodyC n (p + 1) (.tuple b1)).length + 1) (.tuple b2))).length = p + 1 + (bodyC n (p + 1) (.tuple b1)).length + 1 + (bodyC n (p + 1 + (bodyC n (p + 1) (.tuple b1)).length + 1) (.tuple b2)).length := by
        rw [List.length_cons, List.length_append, List.length_cons]; omega
      rw [el]
      rcases h with ⟨hc, hB, hW⟩ | ⟨hc, hB, hW⟩
      · rw [if_neg c] at hW
        subst hW
        have s2 : Sim code x mem p (p + 1 + (bodyC n (p + 1) (.tuple b1)).length) W W1 := Sim.test ht (by rw [hc, if_pos rfl]) (ih b1 (p + 1) (tstW W) W1 hb1 h1 h2 hB)
        exact s2.jump hj
      · subst hW
        exact Sim.test ht (by rw [hc, if_neg (by decide)]) (ih b2 _ (tstW W) _ hb2 h1 h2 hB)
  · rw [stC_while] at hpl ⊢
    exact simW ih hpl k W W' ha.1 (Int.le_of_lt ha.2) h
theorem sim_all : ∀ n, simB code x mem n
  | 0 => fun ss p W W' _ ha h0 ⟨_, e⟩ => by
    subst e
    exact Sim.stay ha h0 fun _ => rfl
  | n + 1 => by
    have ih := sim_all n
    intro ss
    show ∀ p W W', Pl code p (codeL (stC (bodyC n)) p ss) → W.an = none → 0 ≤ W.lf → DoL (stR x mem (DoB x mem n)) ss W W' → Sim code x mem p (p + (codeL (stC (bodyC n)) p ss).length) W W'
    induction ss with
    | nil =>
      intro p W W' _ ha h0 e
      have e' : W' = W := e
      subst e'
      exact Sim.stay ha h0 fun _ => rfl
    | cons s r ihr =>
      intro p W W' hpl ha h0 ⟨W1, h1, h2⟩
      have hpl' : Pl code p (stC (bodyC n) p s ++ codeL (stC (bodyC n)) (p + (stC (bodyC n) p s).length) r) := hpl
      have el : p + (codeL (stC (bodyC n)) p (s :: r)).length = p + (stC (bodyC n) p s).length + (codeL (stC (bodyC n)) (p + (stC (bodyC n) p s).length) r).length := by
        simp only [codeL]
        rw [List.length_append]
        omega
      rw [el]
      rcases h1 with ⟨hn, rfl⟩ | ⟨hal, hS⟩
      · have e := DoL_dead hn h2
        subst e
        exact (Sim.stay (q := p) ha h0 fun _ => rfl).dead hn
      · have s1 := simS ih hpl'.left hal hS
        by_cases c : alive W1
        · exact s1.trans c (ihr _ W1 W' hpl'.right c.1 (Int.le_of_lt c.2) h2)
        · have e := DoL_dead c h2
          subst e
          exact s1.dead c
/-! ### what the whole run comes to -/
def W0 (lf : Int) : Wd := ⟨0, 0, 0, lf, none, []⟩
theorem run_tree (hok : ∀ i ∈ code, i.ok "teller") {ss : List PyData} (hcode : bodyC 4 0 (.tuple ss) = code.map Ins.toD) {W' : Wd} (h : DoB x mem 4 ss (W0 (256 * (code.length : Nat) + 2)) W') :
    (W'.lf ≤ 0 ∧ ∃ f s qs, runF code x mem none = .silent f s qs ∧ isort qs = isort (psQ W'.ps)) ∨
    (0 < W'.lf ∧ ∃ v, W'.an = some v ∧ runF code x mem none = .ans v W'.st (psQ W'.ps)) ∨
    (0 < W'.lf ∧ W'.an = none ∧ runF code x mem none = .ended W'.st (psQ W'.ps)) := by
  have hpl : Pl code 0 (bodyC 4 0 (.tuple ss)) := fun j hj => by
    rw [hcode, Nat.zero_add, List.getElem?_map]
  have hs := sim_all (code := code) (x := x) (mem := mem) 4 ss 0 (W0 (256 * (code.length : Nat) + 2)) W' hpl rfl (by show 0 ≤ 256 * ((code.length : Nat) : Int) + 2; omega) h
  obtain ⟨k, w', h1, h2, h3, h4, h5, h6⟩ := hs.ex
  have h1' : Go code x mem k (wt code x mem 0) w' := h1
  have e0 : (W0 (256 * ((code.length : Nat) : Int) + 2)).lf = 256 * ((code.length : Nat) : Int) + 2 := rfl
  rw [e0] at h3
  cases ea : W'.an with
  | some v =>
    obtain ⟨ha, ht⟩ := h5 v ea
    obtain ⟨hr, hk⟩ := run_ans hok h1' ha
    rw [ea, if_neg (fun z => nomatch z)] at h3
    refine .inr (.inl ⟨by omega, v, rfl, ?_⟩)
    rw [hr, ht, h4]
  | none =>
    rw [ea, if_pos rfl] at h3
    by_cases c : 0 < W'.lf
    · have hw := h6 ⟨ea, c⟩
      have hl : 0 + (bodyC 4 0 (.tuple ss)).length = code.length := by rw [hcode, List.length_map]; omega
      rw [hl] at hw
      obtain ⟨hr, hk⟩ := run_end hok h1' (by rw [hw]; exact List.getElem?_eq_none (Nat.le_refl _))
      refine .inr (.inr ⟨c, rfl, ?_⟩)
      rw [hr, hw]
      rfl
    · obtain ⟨f, s, qs, hr, hq⟩ := run_sil hok h1' (by omega)
      rw [h4] at hq
      exact .inl ⟨by omega, f, s, qs, hr, hq⟩
end
/-! ### the law's world -/
abbrev sDo : Stmt := top 61
abbrev sTe : Stmt := top 62
abbrev sDO : Stmt := top 63
def ansV : Option Int → V
  | none => .non
  | some v => .int v
def wdK (W : Wd) (pa : Addr) (x : Int) (pm : Addr) : List (Key × V) := [(Sum.inr "a", .int W.a), (Sum.inr "b", .int W.b), (Sum.inr "steps", .int W.st), (Sum.inr "left", .int W.lf), (Sum.inr "answer", ansV W.an), (Sum.inr "asked", .ref pa), (Sum.inr "position", .int x), (Sum.inr "members", .ref pm)]
structure WdA (H : Hp) (wd pa pm : Addr) (x : Int) (ms : List Int) (W : Wd) : Prop where
  d : H wd = some (.dK (wdK W pa x pm))
  p : H pa = some (.lst (W.ps.map V.int))
  m : H pm = some (.lst (ms.map V.int))
  ne : pm ≠ pa
  i16 : in16 W.a W.b
  l0 : 0 ≤ W.lf
  bd : (W.ps.length : Int) + W.lf ≤ 30000
def memF (ms : List Int) : Int → Bool := fun z => decide (z ∈ ms)
theorem dgetK {H : Hp} {wd : Addr} {kvs : List (Key × V)} {z : Str} {v : V} (h : H wd = some (.dK kvs)) (e : valV kvs (Sum.inr z : Key) = some v) : DGet H wd (.str z) (some v) := by
  have := DGet.k (k := Sum.inr z) h
  rw [e] at this
  exact this
theorem WdA.keepT {H H' : Hp} {wd pa pm : Addr} {x : Int} {ms : List Int} {W : Wd} (h : WdA H wd pa pm x ms W) (f : Fx [wd, pa] H H') : KeepT H H' := by
  have n : ∀ {q : Addr} {o : HO}, H q = some o → (∀ zs, o ≠ .lst zs) → (∀ kvs, o ≠ .dK kvs) → q ∉ [wd, pa] := fun {q o} e n1 n2 mq => by
    simp at mq
    rcases mq with rfl | rfl
    · rw [h.d] at e; cases e; exact n2 _ rfl
    · rw [h.p] at e; cases e; exact n1 _ rfl
  exact ⟨fun q xs e => f _ _ (n e (fun _ z => nomatch z) (fun _ z => nomatch z)) e, fun q o u e => f _ _ (n e (fun _ z => nomatch z) (fun _ z => nomatch z)) e⟩
theorem WdA.same {H H' : Hp} {wd pa pm : Addr} {x : Int} {ms : List Int} {W : Wd} (h : WdA H wd pa pm x ms W) (s : Same H H') : WdA H' wd pa pm x ms W := ⟨s _ _ h.d, s _ _ h.p, s _ _ h.m, h.ne, h.i16, h.l0, h.bd⟩
/-- the dict is written, the asked ones stay -/
theorem WdA.put {H : Hp} {wd pa pm : Addr} {x : Int} {ms : List Int} {W W' : Wd} (h : WdA H wd pa pm x ms W) (e : W'.ps = W.ps) (h1 : in16 W'.a W'.b) (h2 : 0 ≤ W'.lf) (h3 : W'.lf ≤ W.lf) : WdA (upd H wd (.dK (wdK W' pa x pm))) wd pa pm x ms W' := by
  have n1 : pa ≠ wd := fun z => by have := h.p; rw [z, h.d] at this; cases this
  have n2 : pm ≠ wd := fun z => by have := h.m; rw [z, h.d] at this; cases this
  exact ⟨upd_same, by rw [upd_ne n1, e]; exact h.p, by rw [upd_ne n2]; exact h.m, h.ne, h1, h2, by rw [e]; have := h.bd; omega⟩
theorem len8 (W : Wd) (pa : Addr) (x : Int) (pm : Addr) : (wdK W pa x pm).length < sizeLine := by show 8 < sizeLine; decide
def spTe (K : PySem.W.Frag) : Sp := fun vs H Q _ => ∃ (v : V) (co : PyData) (wd pa pm : Addr) (x : Int) (ms : List Int) (W : Wd), vs = [v, .ref wd] ∧ Dt K H v co ∧ isCond co = true ∧ WdA H wd pa pm x ms W ∧ 0 < W.lf ∧
  ∀ H', Fx [wd, pa] H H' → WdA H' wd pa pm x ms (tstW W) → Q (.bl (cval W.a W.b co)) H'
def spDo (K : PySem.W.Frag) (n : Nat) : Sp := fun vs H Q _ => ∃ (v : V) (ss : List PyData) (c : Nat) (wd pa pm : Addr) (x : Int) (ms : List Int) (W : Wd), vs = [v, .ref wd] ∧ Dt K H v (.tuple ss) ∧ Lay (.tuple ss) ∧ n ≤ 4 ∧ bodyN "teller" n (.tuple ss) = some c ∧ WdA H wd pa pm x ms W ∧
  ∀ H' W', Fx [wd, pa] H H' → WdA H' wd pa pm x ms W' → DoB x (memF ms) n ss W W' → Q .non H'
def spOn (K : PySem.W.Frag) (n : Nat) : Sp := fun vs H Q _ => ∃ (v : V) (s : PyData) (c : Nat) (wd pa pm : Addr) (x : Int) (ms : List Int) (W : Wd), vs = [v, .ref wd] ∧ Dt K H v s ∧ stN "teller" n s = some c ∧ n ≤ 3 ∧ Lay s ∧ WdA H wd pa pm x ms W ∧ alive W ∧
  ∀ H' W', Fx [wd, pa] H H' → WdA H' wd pa pm x ms W' → stR x (memF ms) (DoB x (memF ms) n) s W W' → Q .non H'
section
variable {P : Program} {w : World} {K : PySem.W.Frag} {mg : Str → Option Value} {base : Heap}
theorem scTe : FnScope ["_law_condition_here", "_law_world"] ["_law_condition_here", "_law_world"] (defScope sTe) := ⟨rfl, rfl, rfl, by decide +kernel, rfl, by decide +kernel, by decide +kernel⟩
theorem ok_Te {f : Addr} {fd : FuncData} (F : Fun K "_law_test" "_law_test" sTe f fd) (CTr : Cal P w K mg base 2 "_law_true" ["_law_condition_here", "_law_state"] (spTr K)) : FnOk P w K mg base CX0 3 f fd ["_law_condition_here", "_law_world"] (spTe K) := by
  refine F.ok scTe (fun vs H Q E h => ?_) (fun cdv A outer s H vs Q E hr h => ?_)
  · obtain ⟨v, co, wd, pa, pm, x, ms, W, rfl, _⟩ := h
    rfl
  obtain ⟨v, co, wd, pa, pm, x, ms, W, rfl, hd, hco, hw, hl, q⟩ := h
  have hu := hu_of hr
  refine ⟨_, (pss_cons (ps_dput hu (pv 1) pe_str (pe_op op_add (pe_dget hu (pv 1) pe_str (fun _ _ => rfl)) pe_int) rfl)
    (pss_cons (ps_dput hu (pv 1) pe_str (pe_op op_sub (pe_dget hu (pv 1) pe_str (fun _ _ => rfl)) pe_int) rfl)
    (pss_one (ps_ret (pe_call CTr.G hr rfl CTr.m CTr.kp CTr.b .nil pass0 (pa_cons (pv 0) (pa_cons (pe_tup (pa_cons pe_int (pa_cons (pe_dget hu (pv 1) pe_str (fun _ _ => rfl)) (pa_cons (pe_dget hu (pv 1) pe_str (fun _ _ => rfl)) pa_nil)))) pa_nil))))))), ?_⟩
  refine ⟨_, rfl, wd, _, rfl, dgetK (v := .int W.st) hw.d rfl, _, _, rfl, rfl, _, rfl, wd, _, rfl, DPut.k (k := Sum.inr "steps") hw.d (len8 _ _ _ _), ?_⟩
  have hw1 := hw.put (W' := bmp W) rfl hw.i16 hw.l0 (Int.le_refl _)
  have f1 : Fx [wd, pa] H (upd H wd (.dK (wdK (bmp W) pa x pm))) := Fx.upd (by simp)
  rw [show putK (wdK W pa x pm) (Sum.inr "steps" : Key) (V.int (W.st + 1)) = wdK (bmp W) pa x pm from rfl]
  generalize upd H wd (.dK (wdK (bmp W) pa x pm)) = H1 at hw1 f1 ⊢
  refine ⟨_, rfl, wd, _, rfl, dgetK (v := .int W.lf) hw1.d rfl, _, _, rfl, rfl, _, rfl, wd, _, rfl, DPut.k (k := Sum.inr "left") hw1.d (len8 _ _ _ _), ?_⟩
  have hw2 := hw1.put (W' := tstW W) rfl hw.i16 (by show 0 ≤ W.lf - 1; omega) (by show W.lf - 1 ≤ W.lf; omega)
  have f2 : Fx [wd, pa] H1 (upd H1 wd (.dK (wdK (tstW W) pa x pm))) := Fx.upd (by simp)
  rw [show putK (wdK (bmp W) pa x pm) (Sum.inr "left" : Key) (V.int (W.lf - 1)) = wdK (tstW W) pa x pm from rfl]
  generalize upd H1 wd (.dK (wdK (tstW W) pa x pm)) = H2 at hw2 f2 ⊢
  have f12 := f1.trans f2
  refine ⟨_, rfl, _, rfl, wd, _, rfl, dgetK (v := .int W.a) hw2.d rfl, _, rfl, wd, _, rfl, dgetK (v := .int W.b) hw2.d rfl, (by show 3 ≤ sizeLine; decide), fun st nst => ?_⟩
  have u3 := same_new nst (.tup [.int 0, .int W.a, .int W.b])
  have e3 : (upd H2 st (.tup [.int 0, .int W.a, .int W.b])) st = some (.tup [.int 0, .int W.a, .int W.b]) := upd_same
  generalize upd H2 st (.tup [.int 0, .int W.a, .int W.b]) = H3 at u3 e3 ⊢
  have hd3 := dp_mono (tupH_same H3) _ _ (dp_mono ((hw.keepT f12).trans (KeepT.of u3)).same _ _ hd)
  exact ⟨v, st, co, ⟨0, W.a, W.b⟩, rfl, hd3, hco, SqT.of e3, q _ (f12.trans (Fx.of u3)) (hw2.same u3)⟩
theorem scDo : FnScope ["_law_body_here", "_law_world", "_law_statement_here"] ["_law_body_here", "_law_world"] (defScope sDo) := ⟨rfl, rfl, rfl, by decide +kernel, rfl, by decide +kernel, by decide +kernel⟩
theorem ok_Do0 {f : Addr} {fd : FuncData} (F : Fun K "_law_do" "_law_do" sDo f fd) : FnOk P w K mg base CX0 1 f fd ["_law_body_here", "_law_world"] (spDo K 0) := by
  refine F.ok scDo (fun vs H Q E h => ?_) (fun cdv A outer s H vs Q E hr h => ?_)
  · obtain ⟨v, ss, c, wd, pa, pm, x, ms, W, rfl, _⟩ := h
    rfl
  obtain ⟨v, ss, c, wd, pa, pm, x, ms, W, rfl, hd, hly, hn4, hb, hw, q⟩ := h
  refine ⟨_, (pss_one (ps_for PassesOwn.never rfl (pi_tup (pv 0)) (pg_name (i := 2) scDo.nd rfl (.inl rfl)) (pss_one ps_never))), ?_⟩
  have e0 : ss = [] := by
    cases ss with
    | nil => rfl
    | cons s r => simp [bodyN] at hb
  subst e0
  obtain ⟨a, xs, rfl, hs, ha⟩ := dp_tup_inv hd
  cases ha
  refine ⟨_, rfl, a, rfl, ⟨_, Same.tup (tupH_same H) hs⟩, for_it (walk_tup (K := K) (a := a) (xs := [])) (fun i σ Hx => Hx = H) rfl (fun i σ Hx _ e => by rw [e]; exact Same.tup (tupH_same H) hs) ?_ ?_⟩
  · rintro i y σ Hx Hy hi _ ⟨_, hy⟩
    cases hy
  · rintro σ Hx rfl
    exact q _ W (fun p o _ e => e) hw ⟨rfl, rfl⟩
theorem ok_DoS {f : Addr} {fd : FuncData} {n lv : Nat} (h3 : n ≤ 3) (F : Fun K "_law_do" "_law_do" sDo f fd) (CO : Cal P w K mg base lv "_law_do_one" ["_law_statement_here", "_law_world"] (spOn K n)) : FnOk P w K mg base CX0 (lv + 1) f fd ["_law_body_here", "_law_world"] (spDo K (n + 1)) := by
  refine F.ok scDo (fun vs H Q E h => ?_) (fun cdv A outer s H vs Q E hr h => ?_)
  · obtain ⟨v, ss, c, wd, pa, pm, x, ms, W, rfl, _⟩ := h
    rfl
  obtain ⟨v, ss, c, wd, pa, pm, x, ms, W, rfl, hd, hly, hn4, hb, hw, q⟩ := h
  have hu := hu_of hr
  refine ⟨_, (pss_one (ps_for PassesOwn.never rfl (pi_tup (pv 0)) (pg_name (i := 2) scDo.nd rfl (.inl rfl))
      (pss_one (ps_if (PW.pt (pw_and (pt_cmpR op_isN (pe_dget hu (pv 1) pe_str (fun _ _ => rfl)) pe_non (nomark _)) (pw_and1 (pt_cmpR op_gt (pe_dget hu (pv 1) pe_str (fun _ _ => rfl)) pe_int (nomark _)))))
        (pss_one (ps_expr (pe_call CO.G hr rfl CO.m CO.kp CO.b .nil pass0 (pa_cons (pv 2) (pa_cons (pv 1) pa_nil)))))
        pss_nil)))), ?_⟩
  obtain ⟨a, xs, rfl, hs, ha⟩ := dp_tup_inv hd
  have hsl := lay_mem (lay_tup hly)
  refine ⟨_, rfl, a, rfl, ⟨_, Same.tup (tupH_same H) hs⟩, for_it (walk_tup (K := K) (a := a) (xs := xs)) (fun i σ Hx => ∃ (s2 : Option V) (W1 : Wd), σ = [some (.ref a), some (.ref wd), s2] ∧ Fx [wd, pa] H Hx ∧ WdA Hx wd pa pm x ms W1 ∧ DoL (stR x (memF ms) (DoB x (memF ms) n)) (ss.take i) W W1)
    ⟨none, W, rfl, fun p o _ e => e, hw, rfl⟩ (fun i σ Hx _ ⟨_, _, _, fx, _⟩ => Same.tup (tupH_same Hx) (Same.tup (hw.keepT fx).same hs)) ?_ ?_⟩
  · rintro i y σ Hx Hy hi ⟨s2, W1, rfl, fx, hw1, hdo⟩ ⟨rfl, hy⟩
    obtain ⟨sd, hsd, hdp⟩ := dpAll_get ha hy
    obtain ⟨sa, hsa, _⟩ := sum_le hb (List.mem_of_getElem? hsd)
    have hdx : Dt K Hy y sd := dp_mono (hw.keepT fx).same _ _ hdp
    have hts : ss.take (i + 1) = ss.take i ++ [sd] := take_snoc hsd
    refine ⟨_, rfl, wd, _, rfl, dgetK (v := ansV W1.an) hw1.d rfl, rfl, _, rfl, ?_⟩
    by_cases c1 : W1.an = none
    · refine ite2 (fun _ => ?_) (fun z => absurd (decide_eq_true (by rw [c1]; rfl)) z)
      refine ⟨_, rfl, wd, _, rfl, dgetK (v := .int W1.lf) hw1.d rfl, _, _, rfl, rfl, _, rfl, ?_⟩
      by_cases c2 : 0 < W1.lf
      · refine ite2 (fun _ => ?_) (fun z => absurd (decide_eq_true c2) z)
        refine ⟨_, rfl, _, rfl, y, sd, sa, wd, pa, pm, x, ms, W1, rfl, hdx, hsa, h3, hsl _ (List.mem_of_getElem? hsd), hw1, ⟨c1, c2⟩, fun Hz W2 fz hw2 hst => ?_⟩
        refine ⟨_, W2, rfl, fx.trans fz, hw2, ?_⟩
        rw [hts]
        exact DoL_snoc hdo (.inr ⟨⟨c1, c2⟩, hst⟩)
      · refine ite2 (fun z => absurd (of_decide_eq_true z) c2) (fun _ => ⟨_, W1, rfl, fx, hw1, ?_⟩)
        rw [hts]
        exact DoL_snoc hdo (.inl ⟨fun z => c2 z.2, rfl⟩)
    · refine ite2 (fun z => absurd (of_decide_eq_true z) (fun z' => c1 ?_)) (fun _ => iteF ⟨_, W1, rfl, fx, hw1, ?_⟩)
      · cases e : W1.an with
        | none => rfl
        | some v => rw [e] at z'; cases z'
      · rw [hts]
        exact DoL_snoc hdo (.inl ⟨fun z => c1 z.1, rfl⟩)
  · rintro σ Hx ⟨s2, W1, rfl, fx, hw1, hdo⟩
    have hxl := dpAll_len ha
    rw [hxl, List.take_length] at hdo
    exact q _ W1 fx hw1 hdo
end
theorem imp_of8 {P G : Hp → Prop} {Q : Prop} (f : (∀ H, G H → P H) → Q) (p : ∀ H, G H → P H) : Q := f p
theorem dp3 {K : PySem.W.Frag} {H : Hp} {xs : List V} {d1 d2 d3 : PyData} (h : DpAll K H xs [d1, d2, d3]) : ∃ x y z, xs = [x, y, z] ∧ Dp K H x d1 ∧ Dp K H y d2 ∧ Dp K H z d3 := by
  cases h with
  | cons h1 t =>
    cases t with
    | cons h2 t =>
      cases t with
      | cons h3 t =>
        cases t
        exact ⟨_, _, _, rfl, h1, h2, h3⟩
theorem dp4 {K : PySem.W.Frag} {H : Hp} {xs : List V} {d1 d2 d3 d4 : PyData} (h : DpAll K H xs [d1, d2, d3, d4]) : ∃ x y z u, xs = [x, y, z, u] ∧ Dp K H x d1 ∧ Dp K H y d2 ∧ Dp K H z d3 ∧ Dp K H u d4 := by
  cases h with
  | cons h1 t =>
    obtain ⟨y, z, u, rfl, h2, h3, h4⟩ := dp3 t
    exact ⟨_, _, _, _, rfl, h1, h2, h3, h4⟩
theorem plain_flat8 {s : PyData} (h : isPlain s "teller" = true) : ∃ i : Ins, s = i.toD ∧ i.ok "teller" ∧ flatI i := by
  obtain ⟨i, e, hi⟩ := plain_ins h
  refine ⟨i, e, hi, ?_⟩
  obtain ⟨z, ps, rs, e2, hz, _, _⟩ := plain_inv h
  cases i with
  | test c t =>
    rw [e] at e2
    have : z = "test" := by injection e2 with e2; injection e2 with e2 _; injection e2 with e2; exact e2.symm
    subst this
    rw [show rolesZ "test" "teller" = none by decide +kernel] at hz
    cases hz
  | jump t =>
    rw [e] at e2
    have : z = "jump" := by injection e2 with e2; injection e2 with e2 _; injection e2 with e2; exact e2.symm
    subst this
    rw [show rolesZ "jump" "teller" = none by decide +kernel] at hz
    cases hz
  | _ => trivial
theorem inV_i (z : Int) : ∀ ms : List Int, inV (.int z) (ms.map V.int) = decide (z ∈ ms)
  | [] => rfl
  | m :: t => by
    have ih := inV_i z t
    have e : inV (.int z) ((m :: t).map V.int) = (decide (m = z) || inV (.int z) (t.map V.int)) := by
      simp [inV, eqV]
      first | rfl | (congr 1; exact decide_eq_decide.mpr ⟨fun h => h.symm, fun h => h.symm⟩)
    rw [e, ih]
    by_cases c : m = z
    · subst c; simp
    · simp [c]
      intro h
      exact absurd h.symm c
/-! ### left only falls -/
theorem DoL_lf {S : PyData → Wd → Wd → Prop} (h : ∀ s W W', S s W W' → W'.lf ≤ W.lf) : ∀ {ss : List PyData} {W W' : Wd}, DoL S ss W W' → W'.lf ≤ W.lf
  | [], W, W', e => by
    have e' : W' = W := e
    rw [e']
    exact Int.le_refl _
  | s :: r, W, W', ⟨W1, h1, h2⟩ => by
    have i2 := DoL_lf h h2
    rcases h1 with ⟨_, rfl⟩ | ⟨_, h1⟩
    · exact i2
    · exact Int.le_trans i2 (h s W W1 h1)
theorem onW_lf (W : Wd) : (onW W).lf = W.lf := by unfold onW; split <;> rfl
theorem WhR_lf {B : Wd → Wd → Prop} (h : ∀ W W', B W W' → W'.lf ≤ W.lf) {co : PyData} : ∀ {k : Nat} {W W' : Wd}, WhR B co k W W' → W'.lf ≤ W.lf
  | 0, W, W', h0 => by
    rcases h0 with ⟨_, rfl⟩ | ⟨_, _, rfl⟩
    · exact Int.le_refl _
    · show W.lf - 1 ≤ W.lf; omega
  | k + 1, W, W', ⟨_, _, W1, hB, hR⟩ => by
    have h1 := h _ _ hB
    have h2 := WhR_lf h hR
    rw [onW_lf] at h2
    have e : (tstW W).lf = W.lf - 1 := rfl
    omega
theorem stR_lf {x : Int} {mem : Int → Bool} {B : List PyData → Wd → Wd → Prop} (h : ∀ ss W W', B ss W W' → W'.lf ≤ W.lf) (s : PyData) (W W' : Wd) (hs : stR x mem B s W W') : W'.lf ≤ W.lf := by
  have e : (tstW W).lf = W.lf - 1 := rfl
  rcases hs with ⟨i, _, _, rfl⟩ | ⟨co, b1, b2, W1, _, ⟨_, hB, rfl⟩ | ⟨_, hB, rfl⟩⟩ | ⟨co, b, k, _, hR⟩
  · show W.lf - 1 ≤ W.lf; omega
  · have := h _ _ _ hB
    split
    · omega
    · rw [onW_lf]; omega
  · have := h _ _ _ hB
    omega
  · exact WhR_lf (fun W W' => h b W W') hR
theorem DoB_lf {x : Int} {mem : Int → Bool} : ∀ (n : Nat) (ss : List PyData) (W W' : Wd), DoB x mem n ss W W' → W'.lf ≤ W.lf
  | 0, ss, W, W', ⟨_, e⟩ => by rw [e]; exact Int.le_refl _
  | n + 1, ss, W, W', h => DoL_lf (fun s W W' => stR_lf (DoB_lf n) s W W') h
section
variable {P : Program} {w : World} {K : PySem.W.Frag} {mg : Str → Option Value} {base : Heap}
abbrev nsDO : List Str := ["_law_statement_here", "_law_world", "_law_word", "_law_values", "_law_place_here", "_law_after"]
theorem scDO : FnScope nsDO ["_law_statement_here", "_law_world"] (defScope sDO) := ⟨rfl, rfl, rfl, by decide +kernel, rfl, by decide +kernel, by decide +kernel⟩
theorem ok_On {f : Addr} {fd : FuncData} {n lv : Nat} (h3 : n ≤ 3) (hlv : 3 ≤ lv) (F : Fun K "_law_do_one" "_law_do_one" sDO f fd) (T : Gs K mg) (CTe : Cal P w K mg base 3 "_law_test" ["_law_condition_here", "_law_world"] (spTe K)) (CDo : Cal P w K mg base lv "_law_do" ["_law_body_here", "_law_world"] (spDo K n))
    (CPl : Cal P w K mg base 2 "_law_place" ["_law_step", "_law_state", "_law_position"] (spPlc K)) (CNx : Cal P w K mg base 2 "_law_next" ["_law_step", "_law_state", "_law_answer"] (spNx K)) : FnOk P w K mg base CX0 (lv + 1) f fd ["_law_statement_here", "_law_world"] (spOn K n) := by
  refine F.ok scDO (fun vs H Q E h => ?_) (fun cdv A outer s0 H vs Q E hr h => ?_)
  · obtain ⟨v, s, c, wd, pa, pm, x, ms, W, rfl, _⟩ := h
    rfl
  obtain ⟨v, s, c, wd, pa, pm, x, ms, W, rfl, hd, hsa, hn3, hly, hw, hal, q⟩ := h
  have hu := hu_of hr
  have hun := hr.units
  have hr3 : Room 3 _ := hr.mono hlv
  have hr2 : Room 2 _ := hr.mono (by omega)
  refine ⟨_, (pss_cons (ps_set (i := 2) scDO.nd rfl (.inl rfl) (pe_ix ix_tup (pv 0) pe_int (fun _ _ => rfl)))
    (pss_cons (ps_if (pt_cmpR op_eq (pv 2) pe_str (nomark _))
      (pss_cons (ps_if (pt_val (pe_call CTe.G hr3 rfl CTe.m CTe.kp CTe.b .nil pass0 (pa_cons (pe_ix ix_tup (pv 0) pe_int (fun _ _ => rfl)) (pa_cons (pv 1) pa_nil))))
        (pss_cons (ps_expr (pe_call CDo.G hr rfl CDo.m CDo.kp CDo.b .nil pass0 (pa_cons (pe_ix ix_tup (pv 0) pe_int (fun _ _ => rfl)) (pa_cons (pv 1) pa_nil))))
        (pss_one (ps_if (PW.pt (pw_and (pt_cmpR op_isN (pe_dget hu (pv 1) pe_str (fun _ _ => rfl)) pe_non (nomark _)) (pw_and1 (pt_cmpR (op_neD hun) (pe_ix ix_tup (pv 0) pe_int (fun _ _ => rfl)) (pe_tup pa_nil) (nomark _)))))
          (pss_one (ps_dput hu (pv 1) pe_str (pe_op op_add (pe_dget hu (pv 1) pe_str (fun _ _ => rfl)) pe_int) rfl))
          pss_nil)))
        (pss_one (ps_expr (pe_call CDo.G hr rfl CDo.m CDo.kp CDo.b .nil pass0 (pa_cons (pe_ix ix_tup (pv 0) pe_int (fun _ _ => rfl)) (pa_cons (pv 1) pa_nil))))))
      (pss_one (ps_ret pe_non)))
      pss_nil)
    (pss_cons (ps_if (pt_cmpR op_eq (pv 2) pe_str (nomark _))
      (pss_cons (ps_while PassesOwn.never (PW.pt (pw_and (pt_cmpR op_isN (pe_dget hu (pv 1) pe_str (fun _ _ => rfl)) pe_non (nomark _)) (pw_and (pt_cmpR op_gt (pe_dget hu (pv 1) pe_str (fun _ _ => rfl)) pe_int (nomark _)) (pw_and1 (pt_val (pe_call CTe.G hr3 rfl CTe.m CTe.kp CTe.b .nil pass0 (pa_cons (pe_ix ix_tup (pv 0) pe_int (fun _ _ => rfl)) (pa_cons (pv 1) pa_nil))))))))
        (pss_cons (ps_expr (pe_call CDo.G hr rfl CDo.m CDo.kp CDo.b .nil pass0 (pa_cons (pe_ix ix_tup (pv 0) pe_int (fun _ _ => rfl)) (pa_cons (pv 1) pa_nil))))
        (pss_one (ps_if (pt_cmpR op_isN (pe_dget hu (pv 1) pe_str (fun _ _ => rfl)) pe_non (nomark _))
          (pss_one (ps_dput hu (pv 1) pe_str (pe_op op_add (pe_dget hu (pv 1) pe_str (fun _ _ => rfl)) pe_int) rfl))
          pss_nil))))
      (pss_one (ps_ret pe_non)))
      pss_nil)
    (pss_cons (ps_dput hu (pv 1) pe_str (pe_op op_sub (pe_dget hu (pv 1) pe_str (fun _ _ => rfl)) pe_int) rfl)
    (pss_cons (ps_dput hu (pv 1) pe_str (pe_op op_add (pe_dget hu (pv 1) pe_str (fun _ _ => rfl)) pe_int) rfl)
    (pss_cons (ps_set (i := 3) scDO.nd rfl (.inl rfl) (pe_tup (pa_cons pe_int (pa_cons (pe_dget hu (pv 1) pe_str (fun _ _ => rfl)) (pa_cons (pe_dget hu (pv 1) pe_str (fun _ _ => rfl)) pa_nil)))))
    (pss_cons (ps_if (pt_cmpR op_eq (pv 2) pe_str (nomark _))
      (pss_one (ps_dput hu (pv 1) pe_str (pe_op op_sub (pe_op op_add (pe_dget hu (pv 1) pe_str (fun _ _ => rfl)) (pe_ix ix_tup (pv 0) pe_int (fun _ _ => rfl))) pe_int) rfl))
      (pss_one (ps_if (pt_cmpR op_eq (pv 2) pe_str (nomark _))
        (pss_one (ps_dput hu (pv 1) pe_str (pe_ix ix_tup (pv 0) pe_int (fun _ _ => rfl)) rfl))
        (pss_one (ps_if (pt_cmpR op_eq (pv 2) pe_str (nomark _))
          (pss_cons (ps_set (i := 4) scDO.nd rfl (.inl rfl) (pe_call CPl.G hr2 rfl CPl.m CPl.kp CPl.b .nil pass0 (pa_cons (pv 0) (pa_cons (pv 3) (pa_cons (pe_dget hu (pv 1) pe_str (fun _ _ => rfl)) pa_nil)))))
          (pss_cons (ps_if (pt_cmpR op_ge (pv 4) pe_int (nomark _))
            (pss_one (ps_expr (pe_bm PySem.F.plainAttrs_list PySem.F.slot_list_append PySem.F.type_list_append mt_append (pe_dget hu (pv 1) pe_str (fun _ _ => rfl)) (pa_cons (pv 4) pa_nil))))
            pss_nil)
          (pss_one (ps_dput hu (pv 1) (pe_ix ix_tup (pv 0) pe_int (fun _ _ => rfl)) (pe_callTy call_int1 (by rfl) T.int (by decide +kernel) (pa_cons (pe_and (pe_cmpR op_ge (pv 4) pe_int (nomark _)) (pe_one (pe_cmpR op_in_seq (pv 4) (pe_dget hu (pv 1) pe_str (fun _ _ => rfl)) (by rfl)))) pa_nil)) rfl))))
          (pss_cons (ps_set (i := 5) scDO.nd rfl (.inl rfl) (pe_call CNx.G hr2 rfl CNx.m CNx.kp CNx.b .nil pass0 (pa_cons (pv 0) (pa_cons (pv 3) (pa_cons pe_int pa_nil)))))
          (pss_cons (ps_dput hu (pv 1) pe_str (pe_ix ix_tup (pv 5) pe_int (fun _ _ => rfl)) rfl)
          (pss_one (ps_dput hu (pv 1) pe_str (pe_ix ix_tup (pv 5) pe_int (fun _ _ => rfl)) rfl)))))))))
    (pss_one (ps_ret pe_non))))))))), ?_⟩
  rcases st_shape hsa with ⟨z, ps, rfl, hz1, hz2, hp, _⟩ | ⟨co, bb, c', rfl, hco, hb, _⟩ | ⟨co, bb1, bb2, c1, c2, rfl, hco, hb1, hb2, _⟩
  · -- a plain statement
    obtain ⟨i, ei, hi, hfl⟩ := plain_flat8 hp
    rw [ei] at hd
    obtain ⟨p, xr, rfl, hsp0, hap⟩ := ins_inv hd
    have ew : i.word = z := by
      rw [toD_eq] at ei
      injection ei with ei
      injection ei with ei _
      injection ei with ei
      exact ei.symm
    have hsp := Same.tup (tupH_same H) hsp0
    refine ⟨_, rfl, p, _, _, _, rfl, rfl, hsp, atI_nat (j := 0) rfl, ?_⟩
    refine ⟨_, rfl, rfl, _, rfl, strF (by rw [ew]; exact hz1) ⟨_, rfl, rfl, _, rfl, strF (by rw [ew]; exact hz2) ?_⟩⟩
    -- left, steps
    refine ⟨_, rfl, wd, _, rfl, dgetK (v := .int W.lf) hw.d rfl, _, _, rfl, rfl, _, rfl, wd, _, rfl, DPut.k (k := Sum.inr "left") hw.d (len8 _ _ _ _), ?_⟩
    have hl := hal.2
    have hw1 := hw.put (W' := ⟨W.a, W.b, W.st, W.lf - 1, W.an, W.ps⟩) rfl hw.i16 (by show 0 ≤ W.lf - 1; omega) (by show W.lf - 1 ≤ W.lf; omega)
    have f1 : Fx [wd, pa] H (upd H wd (.dK (wdK ⟨W.a, W.b, W.st, W.lf - 1, W.an, W.ps⟩ pa x pm))) := Fx.upd (by simp)
    rw [show putK (wdK W pa x pm) (Sum.inr "left" : Key) (V.int (W.lf - 1)) = wdK ⟨W.a, W.b, W.st, W.lf - 1, W.an, W.ps⟩ pa x pm from rfl]
    generalize upd H wd (.dK (wdK ⟨W.a, W.b, W.st, W.lf - 1, W.an, W.ps⟩ pa x pm)) = H1 at hw1 f1 ⊢
    refine ⟨_, rfl, wd, _, rfl, dgetK (v := .int W.st) hw1.d rfl, _, _, rfl, rfl, _, rfl, wd, _, rfl, DPut.k (k := Sum.inr "steps") hw1.d (len8 _ _ _ _), ?_⟩
    have hw2 := hw1.put (W' := tstW W) rfl hw.i16 (by show 0 ≤ W.lf - 1; omega) (by show W.lf - 1 ≤ W.lf - 1; omega)
    have f2 : Fx [wd, pa] H1 (upd H1 wd (.dK (wdK (tstW W) pa x pm))) := Fx.upd (by simp)
    rw [show putK (wdK ⟨W.a, W.b, W.st, W.lf - 1, W.an, W.ps⟩ pa x pm) (Sum.inr "steps" : Key) (V.int (W.st + 1)) = wdK (tstW W) pa x pm from rfl]
    generalize upd H1 wd (.dK (wdK (tstW W) pa x pm)) = H2 at hw2 f2 ⊢
    refine ⟨_, rfl, wd, _, rfl, dgetK (v := .int W.a) hw2.d rfl, _, rfl, wd, _, rfl, dgetK (v := .int W.b) hw2.d rfl, (by show 3 ≤ sizeLine; decide), fun tv ntv => ?_⟩
    have u3 := same_new ntv (.tup [.int 0, .int W.a, .int W.b])
    have e3 : (upd H2 tv (.tup [.int 0, .int W.a, .int W.b])) tv = some (.tup [.int 0, .int W.a, .int W.b]) := upd_same
    generalize upd H2 tv (.tup [.int 0, .int W.a, .int W.b]) = H3 at u3 e3 ⊢
    have f3 : Fx [wd, pa] H H3 := (f1.trans f2).trans (Fx.of u3)
    have hw3 := hw2.same u3
    have k3 := hw.keepT f3
    have hd3 : Dp K H3 (.ref p) i.toD := dp_mono (tupH_same H3) _ _ (dp_mono k3.same _ _ hd)
    have hsp3 : SqT K H3 p (.str i.word :: xr) := Same.tup (tupH_same H3) (Same.tup k3.same hsp0)
    have fin : ∀ (Hx : Hp) (W' : Wd), Fx [wd, pa] H Hx → WdA Hx wd pa pm x ms W' → W' = plW x (memF ms) i W → Q .non Hx := fun Hx W' fx hx e => q Hx W' fx hx (.inl ⟨i, hfl, by rw [ei], e⟩)
    have han := hal.1
    dsimp only [List.set_cons_succ, List.set_cons_zero]
    cases i with
    | test c t => exact hfl.elim
    | jump t => exact hfl.elim
    | grow t => exact absurd rfl hi.1
    | lst t => exact absurd rfl hi.1
    | wait m =>
      obtain ⟨y, rfl, hy⟩ := dp_solo hap
      cases hy
      refine ⟨_, rfl, rfl, _, rfl, strT ?_⟩
      refine ⟨_, rfl, wd, _, rfl, dgetK (v := .int (W.st + 1)) hw3.d rfl, _, rfl, p, _, _, .int m, rfl, rfl, hsp3, atI_nat (j := 1) rfl, _, _, rfl, rfl, _, _, rfl, rfl, _, rfl, wd, _, rfl, DPut.k (k := Sum.inr "steps") hw3.d (len8 _ _ _ _), ?_⟩
      have hw4 := hw3.put (W' := ⟨W.a, W.b, W.st + 1 + m - 1, W.lf - 1, W.an, W.ps⟩) rfl hw.i16 (by show 0 ≤ W.lf - 1; omega) (by show W.lf - 1 ≤ W.lf - 1; omega)
      refine fin _ ⟨W.a, W.b, W.st + 1 + m - 1, W.lf - 1, W.an, W.ps⟩ (f3.trans (Fx.upd (by simp))) hw4 ?_
      unfold plW
      rw [han, show W.st + 1 + m - 1 = W.st + m by omega]
      simp [askP, ansOf, heldS, Ins.held, Ins.cost]
    | ans v0 =>
      obtain ⟨y, rfl, hy⟩ := dp_solo hap
      cases hy
      refine ⟨_, rfl, rfl, _, rfl, strF (by simp only [Ins.word]; decide +kernel) ⟨_, rfl, rfl, _, rfl, strT ?_⟩⟩
      refine ⟨_, rfl, p, _, _, .int v0, rfl, rfl, hsp3, atI_nat (j := 1) rfl, _, rfl, wd, _, rfl, DPut.k (k := Sum.inr "answer") hw3.d (len8 _ _ _ _), ?_⟩
      have hw4 := hw3.put (W' := ⟨W.a, W.b, W.st + 1, W.lf - 1, some v0, W.ps⟩) rfl hw.i16 (by show 0 ≤ W.lf - 1; omega) (by show W.lf - 1 ≤ W.lf - 1; omega)
      refine fin _ ⟨W.a, W.b, W.st + 1, W.lf - 1, some v0, W.ps⟩ (f3.trans (Fx.upd (by simp))) hw4 ?_
      unfold plW
      simp [askP, ansOf, heldS, Ins.held, Ins.cost]
    | set z0 m =>
      refine ⟨_, rfl, rfl, _, rfl, strF (by simp only [Ins.word]; decide +kernel) ⟨_, rfl, rfl, _, rfl, strF (by simp only [Ins.word]; decide +kernel) ⟨_, rfl, rfl, _, rfl, strF (by simp only [Ins.word]; decide +kernel) ?_⟩⟩⟩
      refine ⟨_, rfl, _, rfl, .ref p, tv, 0, .set z0 m, ⟨0, W.a, W.b⟩, "teller", rfl, hd3, hi, SqT.of e3, fun H4 r u4 nr er => ?_⟩
      have hw4 := hw3.same u4
      refine ⟨_, rfl, r, _, _, _, rfl, rfl, SqT.of er, atI_nat (j := 1) rfl, _, rfl, wd, _, rfl, DPut.k (k := Sum.inr "a") hw4.d (len8 _ _ _ _), ?_⟩
      have h16 := held16 (i := .set z0 m) hi hw.i16
      have hw5 := hw4.put (W' := ⟨((Ins.set z0 m).held W.a W.b).1, W.b, W.st + 1, W.lf - 1, W.an, W.ps⟩) rfl ⟨h16.1, hw.i16.2⟩ (by show 0 ≤ W.lf - 1; omega) (by show W.lf - 1 ≤ W.lf - 1; omega)
      have f5 : Fx [wd, pa] H4 (upd H4 wd (.dK (wdK ⟨((Ins.set z0 m).held W.a W.b).1, W.b, W.st + 1, W.lf - 1, W.an, W.ps⟩ pa x pm))) := Fx.upd (by simp)
      rw [show putK (wdK (tstW W) pa x pm) (Sum.inr "a" : Key) (V.int (heldN 0 ⟨0, W.a, W.b⟩ (Ins.set z0 m)).1) = wdK ⟨((Ins.set z0 m).held W.a W.b).1, W.b, W.st + 1, W.lf - 1, W.an, W.ps⟩ pa x pm from rfl]
      have er5 : (upd H4 wd (.dK (wdK ⟨((Ins.set z0 m).held W.a W.b).1, W.b, W.st + 1, W.lf - 1, W.an, W.ps⟩ pa x pm))) r = some (.tup [.int ((0 + 1 : Nat) : Int), .int (heldN 0 ⟨0, W.a, W.b⟩ (Ins.set z0 m)).1, .int (heldN 0 ⟨0, W.a, W.b⟩ (Ins.set z0 m)).2]) := by
        rw [upd_ne (fun zz => by rw [zz, hw4.d] at er; cases er)]; exact er
      generalize upd H4 wd (.dK (wdK ⟨((Ins.set z0 m).held W.a W.b).1, W.b, W.st + 1, W.lf - 1, W.an, W.ps⟩ pa x pm)) = H5 at hw5 f5 er5 ⊢
      refine ⟨_, rfl, r, _, _, _, rfl, rfl, SqT.of er5, atI_nat (j := 2) rfl, _, rfl, wd, _, rfl, DPut.k (k := Sum.inr "b") hw5.d (len8 _ _ _ _), ?_⟩
      have hw6 := hw5.put (W' := ⟨((Ins.set z0 m).held W.a W.b).1, ((Ins.set z0 m).held W.a W.b).2, W.st + 1, W.lf - 1, W.an, W.ps⟩) rfl h16 (by show 0 ≤ W.lf - 1; omega) (by show W.lf - 1 ≤ W.lf - 1; omega)
      refine fin _ ⟨((Ins.set z0 m).held W.a W.b).1, ((Ins.set z0 m).held W.a W.b).2, W.st + 1, W.lf - 1, W.an, W.ps⟩ ((f3.trans (Fx.of u4)).trans (f5.trans (Fx.upd (by simp)))) hw6 ?_
      unfold plW
      rw [han]
      simp [askP, ansOf, heldS, Ins.cost]
    | add z0 m =>
      refine ⟨_, rfl, rfl, _, rfl, strF (by simp only [Ins.word]; decide +kernel) ⟨_, rfl, rfl, _, rfl, strF (by simp only [Ins.word]; decide +kernel) ⟨_, rfl, rfl, _, rfl, strF (by simp only [Ins.word]; decide +kernel) ?_⟩⟩⟩
      refine ⟨_, rfl, _, rfl, .ref p, tv, 0, .add z0 m, ⟨0, W.a, W.b⟩, "teller", rfl, hd3, hi, SqT.of e3, fun H4 r u4 nr er => ?_⟩
      have hw4 := hw3.same u4
      refine ⟨_, rfl, r, _, _, _, rfl, rfl, SqT.of er, atI_nat (j := 1) rfl, _, rfl, wd, _, rfl, DPut.k (k := Sum.inr "a") hw4.d (len8 _ _ _ _), ?_⟩
      have h16 := held16 (i := .add z0 m) hi hw.i16
      have hw5 := hw4.put (W' := ⟨((Ins.add z0 m).held W.a W.b).1, W.b, W.st + 1, W.lf - 1, W.an, W.ps⟩) rfl ⟨h16.1, hw.i16.2⟩ (by show 0 ≤ W.lf - 1; omega) (by show W.lf - 1 ≤ W.lf - 1; omega)
      have f5 : Fx [wd, pa] H4 (upd H4 wd (.dK (wdK ⟨((Ins.add z0 m).held W.a W.b).1, W.b, W.st + 1, W.lf - 1, W.an, W.ps⟩ pa x pm))) := Fx.upd (by simp)
      rw [show putK (wdK (tstW W) pa x pm) (Sum.inr "a" : Key) (V.int (heldN 0 ⟨0, W.a, W.b⟩ (Ins.add z0 m)).1) = wdK ⟨((Ins.add z0 m).held W.a W.b).1, W.b, W.st + 1, W.lf - 1, W.an, W.ps⟩ pa x pm from rfl]
      have er5 : (upd H4 wd (.dK (wdK ⟨((Ins.add z0 m).held W.a W.b).1, W.b, W.st + 1, W.lf - 1, W.an, W.ps⟩ pa x pm))) r = some (.tup [.int ((0 + 1 : Nat) : Int), .int (heldN 0 ⟨0, W.a, W.b⟩ (Ins.add z0 m)).1, .int (heldN 0 ⟨0, W.a, W.b⟩ (Ins.add z0 m)).2]) := by
        rw [upd_ne (fun zz => by rw [zz, hw4.d] at er; cases er)]; exact er
      generalize upd H4 wd (.dK (wdK ⟨((Ins.add z0 m).held W.a W.b).1, W.b, W.st + 1, W.lf - 1, W.an, W.ps⟩ pa x pm)) = H5 at hw5 f5 er5 ⊢
      refine ⟨_, rfl, r, _, _, _, rfl, rfl, SqT.of er5, atI_nat (j := 2) rfl, _, rfl, wd, _, rfl, DPut.k (k := Sum.inr "b") hw5.d (len8 _ _ _ _), ?_⟩
      have hw6 := hw5.put (W' := ⟨((Ins.add z0 m).held W.a W.b).1, ((Ins.add z0 m).held W.a W.b).2, W.st + 1, W.lf - 1, W.an, W.ps⟩) rfl h16 (by show 0 ≤ W.lf - 1; omega) (by show W.lf - 1 ≤ W.lf - 1; omega)
      refine fin _ ⟨((Ins.add z0 m).held W.a W.b).1, ((Ins.add z0 m).held W.a W.b).2, W.st + 1, W.lf - 1, W.an, W.ps⟩ ((f3.trans (Fx.of u4)).trans (f5.trans (Fx.upd (by simp)))) hw6 ?_
      unfold plW
      rw [han]
      simp [askP, ansOf, heldS, Ins.cost]
    | ask g0 d0 z0 =>
      obtain ⟨x0, x1, x2, rfl, hx0, hx1, hx2⟩ := dp_trip hap
      cases hx0
      cases hx2
      refine ⟨_, rfl, rfl, _, rfl, strF (by simp only [Ins.word]; decide +kernel) ⟨_, rfl, rfl, _, rfl, strF (by simp only [Ins.word]; decide +kernel) ⟨_, rfl, rfl, _, rfl, strT ?_⟩⟩⟩
      refine ⟨_, rfl, _, rfl, _, rfl, wd, _, rfl, dgetK (v := .int x) hw3.d rfl, .ref p, tv, x, g0, d0, z0, "teller", ⟨0, W.a, W.b⟩, rfl, hd3, hi, SqT.of e3, fun H4 u4 => ?_⟩
      have hw4 := hw3.same u4
      have f4 := f3.trans (Fx.of u4)
      have hsp4 : SqT K H4 p [.str "ask", .str g0, x1, .str z0] := Same.tup u4 hsp3
      obtain ⟨pl, hpl⟩ : ∃ pl, pl = place x W.a W.b g0 d0 := ⟨_, rfl⟩
      have hask : askP x ⟨0, W.a, W.b⟩ (.ask g0 d0 z0) = if 0 ≤ pl then [pl] else [] := by rw [hpl]; rfl
      rw [show place x (S3.mk 0 W.a W.b).a (S3.mk 0 W.a W.b).b g0 d0 = pl from hpl.symm]
      dsimp only [List.set_cons_succ, List.set_cons_zero]
      have hbd := hw.bd
      have hpb : (W.ps.map V.int).length < sizeLine := by rw [List.length_map]; exact Nat.lt_of_le_of_lt (by omega : _ ≤ 100000) (by decide)
      refine ⟨_, rfl, _, _, rfl, rfl, _, rfl, ?_⟩
      refine imp_of8 (P := ?P1) (G := fun Hx => Fx [wd, pa] H4 Hx ∧ WdA Hx wd pa pm x ms ⟨W.a, W.b, W.st + 1, W.lf - 1, W.an, W.ps ++ askP x ⟨0, W.a, W.b⟩ (.ask g0 d0 z0)⟩) ?f1 ?r1
      case f1 =>
        intro rr
        by_cases c : 0 ≤ pl
        · refine ite2 (fun _ => ?_) (fun zz => absurd (decide_eq_true c) zz)
          refine ⟨_, rfl, wd, _, rfl, dgetK (v := .ref pa) hw4.d rfl, .inl ⟨rfl, _, SqL.of hw4.p⟩, _, rfl, pa, _, _, rfl, rfl, hw4.p, hpb, ?_⟩
          have hG : Fx [wd, pa] H4 (upd H4 pa (.lst ((tstW W).ps.map V.int ++ [.int pl]))) ∧ WdA (upd H4 pa (.lst ((tstW W).ps.map V.int ++ [.int pl]))) wd pa pm x ms ⟨W.a, W.b, W.st + 1, W.lf - 1, W.an, W.ps ++ askP x ⟨0, W.a, W.b⟩ (.ask g0 d0 z0)⟩ := by
            have n1 : wd ≠ pa := fun zz => by have := hw4.d; rw [zz, hw4.p] at this; cases this
            refine ⟨Fx.upd (by simp), ⟨by rw [upd_ne n1]; exact hw4.d, ?_, by rw [upd_ne hw4.ne]; exact hw4.m, hw4.ne, hw.i16, by show 0 ≤ W.lf - 1; omega, ?_⟩⟩
            · rw [upd_same, hask, if_pos c, List.map_append]; rfl
            · show (((W.ps ++ askP x ⟨0, W.a, W.b⟩ (.ask g0 d0 z0)).length : Nat) : Int) + (W.lf - 1) ≤ 30000
              rw [hask, if_pos c, List.length_append]
              show ((W.ps.length + 1 : Nat) : Int) + (W.lf - 1) ≤ 30000
              omega
          generalize upd H4 pa (.lst ((tstW W).ps.map V.int ++ [.int pl])) = H5 at hG ⊢
          exact rr H5 hG
        · refine ite2 (fun zz => absurd (of_decide_eq_true zz) c) (fun _ => ?_)
          refine rr H4 ⟨fun q' o _ e => e, ?_⟩
          rw [hask, if_neg c, List.append_nil]
          exact hw4
      case r1 =>
      rintro H5 ⟨f5, hw5⟩
      have hsp5 : SqT K H5 p [.str "ask", .str g0, x1, .str z0] := Same.tup (tupH_same H5) (Same.tup (hw.keepT (f4.trans f5)).same hsp0)
      have hz0 : okV z0 := hi.2.2.2
      have last : ∀ nn : Int, 0 ≤ nn → nn ≤ 15 → nn = (if 0 ≤ pl ∧ memF ms pl = true then 1 else 0) → Q .non (upd H5 wd (.dK (putK (wdK ⟨W.a, W.b, W.st + 1, W.lf - 1, W.an, W.ps ++ askP x ⟨0, W.a, W.b⟩ (.ask g0 d0 z0)⟩ pa x pm) (Sum.inr z0 : Key) (.int nn)))) := by
        intro nn h0 h1 hnn
        have hput : putK (wdK ⟨W.a, W.b, W.st + 1, W.lf - 1, W.an, W.ps ++ askP x ⟨0, W.a, W.b⟩ (.ask g0 d0 z0)⟩ pa x pm) (Sum.inr z0 : Key) (.int nn) = wdK ⟨(vput z0 nn (W.a, W.b)).1, (vput z0 nn (W.a, W.b)).2, W.st + 1, W.lf - 1, W.an, W.ps ++ askP x ⟨0, W.a, W.b⟩ (.ask g0 d0 z0)⟩ pa x pm := by
          rcases hz0 with rfl | rfl
          · rfl
          · rfl
        rw [hput]
        have hw6 := hw5.put (W' := ⟨(vput z0 nn (W.a, W.b)).1, (vput z0 nn (W.a, W.b)).2, W.st + 1, W.lf - 1, W.an, W.ps ++ askP x ⟨0, W.a, W.b⟩ (.ask g0 d0 z0)⟩) rfl (vput16 hw.i16 h0 h1) (by show 0 ≤ W.lf - 1; omega) (by show W.lf - 1 ≤ W.lf - 1; omega)
        refine fin _ _ ((f4.trans f5).trans (Fx.upd (by simp))) hw6 ?_
        unfold plW
        rw [han, hnn, hpl]
        rfl
      have h01 : ∀ b : Bool, 0 ≤ (if b = true then (1 : Int) else 0) ∧ (if b = true then (1 : Int) else 0) ≤ 15 := fun b => by cases b <;> decide
      by_cases c : 0 ≤ pl
      · refine ⟨_, rfl, _, _, rfl, rfl, _, rfl, ite2 (fun _ => ?_) (fun zz => absurd (decide_eq_true c) zz)⟩
        refine ⟨_, rfl, _, rfl, wd, _, rfl, dgetK (v := .ref pm) hw5.d rfl, pm, _, rfl, .inl (SqL.of hw5.m), rfl, (by simp [List.all_map]; intro _ _; rfl), .inr ⟨_, rfl, _, rfl, _, rfl, p, _, _, _, rfl, rfl, hsp5, atI_nat (j := 3) rfl, wd, _, rfl, DPut.k (k := Sum.inr z0) hw5.d (len8 _ _ _ _), ?_⟩⟩
        refine last _ (h01 _).1 (h01 _).2 ?_
        rw [inV_dec, if_neg (show ¬ (false = true) by decide)]
        unfold memF
        by_cases cm : pl ∈ ms
        · rw [if_pos (decide_eq_true cm), if_pos ⟨c, decide_eq_true cm⟩]
        · rw [if_neg (by rw [decide_eq_false cm]; decide), if_neg (fun zz => cm (of_decide_eq_true zz.2))]
      · refine ⟨_, rfl, _, _, rfl, rfl, _, rfl, ite2 (fun zz => absurd (of_decide_eq_true zz) c) (fun _ => ?_)⟩
        refine .inr ⟨_, rfl, _, rfl, _, rfl, p, _, _, _, rfl, rfl, hsp5, atI_nat (j := 3) rfl, wd, _, rfl, DPut.k (k := Sum.inr z0) hw5.d (len8 _ _ _ _), ?_⟩
        refine last _ (h01 _).1 (h01 _).2 ?_
        rw [if_neg (by decide), if_neg (fun zz => c zz.1)]
  · -- a while
    obtain ⟨b, rfl⟩ := body_tuple hb
    obtain ⟨p, xs, rfl, hsp0, hap⟩ := dp_tup_inv hd
    obtain ⟨x0, x1, x2, rfl, hx0, hx1, hx2⟩ := dp_trip hap
    cases hx0
    have hsp := Same.tup (tupH_same H) hsp0
    have hlb : Lay (.tuple b) := lay_mem (lay_tup hly) _ (by simp)
    refine ⟨_, rfl, p, _, _, _, rfl, rfl, hsp, atI_nat (j := 0) rfl, ?_⟩
    refine ⟨_, rfl, rfl, _, rfl, strF (by decide +kernel) ⟨_, rfl, rfl, _, rfl, strT ?_⟩⟩
    dsimp only [List.set_cons_succ, List.set_cons_zero]
    refine seq_while ?_
    refine while_m (fun m σ Hx => ∃ (W1 : Wd), σ = [some (.ref p), some (.ref wd), some (.str "while"), none, none, none] ∧ Fx [wd, pa] H Hx ∧ WdA Hx wd pa pm x ms W1 ∧ m = W1.lf.toNat ∧ ∀ k W', WhR (DoB x (memF ms) n b) co k W1 W' → ∃ k', WhR (DoB x (memF ms) n b) co k' W W') (m0 := W.lf.toNat)
      ⟨W, rfl, fun q' o _ e => e, hw, rfl, fun k W' h => ⟨k, h⟩⟩ ?step ?mono
    case mono =>
      rintro σ H' Q1 Q2 h ⟨v1, e1, a1, o1, e2, g1, e3, k1, e4, r⟩
      refine ⟨v1, e1, a1, o1, e2, g1, e3, k1, e4, ?_⟩
      by_cases cc1 : k1 = true
      · dsimp only at r ⊢
        rw [if_pos cc1] at r ⊢
        obtain ⟨v2, e5, a2, o2, e6, g2, i2, j2, e7, e8, k2, e9, r⟩ := r
        refine ⟨v2, e5, a2, o2, e6, g2, i2, j2, e7, e8, k2, e9, ?_⟩
        by_cases cc2 : k2 = true
        · dsimp only at r ⊢
          rw [if_pos cc2] at r ⊢
          obtain ⟨v3, e10, p3, xs3, i3, y3, e11, e12, hs3, ha3, v4, e13, y, co', wd', pa', pm', x', ms', W', e14, h1, h2, h3', h4, r⟩ := r
          refine ⟨v3, e10, p3, xs3, i3, y3, e11, e12, hs3, ha3, v4, e13, y, co', wd', pa', pm', x', ms', W', e14, h1, h2, h3', h4, fun Hz fz hz => ?_⟩
          obtain ⟨b3, e15, r⟩ := r Hz fz hz
          exact ⟨b3, e15, h _ _ r⟩
        · dsimp only at r ⊢
          rw [if_neg cc2] at r ⊢
          exact h _ _ r
      · dsimp only at r ⊢
        rw [if_neg cc1] at r ⊢
        exact h _ _ r
    case step =>
      rintro m σ Hx ⟨W1, rfl, fx, hw1, hm, hk⟩
      have out : ∀ Hy W', Fx [wd, pa] H Hy → WdA Hy wd pa pm x ms W' → WhR (DoB x (memF ms) n b) co 0 W1 W' → Q .non Hy := fun Hy W' fy hy hR => by
        obtain ⟨k', hk'⟩ := hk 0 W' hR
        exact q Hy W' fy hy (.inr (.inr ⟨co, b, k', rfl, hk'⟩))
      have kx := hw.keepT fx
      have hspx : SqT K Hx p [.str "while", x1, x2] := Same.tup (tupH_same Hx) (Same.tup kx.same hsp0)
      refine ⟨_, rfl, wd, _, rfl, dgetK (v := ansV W1.an) hw1.d rfl, rfl, _, rfl, ?_⟩
      by_cases c1 : W1.an = none
      · refine ite2 (fun _ => ?_) (fun z => absurd (decide_eq_true (by rw [c1]; rfl)) z)
        refine ⟨_, rfl, wd, _, rfl, dgetK (v := .int W1.lf) hw1.d rfl, _, _, rfl, rfl, _, rfl, ?_⟩
        by_cases c2 : 0 < W1.lf
        · refine ite2 (fun _ => ?_) (fun z => absurd (decide_eq_true c2) z)
          refine ⟨_, rfl, p, _, _, _, rfl, rfl, hspx, atI_nat (j := 1) rfl, _, rfl, x1, co, wd, pa, pm, x, ms, W1, rfl, dp_mono kx.same _ _ hx1, hco, hw1, c2, fun Hy fy hw2 => ⟨_, rfl, ?_⟩⟩
          have fxy := fx.trans fy
          cases ec : cval W1.a W1.b co with
          | false => exact iteF (out Hy _ fxy hw2 (.inr ⟨⟨c1, c2⟩, ec, rfl⟩))
          | true =>
            refine iteT ?_
            have ky := hw.keepT fxy
            have hspy : SqT K Hy p [.str "while", x1, x2] := Same.tup (tupH_same Hy) (Same.tup ky.same hsp0)
            refine ⟨_, rfl, p, _, _, _, rfl, rfl, hspy, atI_nat (j := 2) rfl, _, rfl, x2, b, c', wd, pa, pm, x, ms, tstW W1, rfl, dp_mono ky.same _ _ hx2, hlb, by omega, hb, hw2, fun Hz W2 fz hw3 hB => ?_⟩
            have fxz := fxy.trans fz
            have hlf := DoB_lf n b _ _ hB
            have elf : (tstW W1).lf = W1.lf - 1 := rfl
            have hmlt : (onW W2).lf.toNat < m := by rw [onW_lf, hm]; have := hw3.l0; omega
            have hkk : ∀ k W', WhR (DoB x (memF ms) n b) co k (onW W2) W' → ∃ k', WhR (DoB x (memF ms) n b) co k' W W' := fun k W' hR => hk (k + 1) W' ⟨⟨c1, c2⟩, ec, W2, hB, hR⟩
            refine ⟨_, rfl, wd, _, rfl, dgetK (v := ansV W2.an) hw3.d rfl, rfl, _, rfl, ?_⟩
            by_cases c3 : W2.an = none
            · have eo : onW W2 = bmp W2 := by unfold onW; rw [if_pos c3]
              rw [eo] at hmlt hkk
              refine ite2 (fun _ => ?_) (fun z => absurd (decide_eq_true (by rw [c3]; rfl)) z)
              refine ⟨_, rfl, wd, _, rfl, dgetK (v := .int W2.st) hw3.d rfl, _, _, rfl, rfl, _, rfl, wd, _, rfl, DPut.k (k := Sum.inr "steps") hw3.d (len8 _ _ _ _), ?_⟩
              exact ⟨_, hmlt, bmp W2, rfl, fxz.trans (Fx.upd (by simp)), hw3.put (W' := bmp W2) rfl hw3.i16 hw3.l0 (Int.le_refl _), rfl, hkk⟩
            · have eo : onW W2 = W2 := by unfold onW; rw [if_neg c3]
              rw [eo] at hmlt hkk
              refine ite2 (fun z => absurd (of_decide_eq_true z) (fun z' => c3 ?_)) (fun _ => ?_)
              · cases e : W2.an with
                | none => rfl
                | some v => rw [e] at z'; cases z'
              · exact ⟨_, hmlt, W2, rfl, fxz, hw3, rfl, hkk⟩
        · refine ite2 (fun z => absurd (of_decide_eq_true z) c2) (fun _ => ?_)
          exact out Hx W1 fx hw1 (.inl ⟨fun z => c2 z.2, rfl⟩)
      · refine ite2 (fun z => absurd (of_decide_eq_true z) (fun z' => c1 ?_)) (fun _ => ?_)
        · cases e : W1.an with
          | none => rfl
          | some v => rw [e] at z'; cases z'
        · exact out Hx W1 fx hw1 (.inl ⟨fun z => c1 z.1, rfl⟩)
  · -- an if
    obtain ⟨b1, rfl⟩ := body_tuple hb1
    obtain ⟨b2, rfl⟩ := body_tuple hb2
    obtain ⟨p, xs, rfl, hsp0, hap⟩ := dp_tup_inv hd
    obtain ⟨x0, x1, x2, x3, rfl, hx0, hx1, hx2, hx3⟩ := dp_four hap
    cases hx0
    have hsp := Same.tup (tupH_same H) hsp0
    have hlb1 : Lay (.tuple b1) := lay_mem (lay_tup hly) _ (by simp)
    have hlb2 : Lay (.tuple b2) := lay_mem (lay_tup hly) _ (by simp)
    refine ⟨_, rfl, p, _, _, _, rfl, rfl, hsp, atI_nat (j := 0) rfl, ?_⟩
    refine ⟨_, rfl, rfl, _, rfl, strT ?_⟩
    dsimp only [List.set_cons_succ, List.set_cons_zero]
    refine ⟨_, rfl, p, _, _, _, rfl, rfl, hsp, atI_nat (j := 1) rfl, _, rfl, x1, co, wd, pa, pm, x, ms, W, rfl, hx1, hco, hw, hal.2, fun H1 f1 hw1 => ⟨_, rfl, ?_⟩⟩
    have k1 := hw.keepT f1
    have hsp1 : SqT K H1 p [.str "if", x1, x2, x3] := Same.tup (tupH_same H1) (Same.tup k1.same hsp0)
    cases ec : cval W.a W.b co with
    | true =>
      refine iteT ?_
      refine ⟨_, rfl, p, _, _, _, rfl, rfl, hsp1, atI_nat (j := 2) rfl, _, rfl, x2, b1, c1, wd, pa, pm, x, ms, tstW W, rfl, dp_mono k1.same _ _ hx2, hlb1, by omega, hb1, hw1, fun H2 W2 f2 hw2 hB => ?_⟩
      have f12 := f1.trans f2
      have k2 := hw.keepT f12
      have hsp2 : SqT K H2 p [.str "if", x1, x2, x3] := Same.tup (tupH_same H2) (Same.tup k2.same hsp0)
      have endd : ∀ Hy W', Fx [wd, pa] H Hy → WdA Hy wd pa pm x ms W' → W' = (if b2 = [] then W2 else onW W2) → Q .non Hy := fun Hy W' fy hy e => q Hy W' fy hy (.inr (.inl ⟨co, b1, b2, W2, rfl, .inl ⟨ec, hB, e⟩⟩))
      refine ⟨_, rfl, wd, _, rfl, dgetK (v := ansV W2.an) hw2.d rfl, rfl, _, rfl, ?_⟩
      by_cases c3 : W2.an = none
      · refine ite2 (fun _ => ?_) (fun z => absurd (decide_eq_true (by rw [c3]; rfl)) z)
        refine ⟨_, rfl, p, _, _, _, rfl, rfl, hsp2, atI_nat (j := 3) rfl, (by show 0 ≤ sizeLine; decide), fun e0 ne0 => ?_⟩
        have u3 := same_new ne0 (.tup [])
        have ee : (upd H2 e0 (.tup [])) e0 = some (.tup []) := upd_same
        generalize upd H2 e0 (.tup []) = H3 at u3 ee ⊢
        have hw3 := hw2.same u3
        have f13 := f12.trans (Fx.of u3)
        have sh2 : SeqAt.shaped (.tuple b2) = true := by
          show ((PyData.tuple b2).canLay0 && decide ((PyData.tuple b2).depth ≤ 64)) = true
          rw [Bool.and_eq_true]
          exact ⟨hlb2, decide_eq_true (by have := body_depth hb2; omega)⟩
        refine ⟨.tuple b2, .tuple [], dp_mono (tupH_same H3) _ _ (dp_mono (hw.keepT f13).same _ _ hx3), .tup (SqT.of ee) .nil, sh2, by decide +kernel, _, rfl, ?_⟩
        rw [eqv_nil]
        by_cases c4 : b2 = []
        · subst c4
          refine ite2 (fun z => absurd z (by decide)) (fun _ => ?_)
          exact endd H3 W2 f13 hw3 (by rw [if_pos rfl])
        · have hnil : isNil (.tuple b2) = false := by
            cases b2 with
            | nil => exact absurd rfl c4
            | cons _ _ => rfl
          rw [hnil]
          refine ite2 (fun _ => ?_) (fun z => absurd rfl z)
          refine ⟨_, rfl, wd, _, rfl, dgetK (v := .int W2.st) hw3.d rfl, _, _, rfl, rfl, _, rfl, wd, _, rfl, DPut.k (k := Sum.inr "steps") hw3.d (len8 _ _ _ _), ?_⟩
          refine endd _ (bmp W2) (f13.trans (Fx.upd (by simp))) (hw3.put (W' := bmp W2) rfl hw3.i16 hw3.l0 (Int.le_refl _)) ?_
          rw [if_neg c4]
          unfold onW
          rw [if_pos c3]
      · refine ite2 (fun z => absurd (of_decide_eq_true z) (fun z' => c3 ?_)) (fun _ => iteF ?_)
        · cases e : W2.an with
          | none => rfl
          | some v => rw [e] at z'; cases z'
        · refine endd H2 W2 f12 hw2 ?_
          unfold onW
          rw [if_neg c3]
          split <;> rfl
    | false =>
      refine iteF ?_
      refine ⟨_, rfl, p, _, _, _, rfl, rfl, hsp1, atI_nat (j := 3) rfl, _, rfl, x3, b2, c2, wd, pa, pm, x, ms, tstW W, rfl, dp_mono k1.same _ _ hx3, hlb2, by omega, hb2, hw1, fun H2 W2 f2 hw2 hB => ?_⟩
      exact q _ W2 (f1.trans f2) hw2 (.inr (.inl ⟨co, b1, b2, W2, rfl, .inr ⟨ec, hB, rfl⟩⟩))
end
abbrev sNear : Stmt := top 64
def spNear (K : PySem.W.Frag) : Sp := fun vs H Q _ => ∃ (b : Addr) (x : Int), vs = [.ref b, .int x] ∧ Bag H b ∧ ∀ H' p (ms : List Int), Fr b H H' → Bag H' b → H p = none → p ≠ b → H' p = some (.lst (ms.map V.int)) → ms.length ≤ 1000 → Q (.ref p) H'
theorem at2' {x y : V} {r : Int} (h0 : 0 ≤ r) (h1 : r < 2) : ∃ v, atI [x, y] r = some v ∧ (v = x ∨ v = y) := by
  have : r = 0 ∨ r = 1 := by omega
  rcases this with rfl | rfl
  · exact ⟨x, rfl, .inl rfl⟩
  · exact ⟨y, rfl, .inr rfl⟩
/-! ### dict([(p, True) for p in ..]) -/
def kbT (ks : List Int) : List (Key × V) := ks.map fun z => (Sum.inl z, .bl true)
theorem kbT_val (z : Int) : ∀ ks : List Int, (valV (kbT ks) (Sum.inl z : Key)).isSome = decide (z ∈ ks)
  | [] => rfl
  | e :: r => by
    show (valV ((Sum.inl e, V.bl true) :: kbT r) (Sum.inl z : Key)).isSome = _
    by_cases c : e = z
    · rw [c, valV_pos rfl]; simp
    · rw [valV_neg (fun h => c (by injection h)), kbT_val z r]
      have : ¬ z = e := fun q => c q.symm
      simp [this]
theorem kbT_put (ks : List Int) (z : Int) : putK (kbT ks) (Sum.inl z : Key) (V.bl true) = kbT (putQ z ks) := by
  unfold putQ
  by_cases c : z ∈ ks
  · rw [if_pos c]
    unfold putK
    have ha : ((kbT ks).any fun kv => decide (kv.1 = (Sum.inl z : Key))) = true := by
      rw [List.any_eq_true]
      exact ⟨(Sum.inl z, .bl true), List.mem_map.mpr ⟨z, c, rfl⟩, decide_eq_true rfl⟩
    rw [if_pos ha]
    unfold kbT
    rw [List.map_map]
    refine List.map_congr_left fun x _ => ?_
    show (if (Sum.inl x : Key) = Sum.inl z then ((Sum.inl x : Key), V.bl true) else (Sum.inl x, V.bl true)) = _
    split <;> rfl
  · rw [if_neg c]
    have hn : valV (kbT ks) (Sum.inl z : Key) = none := by
      have := kbT_val z ks
      rw [decide_eq_false c] at this
      cases e : valV (kbT ks) (Sum.inl z : Key) with
      | none => rfl
      | some v => rw [e] at this; cases this
    rw [putK_new _ hn]
    unfold kbT
    rw [List.map_append]
    rfl
theorem merge_psQ (bs : List Int) : mergeK [] (kbT bs) = kbT (psQ bs) := by
  have h : ∀ (bs acc : List Int), mergeK (kbT acc) (kbT bs) = kbT (bs.foldl (fun acc p => putQ p acc) acc) := by
    intro bs
    induction bs with
    | nil => intro acc; rfl
    | cons b t ih =>
      intro acc
      show mergeK (putK (kbT acc) (Sum.inl b : Key) (V.bl true)) (kbT t) = kbT (t.foldl (fun acc p => putQ p acc) (putQ b acc))
      rw [kbT_put]
      exact ih (putQ b acc)
  exact h bs []
inductive TrueAt (H : Hp) : List Addr → List Int → Prop
  | nil : TrueAt H [] []
  | cons {t : Addr} {z : Int} {ps : List Addr} {zs : List Int} : H t = some (.tup [.int z, .bl true]) → TrueAt H ps zs → TrueAt H (t :: ps) (z :: zs)
theorem TrueAt.len {H : Hp} : ∀ {ps : List Addr} {zs : List Int}, TrueAt H ps zs → ps.length = zs.length
  | _, _, .nil => rfl
  | _, _, .cons _ h => by rw [List.length_cons, List.length_cons, h.len]
theorem TrueAt.keep {H H' : Hp} (k : KeepT H H') : ∀ {ps : List Addr} {zs : List Int}, TrueAt H ps zs → TrueAt H' ps zs
  | _, _, .nil => .nil
  | _, _, .cons e h => .cons (k.1 _ _ e) (h.keep k)
theorem TrueAt.snoc {H : Hp} {t : Addr} {z : Int} (e : H t = some (.tup [.int z, .bl true])) : ∀ {ps : List Addr} {zs : List Int}, TrueAt H ps zs → TrueAt H (ps ++ [t]) (zs ++ [z])
  | _, _, .nil => .cons e .nil
  | _, _, .cons e' h => .cons e' (h.snoc e)
theorem TrueAt.pr {K : PySem.W.Frag} {H : Hp} : ∀ {ps : List Addr} {zs : List Int}, TrueAt H ps zs → Paired (fun p (kv : Key × V) => SqT K H p [kV kv.1, kv.2]) ps (kbT zs)
  | _, _, .nil => .nil
  | _, _, .cons e h => .cons (SqT.of e) h.pr
theorem kbT_keys (ks : List Int) : (kbT ks).map (fun kv => kV kv.1) = ks.map V.int := by
  unfold kbT
  rw [List.map_map]
  rfl
theorem psQ_len (ps : List Int) : (psQ ps).length ≤ ps.length := by
  have h : ∀ (ps acc : List Int), (ps.foldl (fun acc p => putQ p acc) acc).length ≤ acc.length + ps.length := by
    intro ps
    induction ps with
    | nil => intro acc; exact Nat.le_refl _
    | cons p t ih =>
      intro acc
      have h1 := ih (putQ p acc)
      have h2 : (putQ p acc).length ≤ acc.length + 1 := by
        unfold putQ
        split
        · omega
        · rw [List.length_append]; exact Nat.le_refl _
      rw [List.length_cons]
      show (t.foldl (fun acc p => putQ p acc) (putQ p acc)).length ≤ _
      omega
  have := h ps []
  rw [List.length_nil, Nat.zero_add] at this
  exact this
/-! ### data without lists stand in the tuples alone -/
theorem tupH_tup {H : Hp} {a : Addr} {xs : List V} (h : H a = some (.tup xs)) : tupH H a = some (.tup xs) := by unfold tupH; rw [h]
theorem tupH_frz {H : Hp} {a : Addr} {o u} (h : H a = some (.frz o u)) : tupH H a = some (.frz o u) := by unfold tupH; rw [h]
section
variable {P : Program} {w : World} {K : PySem.W.Frag} {mg : Str → Option Value} {base : Heap}
theorem do_all {f g : Addr} {fd gd : FuncData} (F : Fun K "_law_do" "_law_do" sDo f fd) (bF : Binds K fd ["_law_body_here", "_law_world"] []) (mF : mg "_law_do" = some (.ref f)) (O : Fun K "_law_do_one" "_law_do_one" sDO g gd) (bO : Binds K gd ["_law_statement_here", "_law_world"] []) (mO : mg "_law_do_one" = some (.ref g)) (T : Gs K mg)
    (CTe : Cal P w K mg base 3 "_law_test" ["_law_condition_here", "_law_world"] (spTe K))
    (CPl : Cal P w K mg base 2 "_law_place" ["_law_step", "_law_state", "_law_position"] (spPlc K)) (CNx : Cal P w K mg base 2 "_law_next" ["_law_step", "_law_state", "_law_answer"] (spNx K)) :
    ∀ n : Nat, n ≤ 4 → FnOk P w K mg base CX0 (4 + 2 * n) f fd ["_law_body_here", "_law_world"] (spDo K n)
  | 0, _ => (ok_Do0 F).mono (by decide)
  | n + 1, h => by
    have ih := do_all F bF mF O bO mO T CTe CPl CNx n (by omega)
    have o1 := ok_On (lv := 4 + 2 * n) (n := n) (by omega) (by omega) O T CTe ⟨f, fd, ih, bF, F.kp, mF⟩ CPl CNx
    exact ok_DoS (lv := 4 + 2 * n + 1) (n := n) (by omega) F ⟨g, gd, o1, bO, O.kp, mO⟩
theorem scNear : FnScope ["_law_bag_here", "_law_position", "_law_found", "_law_turn"] ["_law_bag_here", "_law_position"] (defScope sNear) := ⟨rfl, rfl, rfl, by decide +kernel, rfl, by decide +kernel, by decide +kernel⟩
theorem ok_near {f : Addr} {fd : FuncData} (F : Fun K "_law_near" "_law_near" sNear f fd) (T2 : G2 mg) (CD : Cal P w K mg base 1 "_law_draw" ["_law_bag_here", "_law_many"] spDraw) : FnOk P w K mg base CX0 2 f fd ["_law_bag_here", "_law_position"] (spNear K) := by
  refine F.ok scNear (fun vs H Q E h => ?_) (fun cdv A outer s H vs Q E hr h => ?_)
  · obtain ⟨b, x, rfl, _⟩ := h
    rfl
  obtain ⟨b, x, rfl, hb, q⟩ := h
  refine ⟨_, (pss_cons (ps_set (i := 2) scNear.nd rfl (.inl rfl) (pe_lst pa_nil))
    (pss_cons (ps_for PassesOwn.never rfl (pi_range1 (by rfl) T2.range (pa_cons (pe_call CD.G hr rfl CD.m CD.kp CD.b .nil pass0 (pa_cons (pv 0) (pa_cons pe_int pa_nil))) pa_nil)) (pg_name (i := 3) scNear.nd rfl (.inl rfl))
      (pss_one (ps_expr (pe_bm PySem.F.plainAttrs_list PySem.F.slot_list_append PySem.F.type_list_append mt_append (pv 2) (pa_cons (pe_ix ix_list (pe_lst (pa_cons (pe_call CD.G hr rfl CD.m CD.kp CD.b .nil pass0 (pa_cons (pv 0) (pa_cons pe_int pa_nil))) (pa_cons (pe_callB (call_max2 rfl) (by rfl) T2.max (by decide +kernel) (pa_cons pe_int (pa_cons (pe_op op_add (pe_op op_sub (pv 1) pe_int) (pe_call CD.G hr rfl CD.m CD.kp CD.b .nil pass0 (pa_cons (pv 0) (pa_cons pe_int pa_nil)))) pa_nil))) pa_nil))) (pe_call CD.G hr rfl CD.m CD.kp CD.b .nil pass0 (pa_cons (pv 0) (pa_cons pe_int pa_nil))) (fun _ _ => rfl)) pa_nil)))))
    (pss_one (ps_ret (pv 2))))), ?_⟩
  refine ⟨(by show 0 ≤ sizeLine; decide), fun l nl => ?_⟩
  have nlb : l ≠ b := (hb.ne nl).symm
  have g1 : Fr b H (upd H l (.lst [])) := fr_upd (Fr.refl _ _) nl _
  have b1 := hb.keep (same_new nl (.lst []))
  have e1 : (upd H l (.lst [])) l = some (.lst (([] : List Int).map V.int)) := upd_same
  generalize upd H l (.lst []) = H1 at g1 b1 e1 ⊢
  refine ⟨_, rfl, b, 20, rfl, b1, by decide, by decide, fun H2 r2 f2 b2 r20 r21 => ⟨r2, rfl, by omega, by omega, ?_⟩⟩
  refine for_range (lo := 0) (n := r2.toNat) (fun i σ H' => ∃ (s3 : Option V) (ms : List Int), σ = [some (.ref b), some (.int x), some (.ref l), s3] ∧ Fr b H H' ∧ Bag H' b ∧ H' l = some (.lst (ms.map V.int)) ∧ ms.length = i) ⟨none, [], rfl, g1.trans f2, b2, f2 _ _ nlb e1, rfl⟩ ?turn ?fin
  case fin =>
    rintro σ H3 ⟨s3, ms, rfl, g3, b3, e3, hml⟩
    exact ⟨_, rfl, q _ l ms g3 b3 nl nlb e3 (by omega)⟩
  rintro i σ H3 hi ⟨s3, ms, rfl, g3, b3, e3, hml⟩
  dsimp only [List.set_cons_succ, List.set_cons_zero]
  refine ⟨_, rfl, .inl ⟨rfl, _, SqL.of e3⟩, _, rfl, b, 16, rfl, b3, by decide, by decide, fun H4 ra f4 b4 _ _ => ?_⟩
  refine ⟨_, rfl, _, _, rfl, rfl, _, rfl, b, 31, rfl, b4, by decide, by decide, fun H5 rb f5 b5 _ _ => ⟨_, _, rfl, rfl, _, _, rfl, ?_⟩⟩
  generalize (if x - 15 + rb > 0 then x - 15 + rb else 0) = y
  refine ⟨(by show 2 ≤ sizeLine; decide), fun p np => ?_⟩
  have npb : p ≠ b := (b5.ne np).symm
  have e5 := f5 _ _ nlb (f4 _ _ nlb e3)
  have nlp : l ≠ p := ne_of_none e5 np
  have b7 := b5.keep (same_new np (.lst [.int ra, .int y]))
  have g7 : Fr b H (upd H5 p (.lst [.int ra, .int y])) := (g3.trans (f4.trans f5)).trans (Fr.of (same_new np _))
  have e7 := same_new np (.lst [.int ra, .int y]) _ _ e5
  have p7 : (upd H5 p (.lst [.int ra, .int y])) p = some (.lst [.int ra, .int y]) := upd_same
  generalize upd H5 p (.lst [.int ra, .int y]) = H7 at b7 g7 e7 p7 ⊢
  refine ⟨_, rfl, b, 2, rfl, b7, by decide, by decide, fun H8 r8 f8 b8 r80 r81 => ?_⟩
  obtain ⟨v, hv, hc⟩ := at2' (x := V.int ra) (y := V.int y) (r := r8) (by omega) (by omega)
  obtain ⟨z, rfl⟩ : ∃ z, v = .int z := by rcases hc with rfl | rfl <;> exact ⟨_, rfl⟩
  have e8 := f8 _ _ nlb e7
  refine ⟨p, _, _, _, rfl, rfl, SqL.of (f8 _ _ npb p7), hv, ?_⟩
  have nHl : H l = none := nl
  refine ⟨l, _, _, rfl, rfl, e8, ?_, _, ms ++ [z], rfl, fr_upd (g7.trans f8) nHl _, b8.upd nlb, by rw [upd_same, List.map_append]; rfl, by rw [List.length_append, hml]; rfl⟩
  rw [List.length_map]; exact Nat.lt_of_le_of_lt (by omega : _ ≤ 1000) (by decide)
end
theorem imp_of9 {P G : Addr → Hp → Prop} {Q : Prop} (f : (∀ v H, G v H → P v H) → Q) (p : ∀ v H, G v H → P v H) : Q := f p
theorem pow50 : (0 : Int) < (10 : Int) ^ (50 : Int).toNat := by decide +kernel
theorem sqT_dt {K : PySem.W.Frag} {H : Hp} {a : Addr} {xs : List V} (h : SqT K H a xs) : SqT K (tupH H) a xs := by
  rcases h with (h | ⟨o, h⟩) | h
  · exact .inl (.inl (tupH_tup h))
  · exact .inl (.inr ⟨o, tupH_frz h⟩)
  · exact .inr h
mutual
theorem dt_of {K : PySem.W.Frag} {H : Hp} : ∀ (d : PyData) (v : V), noL d = true → Dp K H v d → Dt K H v d
  | .none, _, _, h => by cases h; exact .non
  | .bool b, _, _, h => by cases h; exact .bl b
  | .int i, _, _, h => by cases h; exact .int i
  | .str x, _, _, h => by cases h; exact .str x
  | .list ds, _, n, h => by simp [noL] at n
  | .tuple ds, _, n, h => by
    cases h with
    | tup hs ha => exact .tup (sqT_dt hs) (dtAll_of ds _ (by simpa [noL] using n) ha)
  | .dict _, _, _, h => by cases h
theorem dtAll_of {K : PySem.W.Frag} {H : Hp} : ∀ (ds : List PyData) (vs : List V), noLAll ds = true → DpAll K H vs ds → DpAll K (tupH H) vs ds
  | [], _, _, h => by cases h; exact .nil
  | d :: ds, _, n, h => by
    simp only [noLAll, Bool.and_eq_true] at n
    cases h with
    | cons hd ht => exact .cons (dt_of d _ n.1 hd) (dtAll_of ds _ n.2 ht)
end
def wd6 (lf : Int) (pa : Addr) : List (Key × V) := [(Sum.inr "a", .int 0), (Sum.inr "b", .int 0), (Sum.inr "steps", .int 0), (Sum.inr "left", .int lf), (Sum.inr "answer", .non), (Sum.inr "asked", .ref pa)]
def wd7 (lf : Int) (pa : Addr) (x : Int) : List (Key × V) := [(Sum.inr "a", .int 0), (Sum.inr "b", .int 0), (Sum.inr "steps", .int 0), (Sum.inr "left", .int lf), (Sum.inr "answer", .non), (Sum.inr "asked", .ref pa), (Sum.inr "position", .int x)]
abbrev nsLaw : List Str := ["_law_script", "_law_k", "_law_bag_here", "_law_program_here", "_law_position", "_law_members", "_law_world", "_law_told_here", "_law_asked", "_law_due", "_law_place_here"]
section
variable {P : Program} {w : World} {K : PySem.W.Frag} {mg : Str → Option Value} {base : Heap}
theorem scLaw : FnScope nsLaw ["_law_script"] (defScope sLaw) := ⟨rfl, rfl, rfl, by decide +kernel, rfl, by decide +kernel, by decide +kernel⟩
theorem ok_law {f fR CR : Addr} {fd dR : FuncData} (F : Fun K "law" "law" sLaw f fd) (T : Gs K mg) (T2 : G2 mg) (ml : mg "list" = none) (md : mg "dict" = none) (msorted : mg "sorted" = none) (N : RNo K CR)
    (CB : Cal P w K mg base 1 "_law_bag" ["_law_script", "_law_k"] (spBag K)) (CD : Cal P w K mg base 1 "_law_draw" ["_law_bag_here", "_law_many"] spDraw) (CLg : Cal P w K mg base 2 "_law_large" ["_law_bag_here", "_law_many"] spLarge)
    (CG : Cal P w K mg base 14 "_law_program" ["_law_bag_here", "_law_kind", "_law_most"] (spProgM K)) (CN : Cal P w K mg base 2 "_law_near" ["_law_bag_here", "_law_position"] (spNear K)) (CLC : Cal P w K mg base 6 "_law_code" ["_law_body_here", "_law_code_here"] (spLC K 4)) (CDo : Cal P w K mg base 12 "_law_do" ["_law_body_here", "_law_world"] (spDo K 4)) (CT : Cal P w K mg base 2 "_law_told" ["_law_found"] (spTold K CR))
    (GR : FnOk P w K mg base CX0 16 fR dR psRun (spRun K CR)) (kR : PySem.W.keepIn K (.ref fR) = true) (mR : mg "run" = some (.ref fR)) (bD : ∃ ds, Vals [V.non] ds ∧ Binds K dR psRun ds) :
    FnOk P w K mg base CX0 17 f fd ["_law_script"] (spLaw K) := by
  refine F.ok scLaw (fun vs H Q E h => ?_) (fun cdv A outer s H vs Q E hr h => ?_)
  · obtain ⟨a, ns, rfl, _⟩ := h
    rfl
  obtain ⟨a, ns, rfl, hS, h63, q⟩ := h
  have hr1 : Room 1 _ := hr.mono (by decide)
  have hr2 : Room 2 _ := hr.mono (by decide)
  have hr6 : Room 6 _ := hr.mono (by decide)
  have hr12 : Room 12 _ := hr.mono (by decide)
  have hr14 : Room 14 _ := hr.mono (by decide)
  have hu := hu_of hr
  obtain ⟨dsR, vD, bD⟩ := bD
  refine ⟨_, pss_cons (ps_for PassesOwn.never rfl (pi_range1 (by rfl) T2.range (pa_cons (pe_callB (call_max2 rfl) (by rfl) T2.max (by decide +kernel) (pa_cons pe_int (pa_cons (pe_callB (call_min2 rfl) (by rfl) T2.min (by decide +kernel) (pa_cons pe_int (pa_cons (pe_callB call_len_seq (by rfl) T.len PySem.boot_len (pa_cons (pv 0) pa_nil)) pa_nil))) pa_nil))) pa_nil)) (pg_name (i := 1) scLaw.nd rfl (.inl rfl))
      (pss_cons (ps_set (i := 2) scLaw.nd rfl (.inl rfl) (pe_call CB.G hr1 rfl CB.m CB.kp CB.b .nil pass0 (pa_cons (pv 0) (pa_cons (pv 1) pa_nil))))
      (pss_cons (ps_set (i := 3) scLaw.nd rfl (.inl rfl) (pe_call CG.G hr14 rfl CG.m CG.kp CG.b .nil pass0 (pa_cons (pv 2) (pa_cons pe_str (pa_cons pe_int pa_nil)))))
      (pss_cons (ps_set (i := 4) scLaw.nd rfl (.inl rfl) (pe_ix ix_list (pe_lst (pa_cons (pe_call CD.G hr1 rfl CD.m CD.kp CD.b .nil pass0 (pa_cons (pv 2) (pa_cons pe_int pa_nil))) (pa_cons (pe_call CLg.G hr2 rfl CLg.m CLg.kp CLg.b .nil pass0 (pa_cons (pv 2) (pa_cons (pe_op op_pow pe_int pe_int) pa_nil))) pa_nil))) (pe_op op_fdiv (pe_call CD.G hr1 rfl CD.m CD.kp CD.b .nil pass0 (pa_cons (pv 2) (pa_cons pe_int pa_nil))) pe_int) (fun _ _ => rfl)))
      (pss_cons (ps_set (i := 5) scLaw.nd rfl (.inl rfl) (pe_call CN.G hr2 rfl CN.m CN.kp CN.b .nil pass0 (pa_cons (pv 2) (pa_cons (pv 4) pa_nil))))
      (pss_cons (ps_set (i := 6) scLaw.nd rfl (.inl rfl) (pe_disp (pps_cons pe_str pe_int (pps_cons pe_str pe_int (pps_cons pe_str pe_int (pps_cons pe_str pe_int (pps_cons pe_str pe_non (pps_cons pe_str (pe_lst pa_nil) pps_nil)))))) rfl rfl (by intro z; cases z) (by decide)))
      (pss_cons (ps_dput hu (pv 6) pe_str (pe_op op_add (pe_op op_mul pe_int (pe_callB call_len_seq (by rfl) T.len PySem.boot_len (pa_cons (pe_call CLC.G hr6 rfl CLC.m CLC.kp CLC.b .nil pass0 (pa_cons (pe_ix ix_tup (pv 3) pe_int (fun _ _ => rfl)) (pa_cons (pe_lst pa_nil) pa_nil))) pa_nil))) pe_int) rfl)
      (pss_cons (ps_dput hu (pv 6) pe_str (pv 4) rfl)
      (pss_cons (ps_dput hu (pv 6) pe_str (pv 5) rfl)
      (pss_cons (ps_expr (pe_call CDo.G hr12 rfl CDo.m CDo.kp CDo.b .nil pass0 (pa_cons (pe_ix ix_tup (pv 3) pe_int (fun _ _ => rfl)) (pa_cons (pv 6) pa_nil))))
      (pss_cons (ps_set (i := 7) scLaw.nd rfl (.inl rfl) (pe_call CT.G hr2 rfl CT.m CT.kp CT.b .nil pass0 (pa_cons (pe_call GR hr rfl mR kR bD vD pass0 (pa_cons (pv 3) (pa_cons (pv 4) (pa_cons (pe_callTy call_list_of (by rfl) ml (by decide +kernel) (pa_cons (pv 5) pa_nil)) pa_nil)))) pa_nil)))
      (pss_cons (ps_set (i := 8) scLaw.nd rfl (.inl rfl) (pe_callB cr_sortedI (by rfl) msorted (by decide +kernel) (pa_cons (pe_callTy (call_listD rfl) (by rfl) ml (by decide +kernel) (pa_cons (pe_callTy (call_dictP rfl) (by rfl) md (by decide +kernel) (pa_cons (pe_lc (own := [("_law_place_here", 10)]) (g := gName 10) (tt := tYes) rfl scLaw.nd (pi_list (pe_dget hu (pv 6) pe_str (fun _ _ => rfl))) (blkOk_by (N := nsLaw) (sc := defScope sLaw) (by decide +kernel)) (fun _ _ _ _ _ => pg_name (i := 10) scLaw.nd rfl (.inl rfl)) (fun _ _ _ _ _ => pts_nil) (fun _ _ _ _ _ => pe_tup (pa_cons (pv 10) (pa_cons pe_bl pa_nil)))) pa_nil)) pa_nil)) pa_nil)))
      (pss_cons (ps_set (i := 9) scLaw.nd rfl (.inl rfl) (pe_tup (pa_cons pe_str (pa_cons pe_non (pa_cons (pe_dget hu (pv 6) pe_str (fun _ _ => rfl)) (pa_cons pe_non (pa_cons pe_non (pa_cons (pv 8) pa_nil))))))))
      (pss_cons (ps_if (pt_cmpR op_notN (pe_dget hu (pv 6) pe_str (fun _ _ => rfl)) pe_non (nomark _))
        (pss_one (ps_set (i := 9) scLaw.nd rfl (.inl rfl) (pe_tup (pa_cons pe_str (pa_cons (pe_dget hu (pv 6) pe_str (fun _ _ => rfl)) (pa_cons (pe_dget hu (pv 6) pe_str (fun _ _ => rfl)) (pa_cons pe_non (pa_cons pe_non (pa_cons (pv 8) pa_nil)))))))))
        pss_nil)
      (pss_one (ps_if (pt_cmpR op_le (pe_dget hu (pv 6) pe_str (fun _ _ => rfl)) pe_int (nomark _))
        (pss_one (ps_if (PW.pt (pw_or (pt_cmpR op_isN (pv 7) pe_non (nomark _)) (pw_or (pt_cmpR (op_neD hr.units) (pe_slice sl_tup (pv 7) po_none (po_some pe_int)) (pe_tup (pa_cons pe_str (pa_cons pe_non (pa_cons pe_non pa_nil)))) (nomark _)) (pw_or1 (pt_cmpR (op_neD hr.units) (pe_ix ix_tup (pv 7) pe_int (fun _ _ => rfl)) (pv 8) (nomark _))))))
          (pss_one (ps_ret pe_bl))
          pss_nil))
        (pss_one (ps_if (pt_cmpR (op_neD hr.units) (pv 7) (pv 9) (nomark _))
          (pss_one (ps_ret pe_bl))
          pss_nil))))))))))))))))))
    (pss_one (ps_ret pe_bl)), ?_⟩
  refine ⟨_, rfl, a, _, rfl, .inl hS, _, _, rfl, _, _, rfl, _, rfl, ?_, ?_, ?_⟩
  · split <;> split <;> omega
  · split <;> split <;> omega
  rw [show (ns.map V.int).length = ns.length from List.length_map _]
  have h12 : (if (if ((ns.length : Nat) : Int) < 5 then ((ns.length : Nat) : Int) else 5) > 2 then (if ((ns.length : Nat) : Int) < 5 then ((ns.length : Nat) : Int) else 5) else 2).toNat ≤ 12 := by
    split <;> split <;> omega
  generalize (if (if ((ns.length : Nat) : Int) < 5 then ((ns.length : Nat) : Int) else 5) > 2 then (if ((ns.length : Nat) : Int) < 5 then ((ns.length : Nat) : Int) else 5) else 2).toNat = turns at h12 ⊢
  refine for_range (lo := 0) (n := turns) (fun i σ H' => ∃ (s1 s2 s3 s4 s5 s6 s7 s8 s9 : Option V), σ = [some (.ref a), s1, s2, s3, s4, s5, s6, s7, s8, s9, none] ∧ Same H H') ⟨none, none, none, none, none, none, none, none, none, rfl, Same.refl H⟩ ?turn ?fin
  case fin =>
    rintro σ H1 ⟨s1, s2, s3, s4, s5, s6, s7, s8, s9, rfl, sH1⟩
    exact q _
  rintro i σ H1 hi ⟨s1, s2, s3, s4, s5, s6, s7, s8, s9, rfl, sH1⟩
  dsimp only [List.set_cons_succ, List.set_cons_zero]
  refine ⟨_, rfl, _, rfl, a, ns, i, (by rw [Int.zero_add]; rfl), sH1.seq hS, h63, by omega, fun H2 b sH2 nb bag2 => ?_⟩
  have nHb : H b = none := sH1.free nb
  have sHb : Same H H2 := sH1.trans sH2
  have out : ∀ {X Y : Hp}, Same H X → Fr b X Y → Same H Y := fun sx f x o hx => f x o (fun e => by rw [e, nHb] at hx; cases hx) (sx x o hx)
  dsimp only [List.set_cons_succ, List.set_cons_zero]
  refine ⟨_, rfl, b, "teller", 24, rfl, by decide, by decide, bag2, .inl rfl, fun H4 t v d f4 bag4 et ntb hd hp hl nd => ?_⟩
  have sH4 := out sHb f4
  have hP4 : Da K b H4 (.ref t) (.tuple [.str "teller", d]) := da_tup ntb et (.cons (.str _) (.cons hd .nil))
  obtain ⟨c, hbc, hc⟩ := prog_bodyT hp
  obtain ⟨code, hcode, hok, htg'⟩ := code_tgt 0 hbc
  obtain ⟨_, hcl⟩ := body_code_ok 0 hl hbc
  have hcl0 := hcl
  rw [hcode, List.length_map] at hcl
  have hcl' : code.length ≤ 100 := by omega
  have hlay : Lay (.tuple [.str "teller", d]) := lay2 (lay_str (by decide +kernel)) hl
  dsimp only [List.set_cons_succ, List.set_cons_zero]
  -- the position
  refine ⟨_, rfl, b, 40, rfl, bag4, by decide, by decide, fun H5 xa f5 bag5 _ _ => ?_⟩
  refine ⟨_, rfl, _, _, rfl, rfl, ⟨by decide, by decide, by decide⟩, b, _, rfl, bag5, pow50, fun H6 xb f6 bag6 _ _ => ⟨(by show 2 ≤ sizeLine; decide), fun p np => ?_⟩⟩
  have npb : p ≠ b := (bag6.ne np).symm
  refine ⟨_, rfl, b, 4, rfl, bag6.keep (same_new np _), by decide, by decide, fun H7 r7 f7 bag7 r70 r71 => ⟨_, _, rfl, rfl, ⟨by decide, by decide⟩, ?_⟩⟩
  have g7 : Fr b H4 H7 := f5.trans (f6.trans ((Fr.of (same_new np _)).trans f7))
  obtain ⟨vx, hvx, hc7⟩ := at2 (x := V.int xa) (y := V.int xb) (r := r7 / 3) (by omega) (by omega)
  obtain ⟨x, rfl⟩ : ∃ x, vx = .int x := by rcases hc7 with rfl | rfl <;> exact ⟨_, rfl⟩
  refine ⟨p, _, _, _, rfl, rfl, SqL.of (f7 _ _ npb upd_same), hvx, ?_⟩
  dsimp only [List.set_cons_succ, List.set_cons_zero]
  -- the members
  refine ⟨_, rfl, _, rfl, b, x, rfl, bag7, fun H8 m ms f8 bag8 nm nmb em hml => ?_⟩
  have sH8 := out (out sH4 g7) f8
  have hP8 := ((hP4.fr g7).fr f8).dp
  have et8 : H8 t = some (.tup [.str "teller", v]) := f8 _ _ ntb (g7 _ _ ntb et)
  have hd8 := ((hd.fr g7).fr f8).dp
  clear hP4 hd bag8 bag7 bag6 bag5 bag4 bag2 f4 f5 f6 f7 f8 g7 et
  dsimp only [List.set_cons_succ, List.set_cons_zero]
  -- the law's world
  intro wd nwd
  refine ⟨(by show 0 ≤ sizeLine; decide), fun pa npa => ?_⟩
  have wpa : pa ≠ wd := fun z => by rw [z, upd_same] at npa; cases npa
  have npa8 : H8 pa = none := by rw [upd_ne wpa] at npa; exact npa
  refine ⟨by rw [upd_ne wpa.symm]; exact upd_same, wd6 0 pa, rfl, (by show 6 ≤ 15; decide), ?_⟩
  rw [show mergeK [] (wd6 0 pa) = wd6 0 pa from rfl]
  have s9 : Same H8 (upd (upd (upd H8 wd (.dK [])) pa (.lst [])) wd (.dK (wd6 0 pa))) := same_upd ((same_new nwd _).trans (same_new npa _)) nwd _
  have d9 : (upd (upd (upd H8 wd (.dK [])) pa (.lst [])) wd (.dK (wd6 0 pa))) wd = some (.dK (wd6 0 pa)) := upd_same
  have p9 : (upd (upd (upd H8 wd (.dK [])) pa (.lst [])) wd (.dK (wd6 0 pa))) pa = some (.lst []) := by rw [upd_ne wpa]; exact upd_same
  generalize upd (upd (upd H8 wd (.dK [])) pa (.lst [])) wd (.dK (wd6 0 pa)) = H9 at s9 d9 p9 ⊢
  dsimp only [List.set_cons_succ, List.set_cons_zero]
  -- how many steps are left
  refine ⟨_, rfl, t, _, _, _, rfl, rfl, SqT.of (s9 _ _ et8), atI_nat (j := 1) rfl, (by show 0 ≤ sizeLine; decide), fun l nl => ?_⟩
  have u10 := same_new nl (.lst [])
  have e10 : (upd H9 l (.lst [])) l = some (.lst []) := upd_same
  generalize upd H9 l (.lst []) = H10 at u10 e10 ⊢
  refine ⟨v, l, d, "teller", c, [], [], rfl, Nat.le_refl _, dp_mono (s9.trans u10) _ _ hd8, hl, nd, hbc, hc, e10, .nil, rfl, (by show 0 + (bodyC 4 0 d).length ≤ 1000; omega), fun H11 pl zs u11 _ epl hzs => ?_⟩
  have hzl : zs.length = code.length := by
    have := dpAll_len hzs
    rw [List.nil_append, show ([] : List PyData).length = 0 from rfl, hcode, List.length_map] at this
    exact this
  refine ⟨pl, _, rfl, .inl (SqL.of epl), _, _, rfl, rfl, .inl (by decide), _, _, rfl, rfl, ?_⟩
  rw [hzl]
  have s11 : Same H8 H11 := s9.trans (u10.trans u11)
  have d11 := u11 _ _ (u10 _ _ d9)
  have p11 := u11 _ _ (u10 _ _ p9)
  clear d9 p9 e10 epl hzs u11 u10
  refine ⟨_, rfl, wd, _, rfl, DPut.k (k := Sum.inr "left") d11 (by show 6 < sizeLine; decide), ?_⟩
  rw [show putK (wd6 0 pa) (Sum.inr "left" : Key) (V.int (256 * (code.length : Nat) + 2)) = wd6 (256 * (code.length : Nat) + 2) pa from rfl]
  have s12 : Same H8 (upd H11 wd (.dK (wd6 (256 * (code.length : Nat) + 2) pa))) := same_upd s11 nwd _
  have d12 : (upd H11 wd (.dK (wd6 (256 * (code.length : Nat) + 2) pa))) wd = some (.dK (wd6 (256 * (code.length : Nat) + 2) pa)) := upd_same
  have p12 : (upd H11 wd (.dK (wd6 (256 * (code.length : Nat) + 2) pa))) pa = some (.lst []) := by rw [upd_ne wpa]; exact p11
  generalize upd H11 wd (.dK (wd6 (256 * (code.length : Nat) + 2) pa)) = H12 at s12 d12 p12 ⊢
  refine ⟨_, rfl, _, rfl, wd, _, rfl, DPut.k (k := Sum.inr "position") d12 (by show 6 < sizeLine; decide), ?_⟩
  rw [show putK (wd6 (256 * (code.length : Nat) + 2) pa) (Sum.inr "position" : Key) (V.int x) = wd7 (256 * (code.length : Nat) + 2) pa x from rfl]
  have s13 : Same H8 (upd H12 wd (.dK (wd7 (256 * (code.length : Nat) + 2) pa x))) := same_upd s12 nwd _
  have d13 : (upd H12 wd (.dK (wd7 (256 * (code.length : Nat) + 2) pa x))) wd = some (.dK (wd7 (256 * (code.length : Nat) + 2) pa x)) := upd_same
  have p13 : (upd H12 wd (.dK (wd7 (256 * (code.length : Nat) + 2) pa x))) pa = some (.lst []) := by rw [upd_ne wpa]; exact p12
  generalize upd H12 wd (.dK (wd7 (256 * (code.length : Nat) + 2) pa x)) = H13 at s13 d13 p13 ⊢
  refine ⟨_, rfl, _, rfl, wd, _, rfl, DPut.k (k := Sum.inr "members") d13 (by show 7 < sizeLine; decide), ?_⟩
  rw [show putK (wd7 (256 * (code.length : Nat) + 2) pa x) (Sum.inr "members" : Key) (V.ref m) = wdK (W0 (256 * (code.length : Nat) + 2)) pa x m from rfl]
  have s14 : Same H8 (upd H13 wd (.dK (wdK (W0 (256 * (code.length : Nat) + 2)) pa x m))) := same_upd s13 nwd _
  have d14 : (upd H13 wd (.dK (wdK (W0 (256 * (code.length : Nat) + 2)) pa x m))) wd = some (.dK (wdK (W0 (256 * (code.length : Nat) + 2)) pa x m)) := upd_same
  have p14 : (upd H13 wd (.dK (wdK (W0 (256 * (code.length : Nat) + 2)) pa x m))) pa = some (.lst []) := by rw [upd_ne wpa]; exact p13
  generalize upd H13 wd (.dK (wdK (W0 (256 * (code.length : Nat) + 2)) pa x m)) = H14 at s14 d14 p14 ⊢
  have nmpa : m ≠ pa := fun z => by rw [z, npa8] at em; cases em
  have hw : WdA H14 wd pa m x ms (W0 (256 * (code.length : Nat) + 2)) := ⟨d14, p14, s14 _ _ em, nmpa, ⟨⟨Int.le_refl 0, (by show (0 : Int) ≤ 15; decide)⟩, ⟨Int.le_refl 0, (by show (0 : Int) ≤ 15; decide)⟩⟩, (by show 0 ≤ 256 * ((code.length : Nat) : Int) + 2; omega), (by show ((0 : Nat) : Int) + (256 * ((code.length : Nat) : Int) + 2) ≤ 30000; omega)⟩
  clear d11 p11 d12 p12 d13 p13 s11 s12 s13 d14 p14 s9 hzl
  obtain ⟨ss, rfl⟩ := body_tuple hbc
  have hPt : Dt K H14 (.ref t) (.tuple [.str "teller", .tuple ss]) := dt_of _ _ (by simp [noL, noLAll] at nd ⊢; exact nd) (dp_mono s14 _ _ hP8)
  have hdt : Dt K H14 v (.tuple ss) := dt_of _ _ nd (dp_mono s14 _ _ hd8)
  refine ⟨_, rfl, t, _, _, _, rfl, rfl, SqT.of (s14 _ _ et8), atI_nat (j := 1) rfl, _, rfl, v, ss, c, wd, pa, m, x, ms, _, rfl, hdt, hl, Nat.le_refl _, hbc, hw, fun H15 W' fx hw' hdo => ?_⟩
  have hrt := run_tree hok hcode hdo
  have s15 : Same H8 H15 := Fx.same s14 (fun p mp => by simp at mp; rcases mp with rfl | rfl <;> assumption) fx
  have hP15 : Dp K H15 (.ref t) (.tuple [.str "teller", .tuple ss]) := dp_mono (tupH_same H15) _ _ (dp_mono (hw.keepT fx).same _ _ hPt)
  have em15 := hw'.m
  have sH15 := sH8.trans s15
  clear hPt hdt hw fx hdo s14
  -- the run
  refine ⟨_, rfl, _, rfl, _, rfl, m, _, rfl, .inl (SqL.of em15), fun h2 nh2 => ?_⟩
  have u16 := same_new nh2 (.lst (ms.map V.int))
  have e16 : (upd H15 h2 (.lst (ms.map V.int))) h2 = some (.lst (ms.map V.int)) := upd_same
  generalize upd H15 h2 (.lst (ms.map V.int)) = H16 at u16 e16 ⊢
  have hfew : (resPs (runF code x (fun z => decide (z ∈ ms)) none)).length ≤ 100000 := ps_few hcl'
  have rn := res_num (runF code x (fun z => decide (z ∈ ms)) none)
  refine ⟨.ref t, h2, x, none, .tuple ss, code, ms, rfl, dp_mono u16 _ _ hP15, hlay, nd, hp, hcode, hok, (fun L e => nomatch e), SqL.of e16, by omega, fun H17 r2 u17 nr2 ra2 => ?_⟩
  obtain ⟨d2, a2, na2, er2, ea2⟩ := ra2
  have hrt' : (W'.lf ≤ 0 ∧ ∃ f s qs, runF code x (fun z => decide (z ∈ ms)) none = .silent f s qs ∧ isort qs = isort (psQ W'.ps)) ∨ (0 < W'.lf ∧ ∃ v, W'.an = some v ∧ runF code x (fun z => decide (z ∈ ms)) none = .ans v W'.st (psQ W'.ps)) ∨ (0 < W'.lf ∧ W'.an = none ∧ runF code x (fun z => decide (z ∈ ms)) none = .ended W'.st (psQ W'.ps)) := hrt
  generalize hR : runF code x (fun z => decide (z ∈ ms)) none = R at hfew rn er2 ea2 hrt' ⊢
  refine ⟨r2, d2, a2, _, _, _, _, _, _, rfl, ⟨er2, ea2⟩, rn.1, rn.2.1, rn.2.2.1, rn.2.2.2, hfew, fun H18 tt qq u18 ntt nqq ett eqq => ?_⟩
  have hT18 : TupR H18 tt qq R := ⟨ett, eqq⟩
  have hw18 := hw'.same (u16.trans (u17.trans u18))
  have sH18 := sH15.trans (u16.trans (u17.trans u18))
  have hbd := hw18.bd
  have hl0 := hw18.l0
  clear ett eqq er2 ea2 rn em15 hP15 u16 u17 u18 e16 hw' hrt
  dsimp only [List.set_cons_succ, List.set_cons_zero]
  -- the places that were asked
  refine ⟨_, rfl, wd, _, rfl, dgetK (v := .ref pa) hw18.d rfl, pa, rfl, ⟨_, SqL.of hw18.p⟩, fun G nG => lc_list (K := K) (a := pa) (xs := W'.ps.map V.int) (fun i H' => Same H18 H' ∧ ∃ ps, H' G = some (.lst (ps.map V.ref)) ∧ TrueAt H' ps (W'.ps.take i)) ⟨same_new nG _, [], upd_same, .nil⟩ (fun i H' _ ⟨s1, _⟩ => SqL.of (s1 _ _ hw18.p)) ?_ ?_⟩
  · rintro i y H1 hy ⟨s1, ps, eG, tp⟩
    obtain ⟨z, hz, rfl⟩ := ints_get hy
    have hi : i < W'.ps.length := (List.getElem?_eq_some_iff.mp hz).1
    refine ⟨rfl, ?_⟩
    dsimp only [tYes]
    rw [if_pos rfl]
    refine ⟨_, rfl, (by show 2 ≤ sizeLine; decide), fun t' nt => ?_⟩
    have u2 := same_new nt (.tup [.int z, .bl true])
    have e2 : (upd H1 t' (.tup [.int z, .bl true])) t' = some (.tup [.int z, .bl true]) := upd_same
    generalize upd H1 t' (.tup [.int z, .bl true]) = H2 at u2 e2 ⊢
    have hpl := tp.len
    rw [List.length_take] at hpl
    have k3 : KeepT H2 (upd H2 G (.lst (ps.map V.ref ++ [.ref t']))) := KeepT.upd ⟨_, u2 _ _ eG⟩
    refine ⟨ps.map V.ref, u2 _ _ eG, (by rw [List.length_map]; exact Nat.lt_of_le_of_lt (by omega : _ ≤ 30000) (by decide)), same_upd (s1.trans u2) nG _, ps ++ [t'], (by rw [upd_same, List.map_append]; rfl), ?_⟩
    rw [take_snoc hz]
    exact ((tp.keep (KeepT.of u2)).keep k3).snoc (k3.1 _ _ e2)
  rintro H19 ⟨s19, ps, eG, tp⟩
  rw [List.length_map, List.take_length] at tp
  refine ⟨G, ps, kbT W'.ps, rfl, SqL.of eG, tp.pr, fun D nD => ?_⟩
  rw [merge_psQ]
  have u20 := same_new nD (.dK (kbT (psQ W'.ps)))
  have e20 : (upd H19 D (.dK (kbT (psQ W'.ps)))) D = some (.dK (kbT (psQ W'.ps))) := upd_same
  generalize upd H19 D (.dK (kbT (psQ W'.ps))) = H20 at u20 e20 ⊢
  refine ⟨D, _, rfl, .inl e20, fun l1 nl1 => ?_⟩
  rw [kbT_keys]
  have u21 := same_new nl1 (.lst ((psQ W'.ps).map V.int))
  have e21 : (upd H20 l1 (.lst ((psQ W'.ps).map V.int))) l1 = some (.lst ((psQ W'.ps).map V.int)) := upd_same
  generalize upd H20 l1 (.lst ((psQ W'.ps).map V.int)) = H21 at u21 e21 ⊢
  refine ⟨l1, psQ W'.ps, rfl, SqL.of e21, fun ns' as hpm hst nas => ?_⟩
  obtain rfl := isort_unique hpm hst
  have u22 := same_new nas (.lst ((isort (psQ W'.ps)).map V.int))
  have e22 : (upd H21 as (.lst ((isort (psQ W'.ps)).map V.int))) as = some (.lst ((isort (psQ W'.ps)).map V.int)) := upd_same
  generalize upd H21 as (.lst ((isort (psQ W'.ps)).map V.int)) = H22 at u22 e22 ⊢
  have s22 := s19.trans (u20.trans (u21.trans u22))
  clear u20 u21 u22 e20 e21 tp eG s19
  have hw22 := hw18.same s22
  have hT22 : TupR H22 tt qq R := ⟨s22 _ _ hT18.1, s22 _ _ hT18.2⟩
  have sH22 := sH18.trans s22
  dsimp only [List.set_cons_succ, List.set_cons_zero]
  -- what is due
  refine ⟨_, rfl, wd, _, rfl, dgetK (v := .int W'.st) hw22.d rfl, _, rfl, (by show 6 ≤ sizeLine; decide), fun dd ndd => ?_⟩
  have u23 := same_new ndd (.tup [.str "ended", .non, .int W'.st, .non, .non, .ref as])
  have e23 : (upd H22 dd (.tup [.str "ended", .non, .int W'.st, .non, .non, .ref as])) dd = some (.tup [.str "ended", .non, .int W'.st, .non, .non, .ref as]) := upd_same
  generalize upd H22 dd (.tup [.str "ended", .non, .int W'.st, .non, .non, .ref as]) = H23 at u23 e23 ⊢
  have hw23 := hw22.same u23
  dsimp only [List.set_cons_succ, List.set_cons_zero]
  refine ⟨_, rfl, wd, _, rfl, dgetK (v := ansV W'.an) hw23.d rfl, rfl, _, rfl, ?_⟩
  refine imp_of9 (P := ?P) (G := fun d' Hx => Same H22 Hx ∧ (0 < W'.lf → TupR Hx d' as R)) ?f1 ?r1
  case f1 =>
    have fin1 : ∀ v, W'.an = some v → 0 < W'.lf → R = .ans v W'.st (psQ W'.ps) := fun v ea hlf => by
      rcases hrt' with ⟨h, _⟩ | ⟨_, v', h1, h2⟩ | ⟨_, h1, _⟩
      · omega
      · rw [ea] at h1; cases h1; exact h2
      · rw [ea] at h1; cases h1
    have fin2 : W'.an = none → 0 < W'.lf → R = .ended W'.st (psQ W'.ps) := fun ea hlf => by
      rcases hrt' with ⟨h, _⟩ | ⟨_, v', h1, h2⟩ | ⟨_, h1, h2⟩
      · omega
      · rw [ea] at h1; cases h1
      · exact h2
    intro rr
    cases ea : W'.an with
    | some v =>
      refine ite2 (fun _ => ?_) (fun z => absurd rfl z)
      have hw23' := hw23
      refine ⟨_, rfl, wd, _, rfl, dgetK (v := .int v) hw23.d (by rw [wdK, ea]; rfl), _, rfl, wd, _, rfl, dgetK (v := .int W'.st) hw23.d rfl, _, rfl, (by show 6 ≤ sizeLine; decide), fun de nde => ?_⟩
      have u24 := same_new nde (.tup [.str "answered", .int v, .int W'.st, .non, .non, .ref as])
      have e24 : (upd H23 de (.tup [.str "answered", .int v, .int W'.st, .non, .non, .ref as])) de = some (.tup [.str "answered", .int v, .int W'.st, .non, .non, .ref as]) := upd_same
      generalize upd H23 de (.tup [.str "answered", .int v, .int W'.st, .non, .non, .ref as]) = H24 at u24 e24 ⊢
      dsimp only [List.set_cons_succ, List.set_cons_zero]
      exact rr de H24 ⟨u23.trans u24, fun hlf => by rw [fin1 v ea hlf]; exact ⟨e24, (u23.trans u24) _ _ e22⟩⟩
    | none =>
      refine ite2 (fun z => absurd z (by decide)) (fun _ => ?_)
      exact rr dd H23 ⟨u23, fun hlf => by rw [fin2 ea hlf]; exact ⟨e23, u23 _ _ e22⟩⟩
  case r1 =>
  rintro d' Hx ⟨ux, hdue⟩
  have hwx := hw22.same ux
  have hTx : TupR Hx tt qq R := ⟨ux _ _ hT22.1, ux _ _ hT22.2⟩
  refine ⟨_, rfl, wd, _, rfl, dgetK (v := .int W'.lf) hwx.d rfl, _, _, rfl, rfl, _, rfl, ?_⟩
  by_cases clf : W'.lf ≤ 0
  · refine ite2 (fun _ => ?_) (fun z => absurd (decide_eq_true clf) z)
    obtain ⟨fi, se, qs, rfl, hqs⟩ : ∃ f s qs, R = .silent f s qs ∧ isort qs = isort (psQ W'.ps) := by
      rcases hrt' with ⟨_, h⟩ | ⟨h, _⟩ | ⟨h, _⟩
      · exact h
      · omega
      · omega
    refine ⟨_, rfl, rfl, _, rfl, iteF ?_⟩
    refine ⟨_, rfl, _, rfl, tt, _, rfl, SqT.of hTx.1, (fun z => absurd z.2 (by show ¬ HT.sIx 6 6 (some 3) = 6; decide)), fun sl nsl => ?_⟩
    rw [show cutV [V.str (resOut (.silent fi se qs)), resAns (.silent fi se qs), resLen (.silent fi se qs), resFst (.silent fi se qs), resSnd (.silent fi se qs), .ref qq] none (some 3) = [.str "silent", .non, .non] from cut_lo _ 3]
    have u24 := same_new nsl (.tup [.str "silent", .non, .non])
    have e24 : (upd Hx sl (.tup [.str "silent", .non, .non])) sl = some (.tup [.str "silent", .non, .non]) := upd_same
    generalize upd Hx sl (.tup [.str "silent", .non, .non]) = H24 at u24 e24 ⊢
    refine ⟨(by show 3 ≤ sizeLine; decide), fun sm nsm => ?_⟩
    have u25 := same_new nsm (.tup [.str "silent", .non, .non])
    have e25 : (upd H24 sm (.tup [.str "silent", .non, .non])) sm = some (.tup [.str "silent", .non, .non]) := upd_same
    generalize upd H24 sm (.tup [.str "silent", .non, .non]) = H25 at u25 e25 ⊢
    refine ⟨.tuple [.str "silent", .none, .none], .tuple [.str "silent", .none, .none], .tup (SqT.of (u25 _ _ e24)) (.cons (.str _) (.cons .non (.cons .non .nil))), .tup (SqT.of e25) (.cons (.str _) (.cons .non (.cons .non .nil))), by decide +kernel, by decide +kernel, _, rfl, ?_⟩
    rw [show PyData.eqv (.tuple [.str "silent", .none, .none]) (.tuple [.str "silent", .none, .none]) = true by decide +kernel]
    refine iteF ?_
    have u2 := u24.trans u25
    have hq25 := u2 _ _ hTx.2
    rw [show resPs (.silent fi se qs) = isort (psQ W'.ps) from hqs] at hq25
    have ha25 := (ux.trans u2) _ _ e22
    refine ⟨_, rfl, tt, _, _, _, rfl, rfl, SqT.of (u2 _ _ hTx.1), atI_nat (j := 5) rfl, _, rfl, .list ((isort (psQ W'.ps)).map PyData.int), .list ((isort (psQ W'.ps)).map PyData.int), .lst (SqL.of hq25) (dp_ints _), .lst (SqL.of ha25) (dp_ints _), shaped_ints _, shaped_ints _, _, rfl, ?_⟩
    rw [SeqAt.eqv_refl _ (SeqAt.canLay_of_shaped (shaped_ints _))]
    refine iteF ?_
    exact ⟨_, _, _, _, _, _, _, _, _, rfl, sH22.trans (ux.trans u2)⟩
  · refine ite2 (fun z => absurd (of_decide_eq_true z) clf) (fun _ => ?_)
    refine ⟨_, rfl, _, rfl, ?_⟩
    refine told_due (R := R) hTx (hdue (by omega)) ⟨_, rfl, iteF ?_⟩
    exact ⟨_, _, _, _, _, _, _, _, _, rfl, sH22.trans ux⟩
end
theorem sqt_of {K : PySem.W.Frag} {a : Addr} {od : Option Addr} {sl : Array (Option Value)} {n : Nat} {its : Array Value} {xs : List V} (h : K.lookup a = some ⟨.type "tuple", od, .seq its n, sl⟩) (hz : its.size ≤ sizeLine) (r : Vals xs its.toList) : ∀ H, SqT K H a xs := fun H => .inr ⟨_, its, n, h, rfl, rfl, hz, r⟩
theorem all_mk {l : PySem.W.OpenLaw} {w : World} {K : PySem.W.Frag} {h : Heap} {mg : Str → Option Value} {fa : Addr} (X : K.In h) (G : h.Ns mainGlobals mg) (hfa : mg "law" = some (.ref fa))
    {fFrom : Addr} {odFrom anFrom : Option Addr} {slFrom : Array (Option Value)} {ocFrom kVFrom dcFrom pmFrom cdFrom ctFrom : Value}
    {fInt : Addr} {odInt anInt : Option Addr} {slInt : Array (Option Value)} {ocInt kVInt dcInt pmInt cdInt ctInt : Value}
    {fTerm : Addr} {odTerm anTerm : Option Addr} {slTerm : Array (Option Value)} {ocTerm kVTerm dcTerm pmTerm cdTerm ctTerm : Value}
    {fCond : Addr} {odCond anCond : Option Addr} {slCond : Array (Option Value)} {ocCond kVCond dcCond pmCond cdCond ctCond : Value}
    {fPart : Addr} {odPart anPart : Option Addr} {slPart : Array (Option Value)} {ocPart kVPart dcPart pmPart cdPart ctPart : Value}
    {fWord : Addr} {odWord anWord : Option Addr} {slWord : Array (Option Value)} {ocWord kVWord dcWord pmWord cdWord ctWord : Value}
    {fRoles : Addr} {odRoles anRoles : Option Addr} {slRoles : Array (Option Value)} {ocRoles kVRoles dcRoles pmRoles cdRoles ctRoles : Value}
    {fPlain : Addr} {odPlain anPlain : Option Addr} {slPlain : Array (Option Value)} {ocPlain kVPlain dcPlain pmPlain cdPlain ctPlain : Value}
    {fOut : Addr} {odOut anOut : Option Addr} {slOut : Array (Option Value)} {ocOut kVOut dcOut pmOut cdOut ctOut : Value}
    {fBodies : Addr} {odBodies anBodies : Option Addr} {slBodies : Array (Option Value)} {ocBodies kVBodies dcBodies pmBodies cdBodies ctBodies : Value}
    {fProg : Addr} {odProg anProg : Option Addr} {slProg : Array (Option Value)} {ocProg kVProg dcProg pmProg cdProg ctProg : Value}
    {fAsm : Addr} {odAsm anAsm : Option Addr} {slAsm : Array (Option Value)} {ocAsm kVAsm dcAsm pmAsm cdAsm ctAsm : Value}
    {fBC : Addr} {odBC anBC : Option Addr} {slBC : Array (Option Value)} {ocBC kVBC dcBC pmBC cdBC ctBC : Value}
    {fSC : Addr} {odSC anSC : Option Addr} {slSC : Array (Option Value)} {ocSC kVSC dcSC pmSC cdSC ctSC : Value}
    {fWC : Addr} {odWC anWC : Option Addr} {slWC : Array (Option Value)} {ocWC kVWC dcWC pmWC cdWC ctWC : Value}
    {fIC : Addr} {odIC anIC : Option Addr} {slIC : Array (Option Value)} {ocIC kVIC dcIC pmIC cdIC ctIC : Value}
    {fCost : Addr} {odCost anCost : Option Addr} {slCost : Array (Option Value)} {ocCost kVCost dcCost pmCost cdCost ctCost : Value}
    {fRep : Addr} {odRep anRep : Option Addr} {slRep : Array (Option Value)} {ocRep kVRep dcRep pmRep cdRep ctRep : Value}
    {fBag : Addr} {odBag anBag : Option Addr} {slBag : Array (Option Value)} {ocBag kVBag dcBag pmBag cdBag ctBag : Value}
    {fDraw : Addr} {odDraw anDraw : Option Addr} {slDraw : Array (Option Value)} {ocDraw kVDraw dcDraw pmDraw cdDraw ctDraw : Value}
    {fLarge : Addr} {odLarge anLarge : Option Addr} {slLarge : Array (Option Value)} {ocLarge kVLarge dcLarge pmLarge cdLarge ctLarge : Value}
    {fSteps : Addr} {odSteps anSteps : Option Addr} {slSteps : Array (Option Value)} {ocSteps kVSteps dcSteps pmSteps cdSteps ctSteps : Value}
    {fTermL : Addr} {odTermL anTermL : Option Addr} {slTermL : Array (Option Value)} {ocTermL kVTermL dcTermL pmTermL cdTermL ctTermL : Value}
    {fCondL : Addr} {odCondL anCondL : Option Addr} {slCondL : Array (Option Value)} {ocCondL kVCondL dcCondL pmCondL cdCondL ctCondL : Value}
    {fSimple : Addr} {odSimple anSimple : Option Addr} {slSimple : Array (Option Value)} {ocSimple kVSimple dcSimple pmSimple cdSimple ctSimple : Value}
    {fStmt : Addr} {odStmt anStmt : Option Addr} {slStmt : Array (Option Value)} {ocStmt kVStmt dcStmt pmStmt cdStmt ctStmt : Value}
    {fBody : Addr} {odBody anBody : Option Addr} {slBody : Array (Option Value)} {ocBody kVBody dcBody pmBody cdBody ctBody : Value}
    {fProgL : Addr} {odProgL anProgL : Option Addr} {slProgL : Array (Option Value)} {ocProgL kVProgL dcProgL pmProgL cdProgL ctProgL : Value}
    {fWhole : Addr} {odWhole anWhole : Option Addr} {slWhole : Array (Option Value)} {ocWhole kVWhole dcWhole pmWhole cdWhole ctWhole : Value}
    {fLC : Addr} {odLC anLC : Option Addr} {slLC : Array (Option Value)} {ocLC kVLC dcLC pmLC cdLC ctLC : Value}
    {fTO : Addr} {odTO anTO : Option Addr} {slTO : Array (Option Value)} {ocTO kVTO dcTO pmTO cdTO ctTO : Value}
    {fTr : Addr} {odTr anTr : Option Addr} {slTr : Array (Option Value)} {ocTr kVTr dcTr pmTr cdTr ctTr : Value}
    {fNx : Addr} {odNx anNx : Option Addr} {slNx : Array (Option Value)} {ocNx kVNx dcNx pmNx cdNx ctNx : Value}
    {fPlc : Addr} {odPlc anPlc : Option Addr} {slPlc : Array (Option Value)} {ocPlc kVPlc dcPlc pmPlc cdPlc ctPlc : Value}
    {fTst : Addr} {odTst anTst : Option Addr} {slTst : Array (Option Value)} {ocTst kVTst dcTst pmTst cdTst ctTst : Value}
    {fDo : Addr} {odDo anDo : Option Addr} {slDo : Array (Option Value)} {ocDo kVDo dcDo pmDo cdDo ctDo : Value}
    {fDO : Addr} {odDO anDO : Option Addr} {slDO : Array (Option Value)} {ocDO kVDO dcDO pmDO cdDO ctDO : Value}
    {fTold : Addr} {odTold anTold : Option Addr} {slTold : Array (Option Value)} {ocTold kVTold dcTold pmTold cdTold ctTold : Value}
    {fNear : Addr} {odNear anNear : Option Addr} {slNear : Array (Option Value)} {ocNear kVNear dcNear pmNear cdNear ctNear : Value}
    {fLaw : Addr} {odLaw anLaw : Option Addr} {slLaw : Array (Option Value)} {ocLaw kVLaw dcLaw pmLaw cdLaw ctLaw : Value}
    {tG : Tok}
    {tL : Tok}
    {tS : Tok}
    {tD : Tok}
    {aV : Addr} {odV : Option Addr} {slV : Array (Option Value)} {nV : Nat} {tV0 tV1 : Tok}
    {aC : Addr} {odC : Option Addr} {slC : Array (Option Value)} {nC : Nat} {tC0 tC1 tC2 : Tok}
    {aA : Addr} {odA : Option Addr} {slA : Array (Option Value)} {nA : Nat} {tA0 tA1 tA2 : Tok}
    {aK : Addr} {odK : Option Addr} {slK : Array (Option Value)} {nK : Nat} {tK0 tK1 : Tok}
    {aB : Addr} {nB : Nat} {hB0 hB1 : Int} {tB0 tB1 tB2 tB3 : Tok}
    {aSh : Addr} {nSh : Nat} {hSh0 hSh1 hSh2 : Int} {tSh0 tSh1 tSh2 : Tok}
    {aSh0 : Addr} {odSh0 : Option Addr} {slSh0 : Array (Option Value)} {nSh0 : Nat} {tSh00 tSh01 : Tok}
    {aSh1 : Addr} {odSh1 : Option Addr} {slSh1 : Array (Option Value)} {nSh1 : Nat} {tSh10 tSh11 : Tok}
    {aSh2 : Addr} {odSh2 : Option Addr} {slSh2 : Array (Option Value)} {nSh2 : Nat} {tSh20 : Tok}
    {aTe : Addr} {nTe : Nat} {hTe0 hTe1 : Int} {tTe0 tTe1 : Tok}
    {aTe0 : Addr} {odTe0 : Option Addr} {slTe0 : Array (Option Value)} {nTe0 : Nat} {tTe00 tTe01 tTe02 : Tok}
    {aTe1 : Addr} {odTe1 : Option Addr} {slTe1 : Array (Option Value)} {nTe1 : Nat} {tTe10 : Tok}
    {aCo : Addr} {nCo : Nat} {hCo0 hCo1 : Int} {tCo0 tCo1 : Tok}
    {aCo0 : Addr} {odCo0 : Option Addr} {slCo0 : Array (Option Value)} {nCo0 : Nat} {tCo00 : Tok}
    {aCo1 : Addr} {odCo1 : Option Addr} {slCo1 : Array (Option Value)} {nCo1 : Nat} {tCo10 : Tok}
    {cW cT cR : Addr}
    {fEar : Addr} {odEar anEar : Option Addr} {slEar : Array (Option Value)} {ocEar kVEar dcEar pmEar cdEar ctEar : Value}
    {fUp : Addr} {odUp anUp : Option Addr} {slUp : Array (Option Value)} {ocUp kVUp dcUp pmUp cdUp ctUp : Value}
    {fWor : Addr} {odWor anWor : Option Addr} {slWor : Array (Option Value)} {ocWor kVWor dcWor pmWor cdWor ctWor : Value}
    {fTru : Addr} {odTru anTru : Option Addr} {slTru : Array (Option Value)} {ocTru kVTru dcTru pmTru cdTru ctTru : Value}
    {fTak : Addr} {odTak anTak : Option Addr} {slTak : Array (Option Value)} {ocTak kVTak dcTak pmTak cdTak ctTak : Value}
    {fFol : Addr} {odFol anFol : Option Addr} {slFol : Array (Option Value)} {ocFol kVFol dcFol pmFol cdFol ctFol : Value}
    {fPl : Addr} {odPl anPl : Option Addr} {slPl : Array (Option Value)} {ocPl kVPl dcPl pmPl cdPl ctPl : Value}
    {fAsk : Addr} {odAsk anAsk : Option Addr} {slAsk : Array (Option Value)} {ocAsk kVAsk dcAsk pmAsk cdAsk ctAsk : Value}
    {fAP : Addr} {odAP anAP : Option Addr} {slAP : Array (Option Value)} {ocAP kVAP dcAP pmAP cdAP ctAP : Value}
    {fTI : Addr} {odTI anTI : Option Addr} {slTI : Array (Option Value)} {ocTI kVTI dcTI pmTI cdTI ctTI : Value}
    {fWI : Addr} {odWI anWI : Option Addr} {slWI : Array (Option Value)} {ocWI kVWI dcWI pmWI cdWI ctWI : Value}
    {TRI TTR DRun : Addr} {toRI toTR : Option Addr} {nRI nTR : Nat} {tsRI tsTR : Array (Option Value)}
    {fRI : Addr} {odRI anRI : Option Addr} {slRI : Array (Option Value)} {ocRI kVRI dcRI pmRI cdRI ctRI : Value}
    {fTR : Addr} {odTR anTR : Option Addr} {slTR : Array (Option Value)} {ocTR kVTR dcTR pmTR cdTR ctTR : Value}
    {fRun : Addr} {odRun anRun : Option Addr} {slRun : Array (Option Value)} {ocRun dcRun pmRun cdRun ctRun : Value}
    (aFrom : PySem.W.nsIn K mainGlobals "is_integer_from" = some (some (.ref fFrom)))
    (lFrom : K.lookup fFrom = some ⟨ocFrom, odFrom, .func (PySem.W.fnOf "is_integer_from" "is_integer_from" (defArgs sFrom) (defBody sFrom) (defScope sFrom) .none kVFrom dcFrom pmFrom anFrom cdFrom ctFrom), slFrom⟩)
    (cFrom : PySem.W.codeIn K cdFrom "is_integer_from" = true)
    (kFrom : PySem.W.keepIn K (.ref fFrom) = true)
    (aInt : PySem.W.nsIn K mainGlobals "is_integer_from_to" = some (some (.ref fInt)))
    (lInt : K.lookup fInt = some ⟨ocInt, odInt, .func (PySem.W.fnOf "is_integer_from_to" "is_integer_from_to" (defArgs sInt) (defBody sInt) (defScope sInt) .none kVInt dcInt pmInt anInt cdInt ctInt), slInt⟩)
    (cInt : PySem.W.codeIn K cdInt "is_integer_from_to" = true)
    (kInt : PySem.W.keepIn K (.ref fInt) = true)
    (aTerm : PySem.W.nsIn K mainGlobals "is_term" = some (some (.ref fTerm)))
    (lTerm : K.lookup fTerm = some ⟨ocTerm, odTerm, .func (PySem.W.fnOf "is_term" "is_term" (defArgs sTerm) (defBody sTerm) (defScope sTerm) .none kVTerm dcTerm pmTerm anTerm cdTerm ctTerm), slTerm⟩)
    (cTerm : PySem.W.codeIn K cdTerm "is_term" = true)
    (kTerm : PySem.W.keepIn K (.ref fTerm) = true)
    (aCond : PySem.W.nsIn K mainGlobals "is_condition" = some (some (.ref fCond)))
    (lCond : K.lookup fCond = some ⟨ocCond, odCond, .func (PySem.W.fnOf "is_condition" "is_condition" (defArgs sCond) (defBody sCond) (defScope sCond) .none kVCond dcCond pmCond anCond cdCond ctCond), slCond⟩)
    (cCond : PySem.W.codeIn K cdCond "is_condition" = true)
    (kCond : PySem.W.keepIn K (.ref fCond) = true)
    (aPart : PySem.W.nsIn K mainGlobals "is_part" = some (some (.ref fPart)))
    (lPart : K.lookup fPart = some ⟨ocPart, odPart, .func (PySem.W.fnOf "is_part" "is_part" (defArgs sPart) (defBody sPart) (defScope sPart) .none kVPart dcPart pmPart anPart cdPart ctPart), slPart⟩)
    (cPart : PySem.W.codeIn K cdPart "is_part" = true)
    (kPart : PySem.W.keepIn K (.ref fPart) = true)
    (aWord : PySem.W.nsIn K mainGlobals "word_of" = some (some (.ref fWord)))
    (lWord : K.lookup fWord = some ⟨ocWord, odWord, .func (PySem.W.fnOf "word_of" "word_of" (defArgs sWord) (defBody sWord) (defScope sWord) .none kVWord dcWord pmWord anWord cdWord ctWord), slWord⟩)
    (cWord : PySem.W.codeIn K cdWord "word_of" = true)
    (kWord : PySem.W.keepIn K (.ref fWord) = true)
    (aRoles : PySem.W.nsIn K mainGlobals "roles_of" = some (some (.ref fRoles)))
    (lRoles : K.lookup fRoles = some ⟨ocRoles, odRoles, .func (PySem.W.fnOf "roles_of" "roles_of" (defArgs sRoles) (defBody sRoles) (defScope sRoles) .none kVRoles dcRoles pmRoles anRoles cdRoles ctRoles), slRoles⟩)
    (cRoles : PySem.W.codeIn K cdRoles "roles_of" = true)
    (kRoles : PySem.W.keepIn K (.ref fRoles) = true)
    (aPlain : PySem.W.nsIn K mainGlobals "is_plain_statement" = some (some (.ref fPlain)))
    (lPlain : K.lookup fPlain = some ⟨ocPlain, odPlain, .func (PySem.W.fnOf "is_plain_statement" "is_plain_statement" (defArgs sPlain) (defBody sPlain) (defScope sPlain) .none kVPlain dcPlain pmPlain anPlain cdPlain ctPlain), slPlain⟩)
    (cPlain : PySem.W.codeIn K cdPlain "is_plain_statement" = true)
    (kPlain : PySem.W.keepIn K (.ref fPlain) = true)
    (aOut : PySem.W.nsIn K mainGlobals "is_outside_of_statement" = some (some (.ref fOut)))
    (lOut : K.lookup fOut = some ⟨ocOut, odOut, .func (PySem.W.fnOf "is_outside_of_statement" "is_outside_of_statement" (defArgs sOut) (defBody sOut) (defScope sOut) .none kVOut dcOut pmOut anOut cdOut ctOut), slOut⟩)
    (cOut : PySem.W.codeIn K cdOut "is_outside_of_statement" = true)
    (kOut : PySem.W.keepIn K (.ref fOut) = true)
    (aBodies : PySem.W.nsIn K mainGlobals "bodies_of" = some (some (.ref fBodies)))
    (lBodies : K.lookup fBodies = some ⟨ocBodies, odBodies, .func (PySem.W.fnOf "bodies_of" "bodies_of" (defArgs sBodies) (defBody sBodies) (defScope sBodies) .none kVBodies dcBodies pmBodies anBodies cdBodies ctBodies), slBodies⟩)
    (cBodies : PySem.W.codeIn K cdBodies "bodies_of" = true)
    (kBodies : PySem.W.keepIn K (.ref fBodies) = true)
    (aProg : PySem.W.nsIn K mainGlobals "is_program" = some (some (.ref fProg)))
    (lProg : K.lookup fProg = some ⟨ocProg, odProg, .func (PySem.W.fnOf "is_program" "is_program" (defArgs sProg) (defBody sProg) (defScope sProg) .none kVProg dcProg pmProg anProg cdProg ctProg), slProg⟩)
    (cProg : PySem.W.codeIn K cdProg "is_program" = true)
    (kProg : PySem.W.keepIn K (.ref fProg) = true)
    (aAsm : PySem.W.nsIn K mainGlobals "assemble" = some (some (.ref fAsm)))
    (lAsm : K.lookup fAsm = some ⟨ocAsm, odAsm, .func (PySem.W.fnOf "assemble" "assemble" (defArgs sAsm) (defBody sAsm) (defScope sAsm) .none kVAsm dcAsm pmAsm anAsm cdAsm ctAsm), slAsm⟩)
    (cAsm : PySem.W.codeIn K cdAsm "assemble" = true)
    (kAsm : PySem.W.keepIn K (.ref fAsm) = true)
    (aBC : PySem.W.nsIn K mainGlobals "body_code" = some (some (.ref fBC)))
    (lBC : K.lookup fBC = some ⟨ocBC, odBC, .func (PySem.W.fnOf "body_code" "body_code" (defArgs sBC) (defBody sBC) (defScope sBC) .none kVBC dcBC pmBC anBC cdBC ctBC), slBC⟩)
    (cBC : PySem.W.codeIn K cdBC "body_code" = true)
    (kBC : PySem.W.keepIn K (.ref fBC) = true)
    (aSC : PySem.W.nsIn K mainGlobals "statement_code" = some (some (.ref fSC)))
    (lSC : K.lookup fSC = some ⟨ocSC, odSC, .func (PySem.W.fnOf "statement_code" "statement_code" (defArgs sSC) (defBody sSC) (defScope sSC) .none kVSC dcSC pmSC anSC cdSC ctSC), slSC⟩)
    (cSC : PySem.W.codeIn K cdSC "statement_code" = true)
    (kSC : PySem.W.keepIn K (.ref fSC) = true)
    (aWC : PySem.W.nsIn K mainGlobals "while_code" = some (some (.ref fWC)))
    (lWC : K.lookup fWC = some ⟨ocWC, odWC, .func (PySem.W.fnOf "while_code" "while_code" (defArgs sWC) (defBody sWC) (defScope sWC) .none kVWC dcWC pmWC anWC cdWC ctWC), slWC⟩)
    (cWC : PySem.W.codeIn K cdWC "while_code" = true)
    (kWC : PySem.W.keepIn K (.ref fWC) = true)
    (aIC : PySem.W.nsIn K mainGlobals "if_code" = some (some (.ref fIC)))
    (lIC : K.lookup fIC = some ⟨ocIC, odIC, .func (PySem.W.fnOf "if_code" "if_code" (defArgs sIC) (defBody sIC) (defScope sIC) .none kVIC dcIC pmIC anIC cdIC ctIC), slIC⟩)
    (cIC : PySem.W.codeIn K cdIC "if_code" = true)
    (kIC : PySem.W.keepIn K (.ref fIC) = true)
    (aCost : PySem.W.nsIn K mainGlobals "cost" = some (some (.ref fCost)))
    (lCost : K.lookup fCost = some ⟨ocCost, odCost, .func (PySem.W.fnOf "cost" "cost" (defArgs sCost) (defBody sCost) (defScope sCost) .none kVCost dcCost pmCost anCost cdCost ctCost), slCost⟩)
    (cCost : PySem.W.codeIn K cdCost "cost" = true)
    (kCost : PySem.W.keepIn K (.ref fCost) = true)
    (aRep : PySem.W.nsIn K mainGlobals "repeated" = some (some (.ref fRep)))
    (lRep : K.lookup fRep = some ⟨ocRep, odRep, .func (PySem.W.fnOf "repeated" "repeated" (defArgs sRep) (defBody sRep) (defScope sRep) .none kVRep dcRep pmRep anRep cdRep ctRep), slRep⟩)
    (cRep : PySem.W.codeIn K cdRep "repeated" = true)
    (kRep : PySem.W.keepIn K (.ref fRep) = true)
    (aBag : PySem.W.nsIn K mainGlobals "_law_bag" = some (some (.ref fBag)))
    (lBag : K.lookup fBag = some ⟨ocBag, odBag, .func (PySem.W.fnOf "_law_bag" "_law_bag" (defArgs sBag) (defBody sBag) (defScope sBag) .none kVBag dcBag pmBag anBag cdBag ctBag), slBag⟩)
    (cBag : PySem.W.codeIn K cdBag "_law_bag" = true)
    (kBag : PySem.W.keepIn K (.ref fBag) = true)
    (aDraw : PySem.W.nsIn K mainGlobals "_law_draw" = some (some (.ref fDraw)))
    (lDraw : K.lookup fDraw = some ⟨ocDraw, odDraw, .func (PySem.W.fnOf "_law_draw" "_law_draw" (defArgs sDraw) (defBody sDraw) (defScope sDraw) .none kVDraw dcDraw pmDraw anDraw cdDraw ctDraw), slDraw⟩)
    (cDraw : PySem.W.codeIn K cdDraw "_law_draw" = true)
    (kDraw : PySem.W.keepIn K (.ref fDraw) = true)
    (aLarge : PySem.W.nsIn K mainGlobals "_law_large" = some (some (.ref fLarge)))
    (lLarge : K.lookup fLarge = some ⟨ocLarge, odLarge, .func (PySem.W.fnOf "_law_large" "_law_large" (defArgs sLarge) (defBody sLarge) (defScope sLarge) .none kVLarge dcLarge pmLarge anLarge cdLarge ctLarge), slLarge⟩)
    (cLarge : PySem.W.codeIn K cdLarge "_law_large" = true)
    (kLarge : PySem.W.keepIn K (.ref fLarge) = true)
    (aSteps : PySem.W.nsIn K mainGlobals "_law_steps" = some (some (.ref fSteps)))
    (lSteps : K.lookup fSteps = some ⟨ocSteps, odSteps, .func (PySem.W.fnOf "_law_steps" "_law_steps" (defArgs sSteps) (defBody sSteps) (defScope sSteps) .none kVSteps dcSteps pmSteps anSteps cdSteps ctSteps), slSteps⟩)
    (cSteps : PySem.W.codeIn K cdSteps "_law_steps" = true)
    (kSteps : PySem.W.keepIn K (.ref fSteps) = true)
    (aTermL : PySem.W.nsIn K mainGlobals "_law_term" = some (some (.ref fTermL)))
    (lTermL : K.lookup fTermL = some ⟨ocTermL, odTermL, .func (PySem.W.fnOf "_law_term" "_law_term" (defArgs sTermL) (defBody sTermL) (defScope sTermL) .none kVTermL dcTermL pmTermL anTermL cdTermL ctTermL), slTermL⟩)
    (cTermL : PySem.W.codeIn K cdTermL "_law_term" = true)
    (kTermL : PySem.W.keepIn K (.ref fTermL) = true)
    (aCondL : PySem.W.nsIn K mainGlobals "_law_condition" = some (some (.ref fCondL)))
    (lCondL : K.lookup fCondL = some ⟨ocCondL, odCondL, .func (PySem.W.fnOf "_law_condition" "_law_condition" (defArgs sCondL) (defBody sCondL) (defScope sCondL) .none kVCondL dcCondL pmCondL anCondL cdCondL ctCondL), slCondL⟩)
    (cCondL : PySem.W.codeIn K cdCondL "_law_condition" = true)
    (kCondL : PySem.W.keepIn K (.ref fCondL) = true)
    (aSimple : PySem.W.nsIn K mainGlobals "_law_simple" = some (some (.ref fSimple)))
    (lSimple : K.lookup fSimple = some ⟨ocSimple, odSimple, .func (PySem.W.fnOf "_law_simple" "_law_simple" (defArgs sSimple) (defBody sSimple) (defScope sSimple) .none kVSimple dcSimple pmSimple anSimple cdSimple ctSimple), slSimple⟩)
    (cSimple : PySem.W.codeIn K cdSimple "_law_simple" = true)
    (kSimple : PySem.W.keepIn K (.ref fSimple) = true)
    (aStmt : PySem.W.nsIn K mainGlobals "_law_statement" = some (some (.ref fStmt)))
    (lStmt : K.lookup fStmt = some ⟨ocStmt, odStmt, .func (PySem.W.fnOf "_law_statement" "_law_statement" (defArgs sStmt) (defBody sStmt) (defScope sStmt) .none kVStmt dcStmt pmStmt anStmt cdStmt ctStmt), slStmt⟩)
    (cStmt : PySem.W.codeIn K cdStmt "_law_statement" = true)
    (kStmt : PySem.W.keepIn K (.ref fStmt) = true)
    (aBody : PySem.W.nsIn K mainGlobals "_law_body" = some (some (.ref fBody)))
    (lBody : K.lookup fBody = some ⟨ocBody, odBody, .func (PySem.W.fnOf "_law_body" "_law_body" (defArgs sBody) (defBody sBody) (defScope sBody) .none kVBody dcBody pmBody anBody cdBody ctBody), slBody⟩)
    (cBody : PySem.W.codeIn K cdBody "_law_body" = true)
    (kBody : PySem.W.keepIn K (.ref fBody) = true)
    (aProgL : PySem.W.nsIn K mainGlobals "_law_program" = some (some (.ref fProgL)))
    (lProgL : K.lookup fProgL = some ⟨ocProgL, odProgL, .func (PySem.W.fnOf "_law_program" "_law_program" (defArgs sProgL) (defBody sProgL) (defScope sProgL) .none kVProgL dcProgL pmProgL anProgL cdProgL ctProgL), slProgL⟩)
    (cProgL : PySem.W.codeIn K cdProgL "_law_program" = true)
    (kProgL : PySem.W.keepIn K (.ref fProgL) = true)
    (aWhole : PySem.W.nsIn K mainGlobals "_law_whole" = some (some (.ref fWhole)))
    (lWhole : K.lookup fWhole = some ⟨ocWhole, odWhole, .func (PySem.W.fnOf "_law_whole" "_law_whole" (defArgs sWhole) (defBody sWhole) (defScope sWhole) .none kVWhole dcWhole pmWhole anWhole cdWhole ctWhole), slWhole⟩)
    (cWhole : PySem.W.codeIn K cdWhole "_law_whole" = true)
    (kWhole : PySem.W.keepIn K (.ref fWhole) = true)
    (aLC : PySem.W.nsIn K mainGlobals "_law_code" = some (some (.ref fLC)))
    (lLC : K.lookup fLC = some ⟨ocLC, odLC, .func (PySem.W.fnOf "_law_code" "_law_code" (defArgs sLC) (defBody sLC) (defScope sLC) .none kVLC dcLC pmLC anLC cdLC ctLC), slLC⟩)
    (cLC : PySem.W.codeIn K cdLC "_law_code" = true)
    (kLC : PySem.W.keepIn K (.ref fLC) = true)
    (aTO : PySem.W.nsIn K mainGlobals "_law_term_of" = some (some (.ref fTO)))
    (lTO : K.lookup fTO = some ⟨ocTO, odTO, .func (PySem.W.fnOf "_law_term_of" "_law_term_of" (defArgs sTO) (defBody sTO) (defScope sTO) .none kVTO dcTO pmTO anTO cdTO ctTO), slTO⟩)
    (cTO : PySem.W.codeIn K cdTO "_law_term_of" = true)
    (kTO : PySem.W.keepIn K (.ref fTO) = true)
    (aTr : PySem.W.nsIn K mainGlobals "_law_true" = some (some (.ref fTr)))
    (lTr : K.lookup fTr = some ⟨ocTr, odTr, .func (PySem.W.fnOf "_law_true" "_law_true" (defArgs sTr) (defBody sTr) (defScope sTr) .none kVTr dcTr pmTr anTr cdTr ctTr), slTr⟩)
    (cTr : PySem.W.codeIn K cdTr "_law_true" = true)
    (kTr : PySem.W.keepIn K (.ref fTr) = true)
    (aNx : PySem.W.nsIn K mainGlobals "_law_next" = some (some (.ref fNx)))
    (lNx : K.lookup fNx = some ⟨ocNx, odNx, .func (PySem.W.fnOf "_law_next" "_law_next" (defArgs sNx) (defBody sNx) (defScope sNx) .none kVNx dcNx pmNx anNx cdNx ctNx), slNx⟩)
    (cNx : PySem.W.codeIn K cdNx "_law_next" = true)
    (kNx : PySem.W.keepIn K (.ref fNx) = true)
    (aPlc : PySem.W.nsIn K mainGlobals "_law_place" = some (some (.ref fPlc)))
    (lPlc : K.lookup fPlc = some ⟨ocPlc, odPlc, .func (PySem.W.fnOf "_law_place" "_law_place" (defArgs sPlc) (defBody sPlc) (defScope sPlc) .none kVPlc dcPlc pmPlc anPlc cdPlc ctPlc), slPlc⟩)
    (cPlc : PySem.W.codeIn K cdPlc "_law_place" = true)
    (kPlc : PySem.W.keepIn K (.ref fPlc) = true)
    (aTst : PySem.W.nsIn K mainGlobals "_law_test" = some (some (.ref fTst)))
    (lTst : K.lookup fTst = some ⟨ocTst, odTst, .func (PySem.W.fnOf "_law_test" "_law_test" (defArgs sTe) (defBody sTe) (defScope sTe) .none kVTst dcTst pmTst anTst cdTst ctTst), slTst⟩)
    (cTst : PySem.W.codeIn K cdTst "_law_test" = true)
    (kTst : PySem.W.keepIn K (.ref fTst) = true)
    (aDo : PySem.W.nsIn K mainGlobals "_law_do" = some (some (.ref fDo)))
    (lDo : K.lookup fDo = some ⟨ocDo, odDo, .func (PySem.W.fnOf "_law_do" "_law_do" (defArgs sDo) (defBody sDo) (defScope sDo) .none kVDo dcDo pmDo anDo cdDo ctDo), slDo⟩)
    (cDo : PySem.W.codeIn K cdDo "_law_do" = true)
    (kDo : PySem.W.keepIn K (.ref fDo) = true)
    (aDO : PySem.W.nsIn K mainGlobals "_law_do_one" = some (some (.ref fDO)))
    (lDO : K.lookup fDO = some ⟨ocDO, odDO, .func (PySem.W.fnOf "_law_do_one" "_law_do_one" (defArgs sDO) (defBody sDO) (defScope sDO) .none kVDO dcDO pmDO anDO cdDO ctDO), slDO⟩)
    (cDO : PySem.W.codeIn K cdDO "_law_do_one" = true)
    (kDO : PySem.W.keepIn K (.ref fDO) = true)
    (aTold : PySem.W.nsIn K mainGlobals "_law_told" = some (some (.ref fTold)))
    (lTold : K.lookup fTold = some ⟨ocTold, odTold, .func (PySem.W.fnOf "_law_told" "_law_told" (defArgs sTold) (defBody sTold) (defScope sTold) .none kVTold dcTold pmTold anTold cdTold ctTold), slTold⟩)
    (cTold : PySem.W.codeIn K cdTold "_law_told" = true)
    (kTold : PySem.W.keepIn K (.ref fTold) = true)
    (aNear : PySem.W.nsIn K mainGlobals "_law_near" = some (some (.ref fNear)))
    (lNear : K.lookup fNear = some ⟨ocNear, odNear, .func (PySem.W.fnOf "_law_near" "_law_near" (defArgs sNear) (defBody sNear) (defScope sNear) .none kVNear dcNear pmNear anNear cdNear ctNear), slNear⟩)
    (cNear : PySem.W.codeIn K cdNear "_law_near" = true)
    (kNear : PySem.W.keepIn K (.ref fNear) = true)
    (aLaw : PySem.W.nsIn K mainGlobals "law" = some (some (.ref fLaw)))
    (lLaw : K.lookup fLaw = some ⟨ocLaw, odLaw, .func (PySem.W.fnOf "law" "law" (defArgs sLaw) (defBody sLaw) (defScope sLaw) .none kVLaw dcLaw pmLaw anLaw cdLaw ctLaw), slLaw⟩)
    (cLaw : PySem.W.codeIn K cdLaw "law" = true)
    (kLaw : PySem.W.keepIn K (.ref fLaw) = true)
    (zisinstance : PySem.W.nsIn K mainGlobals "isinstance" = some none)
    (zint : PySem.W.nsIn K mainGlobals "int" = some none)
    (zbool : PySem.W.nsIn K mainGlobals "bool" = some none)
    (zstr : PySem.W.nsIn K mainGlobals "str" = some none)
    (ztuple : PySem.W.nsIn K mainGlobals "tuple" = some none)
    (zlen : PySem.W.nsIn K mainGlobals "len" = some none)
    (zzip : PySem.W.nsIn K mainGlobals "zip" = some none)
    (zall : PySem.W.nsIn K mainGlobals "all" = some none)
    (zabs : PySem.W.nsIn K mainGlobals "abs" = some none)
    (zmax : PySem.W.nsIn K mainGlobals "max" = some none)
    (zmin : PySem.W.nsIn K mainGlobals "min" = some none)
    (zrange : PySem.W.nsIn K mainGlobals "range" = some none)
    (zlist : PySem.W.nsIn K mainGlobals "list" = some none)
    (zsorted : PySem.W.nsIn K mainGlobals "sorted" = some none)
    (zdict : PySem.W.nsIn K mainGlobals "dict" = some none)
    (gG : PySem.W.nsIn K mainGlobals "GREATEST_VALUE" = some (some (.int 15 tG)))
    (gL : PySem.W.nsIn K mainGlobals "LONGEST_WAIT" = some (some (.int longest tL)))
    (gS : PySem.W.nsIn K mainGlobals "MOST_STATEMENTS" = some (some (.int 24 tS)))
    (gD : PySem.W.nsIn K mainGlobals "MOST_DEPTH" = some (some (.int 4 tD)))
    (mV : PySem.W.nsIn K mainGlobals "VARIABLES" = some (some (.ref aV)))
    (qV : K.lookup aV = some ⟨.type "tuple", odV, .seq #[.str "a" tV0, .str "b" tV1] nV, slV⟩)
    (mC : PySem.W.nsIn K mainGlobals "CONDITION_SIGNS" = some (some (.ref aC)))
    (qC : K.lookup aC = some ⟨.type "tuple", odC, .seq #[.str "==" tC0, .str "!=" tC1, .str "<" tC2] nC, slC⟩)
    (mA : PySem.W.nsIn K mainGlobals "ASK_SIGNS" = some (some (.ref aA)))
    (qA : K.lookup aA = some ⟨.type "tuple", odA, .seq #[.str "+" tA0, .str "-" tA1, .str "=" tA2] nA, slA⟩)
    (mK : PySem.W.nsIn K mainGlobals "KINDS" = some (some (.ref aK)))
    (qK : K.lookup aK = some ⟨.type "tuple", odK, .seq #[.str "teller" tK0, .str "collector" tK1] nK, slK⟩)
    (mB : PySem.W.nsIn K mainGlobals "BODIES" = some (some (.ref aB)))
    (qB : K.lookup aB = some ⟨.type "dict", none, .dict #[⟨hB0, .str "if" tB0, .int 2 tB2⟩, ⟨hB1, .str "while" tB1, .int 1 tB3⟩] nB, #[]⟩)
    (yB : PySem.W.KeysLit w.params (#[⟨hB0, .str "if" tB0, .int 2 tB2⟩, ⟨hB1, .str "while" tB1, .int 1 tB3⟩] : Array DictEntry).toList)
    (wB : (aB == sysModules) = false)
    (mSh : PySem.W.nsIn K mainGlobals "SHARED_ROLES" = some (some (.ref aSh)))
    (qSh : K.lookup aSh = some ⟨.type "dict", none, .dict #[⟨hSh0, .str "set" tSh0, .ref aSh0⟩, ⟨hSh1, .str "add" tSh1, .ref aSh1⟩, ⟨hSh2, .str "wait" tSh2, .ref aSh2⟩] nSh, #[]⟩)
    (ySh : PySem.W.KeysLit w.params (#[⟨hSh0, .str "set" tSh0, .ref aSh0⟩, ⟨hSh1, .str "add" tSh1, .ref aSh1⟩, ⟨hSh2, .str "wait" tSh2, .ref aSh2⟩] : Array DictEntry).toList)
    (wSh : (aSh == sysModules) = false)
    (qSh0 : K.lookup aSh0 = some ⟨.type "tuple", odSh0, .seq #[.str "variable" tSh00, .str "value" tSh01] nSh0, slSh0⟩)
    (qSh1 : K.lookup aSh1 = some ⟨.type "tuple", odSh1, .seq #[.str "variable" tSh10, .str "term" tSh11] nSh1, slSh1⟩)
    (qSh2 : K.lookup aSh2 = some ⟨.type "tuple", odSh2, .seq #[.str "steps" tSh20] nSh2, slSh2⟩)
    (mTe : PySem.W.nsIn K mainGlobals "TELLER_ROLES" = some (some (.ref aTe)))
    (qTe : K.lookup aTe = some ⟨.type "dict", none, .dict #[⟨hTe0, .str "ask" tTe0, .ref aTe0⟩, ⟨hTe1, .str "answer" tTe1, .ref aTe1⟩] nTe, #[]⟩)
    (yTe : PySem.W.KeysLit w.params (#[⟨hTe0, .str "ask" tTe0, .ref aTe0⟩, ⟨hTe1, .str "answer" tTe1, .ref aTe1⟩] : Array DictEntry).toList)
    (wTe : (aTe == sysModules) = false)
    (qTe0 : K.lookup aTe0 = some ⟨.type "tuple", odTe0, .seq #[.str "sign" tTe00, .str "term" tTe01, .str "variable" tTe02] nTe0, slTe0⟩)
    (qTe1 : K.lookup aTe1 = some ⟨.type "tuple", odTe1, .seq #[.str "answer" tTe10] nTe1, slTe1⟩)
    (mCo : PySem.W.nsIn K mainGlobals "COLLECTOR_ROLES" = some (some (.ref aCo)))
    (qCo : K.lookup aCo = some ⟨.type "dict", none, .dict #[⟨hCo0, .str "grow" tCo0, .ref aCo0⟩, ⟨hCo1, .str "list" tCo1, .ref aCo1⟩] nCo, #[]⟩)
    (yCo : PySem.W.KeysLit w.params (#[⟨hCo0, .str "grow" tCo0, .ref aCo0⟩, ⟨hCo1, .str "list" tCo1, .ref aCo1⟩] : Array DictEntry).toList)
    (wCo : (aCo == sysModules) = false)
    (qCo0 : K.lookup aCo0 = some ⟨.type "tuple", odCo0, .seq #[.str "term" tCo00] nCo0, slCo0⟩)
    (qCo1 : K.lookup aCo1 = some ⟨.type "tuple", odCo1, .seq #[.str "term" tCo10] nCo1, slCo1⟩)
    (ucW : PySem.W.nsIn K mainGlobals "Walk" = some (some (.ref cW)))
    (ucT : PySem.W.nsIn K mainGlobals "TellerWalk" = some (some (.ref cT)))
    (ucR : PySem.W.nsIn K mainGlobals "Run" = some (some (.ref cR)))
    (aEar : PySem.W.findIn K (.ref cT) "earlier" = some (some (.ref fEar)))
    (iEar : PySem.W.isFn K (.ref fEar) = true)
    (lEar : K.lookup fEar = some ⟨ocEar, odEar, .func (PySem.W.fnOf "earlier" "Walk.earlier" (defArgs sEar) (defBody sEar) (defScope sEar) .none kVEar dcEar pmEar anEar cdEar ctEar), slEar⟩)
    (cEar : PySem.W.codeIn K cdEar "Walk.earlier" = true)
    (kEar : PySem.W.keepIn K (.ref fEar) = true)
    (aUp : PySem.W.findIn K (.ref cT) "upcoming" = some (some (.ref fUp)))
    (iUp : PySem.W.isFn K (.ref fUp) = true)
    (lUp : K.lookup fUp = some ⟨ocUp, odUp, .func (PySem.W.fnOf "upcoming" "Walk.upcoming" (defArgs sUp) (defBody sUp) (defScope sUp) .none kVUp dcUp pmUp anUp cdUp ctUp), slUp⟩)
    (cUp : PySem.W.codeIn K cdUp "Walk.upcoming" = true)
    (kUp : PySem.W.keepIn K (.ref fUp) = true)
    (aWor : PySem.W.findIn K (.ref cT) "worth" = some (some (.ref fWor)))
    (iWor : PySem.W.isFn K (.ref fWor) = true)
    (lWor : K.lookup fWor = some ⟨ocWor, odWor, .func (PySem.W.fnOf "worth" "Walk.worth" (defArgs sWorth) (defBody sWorth) (defScope sWorth) .none kVWor dcWor pmWor anWor cdWor ctWor), slWor⟩)
    (cWor : PySem.W.codeIn K cdWor "Walk.worth" = true)
    (kWor : PySem.W.keepIn K (.ref fWor) = true)
    (aTru : PySem.W.findIn K (.ref cT) "is_true" = some (some (.ref fTru)))
    (iTru : PySem.W.isFn K (.ref fTru) = true)
    (lTru : K.lookup fTru = some ⟨ocTru, odTru, .func (PySem.W.fnOf "is_true" "Walk.is_true" (defArgs sTrue) (defBody sTrue) (defScope sTrue) .none kVTru dcTru pmTru anTru cdTru ctTru), slTru⟩)
    (cTru : PySem.W.codeIn K cdTru "Walk.is_true" = true)
    (kTru : PySem.W.keepIn K (.ref fTru) = true)
    (aTak : PySem.W.findIn K (.ref cT) "take" = some (some (.ref fTak)))
    (iTak : PySem.W.isFn K (.ref fTak) = true)
    (lTak : K.lookup fTak = some ⟨ocTak, odTak, .func (PySem.W.fnOf "take" "Walk.take" (defArgs sTake) (defBody sTake) (defScope sTake) .none kVTak dcTak pmTak anTak cdTak ctTak), slTak⟩)
    (cTak : PySem.W.codeIn K cdTak "Walk.take" = true)
    (kTak : PySem.W.keepIn K (.ref fTak) = true)
    (aFol : PySem.W.findIn K (.ref cT) "follower" = some (some (.ref fFol)))
    (iFol : PySem.W.isFn K (.ref fFol) = true)
    (lFol : K.lookup fFol = some ⟨ocFol, odFol, .func (PySem.W.fnOf "follower" "Walk.follower" (defArgs sFol) (defBody sFol) (defScope sFol) .none kVFol dcFol pmFol anFol cdFol ctFol), slFol⟩)
    (cFol : PySem.W.codeIn K cdFol "Walk.follower" = true)
    (kFol : PySem.W.keepIn K (.ref fFol) = true)
    (aPl : PySem.W.findIn K (.ref cT) "place_of" = some (some (.ref fPl)))
    (iPl : PySem.W.isFn K (.ref fPl) = true)
    (lPl : K.lookup fPl = some ⟨ocPl, odPl, .func (PySem.W.fnOf "place_of" "TellerWalk.place_of" (defArgs sPl) (defBody sPl) (defScope sPl) .none kVPl dcPl pmPl anPl cdPl ctPl), slPl⟩)
    (cPl : PySem.W.codeIn K cdPl "TellerWalk.place_of" = true)
    (kPl : PySem.W.keepIn K (.ref fPl) = true)
    (aAsk : PySem.W.findIn K (.ref cT) "ask" = some (some (.ref fAsk)))
    (iAsk : PySem.W.isFn K (.ref fAsk) = true)
    (lAsk : K.lookup fAsk = some ⟨ocAsk, odAsk, .func (PySem.W.fnOf "ask" "TellerWalk.ask" (defArgs sAsk) (defBody sAsk) (defScope sAsk) .none kVAsk dcAsk pmAsk anAsk cdAsk ctAsk), slAsk⟩)
    (cAsk : PySem.W.codeIn K cdAsk "TellerWalk.ask" = true)
    (kAsk : PySem.W.keepIn K (.ref fAsk) = true)
    (aAP : PySem.W.findIn K (.ref cT) "asked_places" = some (some (.ref fAP)))
    (iAP : PySem.W.isFn K (.ref fAP) = true)
    (lAP : K.lookup fAP = some ⟨ocAP, odAP, .func (PySem.W.fnOf "asked_places" "TellerWalk.asked_places" (defArgs sAP) (defBody sAP) (defScope sAP) .none kVAP dcAP pmAP anAP cdAP ctAP), slAP⟩)
    (cAP : PySem.W.codeIn K cdAP "TellerWalk.asked_places" = true)
    (kAP : PySem.W.keepIn K (.ref fAP) = true)
    (aTI : PySem.W.findIn K (.ref cT) "__init__" = some (some (.ref fTI)))
    (iTI : PySem.W.isFn K (.ref fTI) = true)
    (lTI : K.lookup fTI = some ⟨ocTI, odTI, .func (PySem.W.fnOf "__init__" "TellerWalk.__init__" (defArgs sTI) (defBody sTI) (defScope sTI) .none kVTI dcTI pmTI anTI cdTI ctTI), slTI⟩)
    (cTI : PySem.W.codeIn K cdTI "TellerWalk.__init__" = true)
    (kTI : PySem.W.keepIn K (.ref fTI) = true)
    (rdW : PySem.W.readsIn K cW (.type "type") = true)
    (gaW : PySem.W.specialIn K (.ref cW) "__getattribute__" = some (some (.builtin "type.__getattribute__")))
    (fcW : PySem.W.findCls K (.ref cW) (.type "type") "__init__" = some (.val (.ref fWI)))
    (lWI : K.lookup fWI = some ⟨ocWI, odWI, .func (PySem.W.fnOf "__init__" "Walk.__init__" (defArgs sWI) (defBody sWI) (defScope sWI) .none kVWI dcWI pmWI anWI cdWI ctWI), slWI⟩)
    (cWI : PySem.W.codeIn K cdWI "Walk.__init__" = true)
    (kWI : PySem.W.keepIn K (.ref fWI) = true)
    (pgT : PySem.W.plainGet K cT Str.empty = true)
    (hdT : PySem.W.hasDictIn K cT = true)
    (poT : PySem.W.plainOver K cT = true)
    (saT : PySem.W.findIn K (.ref cT) "__setattr__" = some (some (.builtin "object.__setattr__")))
    (mkT : PySem.W.makesIn K cT = true)
    (kcT : PySem.W.keepIn K (.ref cT) = true)
    (nT_code : PySem.W.findIn K (.ref cT) "code" = some none)
    (nT_at : PySem.W.findIn K (.ref cT) "at" = some none)
    (nT_held : PySem.W.findIn K (.ref cT) "held" = some none)
    (nT_counter : PySem.W.findIn K (.ref cT) "counter" = some none)
    (nT_taken : PySem.W.findIn K (.ref cT) "taken" = some none)
    (nT_seen : PySem.W.findIn K (.ref cT) "seen" = some none)
    (nT_position : PySem.W.findIn K (.ref cT) "position" = some none)
    (nT_present : PySem.W.findIn K (.ref cT) "present" = some none)
    (nT_questions : PySem.W.findIn K (.ref cT) "questions" = some none)
    (pgR : PySem.W.plainGet K cR Str.empty = true)
    (hdR : PySem.W.hasDictIn K cR = true)
    (poR : PySem.W.plainOver K cR = true)
    (saR : PySem.W.findIn K (.ref cR) "__setattr__" = some (some (.builtin "object.__setattr__")))
    (mkR : PySem.W.makesIn K cR = true)
    (kcR : PySem.W.keepIn K (.ref cR) = true)
    (nR_outcome : PySem.W.findIn K (.ref cR) "outcome" = some none)
    (nR_answer : PySem.W.findIn K (.ref cR) "answer" = some none)
    (nR_length : PySem.W.findIn K (.ref cR) "length" = some none)
    (nR_first : PySem.W.findIn K (.ref cR) "first" = some none)
    (nR_second : PySem.W.findIn K (.ref cR) "second" = some none)
    (nR_asked : PySem.W.findIn K (.ref cR) "asked" = some none)
    (aRI : PySem.W.findIn K (.ref cR) "__init__" = some (some (.ref fRI)))
    (iRI : PySem.W.isFn K (.ref fRI) = true)
    (lRI : K.lookup fRI = some ⟨ocRI, odRI, .func (PySem.W.fnOf "__init__" "Run.__init__" (defArgs sRI) (defBody sRI) (defScope sRI) (.ref TRI) kVRI dcRI pmRI anRI cdRI ctRI), slRI⟩)
    (cRI : PySem.W.codeIn K cdRI "Run.__init__" = true)
    (kRI : PySem.W.keepIn K (.ref fRI) = true)
    (tRI : K.lookup TRI = some ⟨.type "tuple", toRI, .seq [.none, .none, .none, .none].toArray nRI, tsRI⟩)
    (aTR : PySem.W.nsIn K mainGlobals "teller_run" = some (some (.ref fTR)))
    (lTR : K.lookup fTR = some ⟨ocTR, odTR, .func (PySem.W.fnOf "teller_run" "teller_run" (defArgs sTR) (defBody sTR) (defScope sTR) (.ref TTR) kVTR dcTR pmTR anTR cdTR ctTR), slTR⟩)
    (cTR : PySem.W.codeIn K cdTR "teller_run" = true)
    (kTR : PySem.W.keepIn K (.ref fTR) = true)
    (tTR : K.lookup TTR = some ⟨.type "tuple", toTR, .seq [.none].toArray nTR, tsTR⟩)
    (aRun : PySem.W.nsIn K mainGlobals "run" = some (some (.ref fRun)))
    (lRun : K.lookup fRun = some ⟨ocRun, odRun, .func (PySem.W.fnOf "run" "run" (defArgs sRun) (defBody sRun) (defScope sRun) .none (.ref DRun) dcRun pmRun anRun cdRun ctRun), slRun⟩)
    (cRun : PySem.W.codeIn K cdRun "run" = true)
    (kRun : PySem.W.keepIn K (.ref fRun) = true)
    (dRun : PySem.W.nsIn K DRun "limit" = some (some .none))
    : ∃ fd : FuncData, (∀ (s : Shared) (v : Value), BindsTo s fd ⟨[v], []⟩ [("_law_script", v)]) ∧ ∀ base : Heap, K.In base → base.Ns mainGlobals mg → FnOk l.prog w K mg base CX0 17 fa fd ["_law_script"] (spLaw K) := by
  have e := hfa.symm.trans (PySem.W.mg_of X G aLaw)
  cases e
  have FFrom := fun_mk (st := sFrom) lFrom cFrom kFrom
  have bFrom := FFrom.binds (ps := ["thing", "least"]) fun _ _ _ _ _ _ us hl => match us, hl with | [_, _], _ => rfl
  have FInt := fun_mk (st := sInt) lInt cInt kInt
  have bInt := FInt.binds (ps := ["thing", "least", "greatest"]) fun _ _ _ _ _ _ us hl => match us, hl with | [_, _, _], _ => rfl
  have FTerm := fun_mk (st := sTerm) lTerm cTerm kTerm
  have bTerm := FTerm.binds (ps := ["thing"]) fun _ _ _ _ _ _ us hl => match us, hl with | [_], _ => rfl
  have FCond := fun_mk (st := sCond) lCond cCond kCond
  have bCond := FCond.binds (ps := ["thing"]) fun _ _ _ _ _ _ us hl => match us, hl with | [_], _ => rfl
  have FPart := fun_mk (st := sPart) lPart cPart kPart
  have bPart := FPart.binds (ps := ["thing", "role"]) fun _ _ _ _ _ _ us hl => match us, hl with | [_, _], _ => rfl
  have FWord := fun_mk (st := sWord) lWord cWord kWord
  have bWord := FWord.binds (ps := ["thing"]) fun _ _ _ _ _ _ us hl => match us, hl with | [_], _ => rfl
  have FRoles := fun_mk (st := sRoles) lRoles cRoles kRoles
  have bRoles := FRoles.binds (ps := ["word", "kind"]) fun _ _ _ _ _ _ us hl => match us, hl with | [_, _], _ => rfl
  have FPlain := fun_mk (st := sPlain) lPlain cPlain kPlain
  have bPlain := FPlain.binds (ps := ["thing", "kind"]) fun _ _ _ _ _ _ us hl => match us, hl with | [_, _], _ => rfl
  have FOut := fun_mk (st := sOut) lOut cOut kOut
  have bOut := FOut.binds (ps := ["thing", "kind"]) fun _ _ _ _ _ _ us hl => match us, hl with | [_, _], _ => rfl
  have FBodies := fun_mk (st := sBodies) lBodies cBodies kBodies
  have bBodies := FBodies.binds (ps := ["statement"]) fun _ _ _ _ _ _ us hl => match us, hl with | [_], _ => rfl
  have FProg := fun_mk (st := sProg) lProg cProg kProg
  have bProg := FProg.binds (ps := ["thing"]) fun _ _ _ _ _ _ us hl => match us, hl with | [_], _ => rfl
  have FAsm := fun_mk (st := sAsm) lAsm cAsm kAsm
  have bAsm := FAsm.binds (ps := ["program"]) fun _ _ _ _ _ _ us hl => match us, hl with | [_], _ => rfl
  have FBC := fun_mk (st := sBC) lBC cBC kBC
  have bBC := FBC.binds (ps := ["body", "start"]) fun _ _ _ _ _ _ us hl => match us, hl with | [_, _], _ => rfl
  have FSC := fun_mk (st := sSC) lSC cSC kSC
  have bSC := FSC.binds (ps := ["statement", "start"]) fun _ _ _ _ _ _ us hl => match us, hl with | [_, _], _ => rfl
  have FWC := fun_mk (st := sWC) lWC cWC kWC
  have bWC := FWC.binds (ps := ["statement", "start"]) fun _ _ _ _ _ _ us hl => match us, hl with | [_, _], _ => rfl
  have FIC := fun_mk (st := sIC) lIC cIC kIC
  have bIC := FIC.binds (ps := ["statement", "start"]) fun _ _ _ _ _ _ us hl => match us, hl with | [_, _], _ => rfl
  have FCost := fun_mk (st := sCost) lCost cCost kCost
  have bCost := FCost.binds (ps := ["instruction"]) fun _ _ _ _ _ _ us hl => match us, hl with | [_], _ => rfl
  have FRep := fun_mk (st := sRep) lRep cRep kRep
  have bRep := FRep.binds (ps := ["walk", "first", "limit"]) fun _ _ _ _ _ _ us hl => match us, hl with | [_, _, _], _ => rfl
  have FBag := fun_mk (st := sBag) lBag cBag kBag
  have bBag := FBag.binds (ps := ["_law_script", "_law_k"]) fun _ _ _ _ _ _ us hl => match us, hl with | [_, _], _ => rfl
  have FDraw := fun_mk (st := sDraw) lDraw cDraw kDraw
  have bDraw := FDraw.binds (ps := ["_law_bag_here", "_law_many"]) fun _ _ _ _ _ _ us hl => match us, hl with | [_, _], _ => rfl
  have FLarge := fun_mk (st := sLarge) lLarge cLarge kLarge
  have bLarge := FLarge.binds (ps := ["_law_bag_here", "_law_many"]) fun _ _ _ _ _ _ us hl => match us, hl with | [_, _], _ => rfl
  have FSteps := fun_mk (st := sSteps) lSteps cSteps kSteps
  have bSteps := FSteps.binds (ps := ["_law_bag_here"]) fun _ _ _ _ _ _ us hl => match us, hl with | [_], _ => rfl
  have FTermL := fun_mk (st := sTermL) lTermL cTermL kTermL
  have bTermL := FTermL.binds (ps := ["_law_bag_here"]) fun _ _ _ _ _ _ us hl => match us, hl with | [_], _ => rfl
  have FCondL := fun_mk (st := sCondL) lCondL cCondL kCondL
  have bCondL := FCondL.binds (ps := ["_law_bag_here"]) fun _ _ _ _ _ _ us hl => match us, hl with | [_], _ => rfl
  have FSimple := fun_mk (st := sSimple) lSimple cSimple kSimple
  have bSimple := FSimple.binds (ps := ["_law_bag_here", "_law_kind"]) fun _ _ _ _ _ _ us hl => match us, hl with | [_, _], _ => rfl
  have FStmt := fun_mk (st := sStmt) lStmt cStmt kStmt
  have bStmt := FStmt.binds (ps := ["_law_bag_here", "_law_kind", "_law_room", "_law_depth"]) fun _ _ _ _ _ _ us hl => match us, hl with | [_, _, _, _], _ => rfl
  have FBody := fun_mk (st := sBody) lBody cBody kBody
  have bBody := FBody.binds (ps := ["_law_bag_here", "_law_kind", "_law_room", "_law_depth", "_law_most"]) fun _ _ _ _ _ _ us hl => match us, hl with | [_, _, _, _, _], _ => rfl
  have FProgL := fun_mk (st := sProgL) lProgL cProgL kProgL
  have bProgL := FProgL.binds (ps := ["_law_bag_here", "_law_kind", "_law_most"]) fun _ _ _ _ _ _ us hl => match us, hl with | [_, _, _], _ => rfl
  have FWhole := fun_mk (st := sWhole) lWhole cWhole kWhole
  have bWhole := FWhole.binds (ps := ["_law_thing"]) fun _ _ _ _ _ _ us hl => match us, hl with | [_], _ => rfl
  have FLC := fun_mk (st := sLC) lLC cLC kLC
  have bLC := FLC.binds (ps := ["_law_body_here", "_law_code_here"]) fun _ _ _ _ _ _ us hl => match us, hl with | [_, _], _ => rfl
  have FTO := fun_mk (st := sTO) lTO cTO kTO
  have bTO := FTO.binds (ps := ["_law_term_here", "_law_state"]) fun _ _ _ _ _ _ us hl => match us, hl with | [_, _], _ => rfl
  have FTr := fun_mk (st := sTr) lTr cTr kTr
  have bTr := FTr.binds (ps := ["_law_condition_here", "_law_state"]) fun _ _ _ _ _ _ us hl => match us, hl with | [_, _], _ => rfl
  have FNx := fun_mk (st := sNx) lNx cNx kNx
  have bNx := FNx.binds (ps := ["_law_step", "_law_state", "_law_answer"]) fun _ _ _ _ _ _ us hl => match us, hl with | [_, _, _], _ => rfl
  have FPlc := fun_mk (st := sPlc) lPlc cPlc kPlc
  have bPlc := FPlc.binds (ps := ["_law_step", "_law_state", "_law_position"]) fun _ _ _ _ _ _ us hl => match us, hl with | [_, _, _], _ => rfl
  have FTst := fun_mk (st := sTe) lTst cTst kTst
  have bTst := FTst.binds (ps := ["_law_condition_here", "_law_world"]) fun _ _ _ _ _ _ us hl => match us, hl with | [_, _], _ => rfl
  have FDo := fun_mk (st := sDo) lDo cDo kDo
  have bDo := FDo.binds (ps := ["_law_body_here", "_law_world"]) fun _ _ _ _ _ _ us hl => match us, hl with | [_, _], _ => rfl
  have FDO := fun_mk (st := sDO) lDO cDO kDO
  have bDO := FDO.binds (ps := ["_law_statement_here", "_law_world"]) fun _ _ _ _ _ _ us hl => match us, hl with | [_, _], _ => rfl
  have FTold := fun_mk (st := sTold) lTold cTold kTold
  have bTold := FTold.binds (ps := ["_law_found"]) fun _ _ _ _ _ _ us hl => match us, hl with | [_], _ => rfl
  have FNear := fun_mk (st := sNear) lNear cNear kNear
  have bNear := FNear.binds (ps := ["_law_bag_here", "_law_position"]) fun _ _ _ _ _ _ us hl => match us, hl with | [_, _], _ => rfl
  have FLaw := fun_mk (st := sLaw) lLaw cLaw kLaw
  let T : Gs K mg := ⟨PySem.W.mg_none_of X G zisinstance, PySem.W.mg_none_of X G zint, PySem.W.mg_none_of X G zbool, PySem.W.mg_none_of X G zstr, PySem.W.mg_none_of X G ztuple, PySem.W.mg_none_of X G zlen, PySem.W.mg_none_of X G zzip, PySem.W.mg_none_of X G zall,
    aV, PySem.W.mg_of X G mV, sqt_of qV (by show 2 ≤ sizeLine; decide) (.cons ⟨_, rfl⟩ (.cons ⟨_, rfl⟩ (.nil))), aC, PySem.W.mg_of X G mC, sqt_of qC (by show 3 ≤ sizeLine; decide) (.cons ⟨_, rfl⟩ (.cons ⟨_, rfl⟩ (.cons ⟨_, rfl⟩ (.nil)))), aA, PySem.W.mg_of X G mA, sqt_of qA (by show 3 ≤ sizeLine; decide) (.cons ⟨_, rfl⟩ (.cons ⟨_, rfl⟩ (.cons ⟨_, rfl⟩ (.nil)))), aK, PySem.W.mg_of X G mK, sqt_of qK (by show 2 ≤ sizeLine; decide) (.cons ⟨_, rfl⟩ (.cons ⟨_, rfl⟩ (.nil))),
    tG, PySem.W.mg_of X G gG, tL, PySem.W.mg_of X G gL, tS, PySem.W.mg_of X G gS, tD, PySem.W.mg_of X G gD⟩
  have T2 : G2 mg := ⟨PySem.W.mg_none_of X G zabs, PySem.W.mg_none_of X G zmax, PySem.W.mg_none_of X G zmin, PySem.W.mg_none_of X G zrange⟩
  have mlist := PySem.W.mg_none_of X G zlist
  let D : Gd K w mg := ⟨aB, PySem.W.mg_of X G mB, ⟨⟨_, _, qB, yB, .cons ⟨_, rfl⟩ (.cons ⟨_, rfl⟩ (.nil))⟩, wB⟩,
    aSh, aSh0, aSh1, aSh2, PySem.W.mg_of X G mSh, ⟨⟨_, _, qSh, ySh, .cons rfl (.cons rfl (.cons rfl (.nil)))⟩, wSh⟩, sqt_of qSh0 (by show 2 ≤ sizeLine; decide) (.cons ⟨_, rfl⟩ (.cons ⟨_, rfl⟩ (.nil))), sqt_of qSh1 (by show 2 ≤ sizeLine; decide) (.cons ⟨_, rfl⟩ (.cons ⟨_, rfl⟩ (.nil))), sqt_of qSh2 (by show 1 ≤ sizeLine; decide) (.cons ⟨_, rfl⟩ (.nil)),
    aTe, aTe0, aTe1, PySem.W.mg_of X G mTe, ⟨⟨_, _, qTe, yTe, .cons rfl (.cons rfl (.nil))⟩, wTe⟩, sqt_of qTe0 (by show 3 ≤ sizeLine; decide) (.cons ⟨_, rfl⟩ (.cons ⟨_, rfl⟩ (.cons ⟨_, rfl⟩ (.nil)))), sqt_of qTe1 (by show 1 ≤ sizeLine; decide) (.cons ⟨_, rfl⟩ (.nil)),
    aCo, aCo0, aCo1, PySem.W.mg_of X G mCo, ⟨⟨_, _, qCo, yCo, .cons rfl (.cons rfl (.nil))⟩, wCo⟩, sqt_of qCo0 (by show 1 ≤ sizeLine; decide) (.cons ⟨_, rfl⟩ (.nil)), sqt_of qCo1 (by show 1 ≤ sizeLine; decide) (.cons ⟨_, rfl⟩ (.nil))⟩
  have FEar := fun_mk (st := sEar) lEar cEar kEar
  have bEar := FEar.binds (ps := ["self"]) fun _ _ _ _ _ _ us hl => match us, hl with | [_], _ => rfl
  have FUp := fun_mk (st := sUp) lUp cUp kUp
  have bUp := FUp.binds (ps := ["self"]) fun _ _ _ _ _ _ us hl => match us, hl with | [_], _ => rfl
  have FWor := fun_mk (st := sWorth) lWor cWor kWor
  have bWor := FWor.binds (ps := ["self", "term"]) fun _ _ _ _ _ _ us hl => match us, hl with | [_, _], _ => rfl
  have FTru := fun_mk (st := sTrue) lTru cTru kTru
  have bTru := FTru.binds (ps := ["self", "condition"]) fun _ _ _ _ _ _ us hl => match us, hl with | [_, _], _ => rfl
  have FTak := fun_mk (st := sTake) lTak cTak kTak
  have bTak := FTak.binds (ps := ["self", "instruction"]) fun _ _ _ _ _ _ us hl => match us, hl with | [_, _], _ => rfl
  have FFol := fun_mk (st := sFol) lFol cFol kFol
  have bFol := FFol.binds (ps := ["self", "instruction"]) fun _ _ _ _ _ _ us hl => match us, hl with | [_, _], _ => rfl
  have FPl := fun_mk (st := sPl) lPl cPl kPl
  have bPl := FPl.binds (ps := ["self", "sign", "term"]) fun _ _ _ _ _ _ us hl => match us, hl with | [_, _, _], _ => rfl
  have FAsk := fun_mk (st := sAsk) lAsk cAsk kAsk
  have bAsk := FAsk.binds (ps := ["self", "instruction"]) fun _ _ _ _ _ _ us hl => match us, hl with | [_, _], _ => rfl
  have FAP := fun_mk (st := sAP) lAP cAP kAP
  have bAP := FAP.binds (ps := ["self"]) fun _ _ _ _ _ _ us hl => match us, hl with | [_], _ => rfl
  have FTI := fun_mk (st := sTI) lTI cTI kTI
  have bTI := FTI.binds (ps := ["self", "code", "position", "members"]) fun _ _ _ _ _ _ us hl => match us, hl with | [_, _, _, _], _ => rfl
  have FWI := fun_mk (st := sWI) lWI cWI kWI
  have bWI := FWI.binds (ps := ["self", "code"]) fun _ _ _ _ _ _ us hl => match us, hl with | [_, _], _ => rfl
  have WT : WC K cT := ⟨⟨pgT, hdT, poT, saT⟩, nT_code, nT_at, nT_held, nT_counter, nT_taken, nT_seen⟩
  have CT : TC K cT := ⟨WT, nT_position, nT_present, nT_questions⟩
  have NR : RNo K cR := ⟨⟨pgR, hdR, poR, saR⟩, nR_outcome, nR_answer, nR_length, nR_first, nR_second, nR_asked⟩
  have FRI := fund_d (st := sRI) (dvs := nones4) lRI cRI kRI tRI (by simp) (.cons rfl (.cons rfl (.cons rfl (.cons rfl .nil))))
  have FTR := fund_d (st := sTR) (dvs := [V.non]) lTR cTR kTR tTR (by simp) (.cons rfl .nil)
  have FRun := fund_k (st := sRun) (y := "limit") lRun cRun kRun dRun
  have msorted := PySem.W.mg_none_of X G zsorted
  have mdict := PySem.W.mg_none_of X G zdict
  refine ⟨PySem.W.fnOf "law" "law" (defArgs sLaw) (defBody sLaw) (defScope sLaw) .none kVLaw dcLaw pmLaw anLaw cdLaw ctLaw, fun s v => .of_eq rfl, fun base _ _ => ?_⟩
  let CFrom : Cal l.prog w K mg base 1 "is_integer_from" ["thing", "least"] (spFrom K) := ⟨_, _, ok_from FFrom T, bFrom, kFrom, PySem.W.mg_of X G aFrom⟩
  let CInt : Cal l.prog w K mg base 2 "is_integer_from_to" ["thing", "least", "greatest"] (spInt K) := ⟨_, _, ok_int FInt CFrom, bInt, kInt, PySem.W.mg_of X G aInt⟩
  let CTerm : Cal l.prog w K mg base 3 "is_term" ["thing"] (sp1 isTerm K) := ⟨_, _, ok_term FTerm T CInt, bTerm, kTerm, PySem.W.mg_of X G aTerm⟩
  let CCond : Cal l.prog w K mg base 4 "is_condition" ["thing"] (sp1 isCond K) := ⟨_, _, ok_cond FCond T CTerm, bCond, kCond, PySem.W.mg_of X G aCond⟩
  let CPart : Cal l.prog w K mg base 4 "is_part" ["thing", "role"] (spPart K) := ⟨_, _, ok_part FPart T CInt CTerm, bPart, kPart, PySem.W.mg_of X G aPart⟩
  let CWord : Cal l.prog w K mg base 1 "word_of" ["thing"] (spWord K) := ⟨_, _, ok_word FWord T, bWord, kWord, PySem.W.mg_of X G aWord⟩
  let CRoles : Cal l.prog w K mg base 1 "roles_of" ["word", "kind"] (spRoles K) := ⟨_, _, ok_roles FRoles D, bRoles, kRoles, PySem.W.mg_of X G aRoles⟩
  let CPlain : Cal l.prog w K mg base 5 "is_plain_statement" ["thing", "kind"] (sp2 isPlain K) := ⟨_, _, ok_plain FPlain T CWord CRoles CPart, bPlain, kPlain, PySem.W.mg_of X G aPlain⟩
  let COut : Cal l.prog w K mg base 6 "is_outside_of_statement" ["thing", "kind"] (sp2 isOut K) := ⟨_, _, ok_out FOut T D CWord CCond CPlain, bOut, kOut, PySem.W.mg_of X G aOut⟩
  let CBodies : Cal l.prog w K mg base 1 "bodies_of" ["statement"] (spBods K) := ⟨_, _, ok_bodies FBodies T D, bBodies, kBodies, PySem.W.mg_of X G aBodies⟩
  let CProg : Cal l.prog w K mg base 7 "is_program" ["thing"] (spProg K) := ⟨_, _, ok_prog FProg T COut CBodies, bProg, kProg, PySem.W.mg_of X G aProg⟩
  let CBC : Cal l.prog w K mg base 14 "body_code" ["body", "start"] (spBC K 4) := ⟨_, _, recC FBC bBC (PySem.W.mg_of X G aBC) FSC bSC (PySem.W.mg_of X G aSC) FWC bWC (PySem.W.mg_of X G aWC) FIC bIC (PySem.W.mg_of X G aIC) T 4, bBC, kBC, PySem.W.mg_of X G aBC⟩
  let CAsm : Cal l.prog w K mg base 15 "assemble" ["program"] (spAsm K) := ⟨_, _, ok_asm FAsm CProg CBC, bAsm, kAsm, PySem.W.mg_of X G aAsm⟩
  let CCost : Cal l.prog w K mg base 1 "cost" ["instruction"] (spCost K) := ⟨_, _, ok_cost FCost, bCost, kCost, PySem.W.mg_of X G aCost⟩
  let CBag : Cal l.prog w K mg base 1 "_law_bag" ["_law_script", "_law_k"] (spBag K) := ⟨_, _, ok_bag FBag T T2, bBag, kBag, PySem.W.mg_of X G aBag⟩
  let CDraw : Cal l.prog w K mg base 1 "_law_draw" ["_law_bag_here", "_law_many"] spDraw := ⟨_, _, ok_draw FDraw, bDraw, kDraw, PySem.W.mg_of X G aDraw⟩
  let CLarge : Cal l.prog w K mg base 2 "_law_large" ["_law_bag_here", "_law_many"] spLarge := ⟨_, _, ok_large FLarge CDraw, bLarge, kLarge, PySem.W.mg_of X G aLarge⟩
  let CSteps : Cal l.prog w K mg base 3 "_law_steps" ["_law_bag_here"] spSteps := ⟨_, _, ok_steps FSteps CDraw CLarge, bSteps, kSteps, PySem.W.mg_of X G aSteps⟩
  let CTermL : Cal l.prog w K mg base 2 "_law_term" ["_law_bag_here"] (spTermL K) := ⟨_, _, ok_termL FTermL CDraw, bTermL, kTermL, PySem.W.mg_of X G aTermL⟩
  let CCondL : Cal l.prog w K mg base 3 "_law_condition" ["_law_bag_here"] (spCondL K) := ⟨_, _, ok_condL FCondL CDraw CTermL, bCondL, kCondL, PySem.W.mg_of X G aCondL⟩
  let CSimple : Cal l.prog w K mg base 4 "_law_simple" ["_law_bag_here", "_law_kind"] (spSimple K) := ⟨_, _, ok_simple FSimple CDraw CTermL CSteps, bSimple, kSimple, PySem.W.mg_of X G aSimple⟩
  let CBody : Cal l.prog w K mg base 13 "_law_body" ["_law_bag_here", "_law_kind", "_law_room", "_law_depth", "_law_most"] (spBody K 4) := ⟨_, _, both FBody bBody (PySem.W.mg_of X G aBody) FStmt bStmt (PySem.W.mg_of X G aStmt) T T2 CDraw CSimple CCondL 4, bBody, kBody, PySem.W.mg_of X G aBody⟩
  let CProgL : Cal l.prog w K mg base 14 "_law_program" ["_law_bag_here", "_law_kind", "_law_most"] (spProgM K) := ⟨_, _, ok_progM FProgL CDraw CBody, bProgL, kProgL, PySem.W.mg_of X G aProgL⟩
  let CWhole : Cal l.prog w K mg base 1 "_law_whole" ["_law_thing"] (spL1 isInt K) := ⟨_, _, ok_whole FWhole T, bWhole, kWhole, PySem.W.mg_of X G aWhole⟩
  let CLC : Cal l.prog w K mg base 6 "_law_code" ["_law_body_here", "_law_code_here"] (spLC K 4) := ⟨_, _, recLC FLC bLC (PySem.W.mg_of X G aLC) T 4, bLC, kLC, PySem.W.mg_of X G aLC⟩
  let CTO : Cal l.prog w K mg base 1 "_law_term_of" ["_law_term_here", "_law_state"] (spTO K) := ⟨_, _, ok_TO FTO, bTO, kTO, PySem.W.mg_of X G aTO⟩
  let CTr : Cal l.prog w K mg base 2 "_law_true" ["_law_condition_here", "_law_state"] (spTr K) := ⟨_, _, ok_Tr FTr CTO, bTr, kTr, PySem.W.mg_of X G aTr⟩
  let CNx : Cal l.prog w K mg base 2 "_law_next" ["_law_step", "_law_state", "_law_answer"] (spNx K) := ⟨_, _, ok_Nx FNx T mlist CTO, bNx, kNx, PySem.W.mg_of X G aNx⟩
  let CPlc : Cal l.prog w K mg base 2 "_law_place" ["_law_step", "_law_state", "_law_position"] (spPlc K) := ⟨_, _, ok_Plc FPlc CTO, bPlc, kPlc, PySem.W.mg_of X G aPlc⟩
  let CTst : Cal l.prog w K mg base 3 "_law_test" ["_law_condition_here", "_law_world"] (spTe K) := ⟨_, _, ok_Te FTst CTr, bTst, kTst, PySem.W.mg_of X G aTst⟩
  let CDo : Cal l.prog w K mg base 12 "_law_do" ["_law_body_here", "_law_world"] (spDo K 4) := ⟨_, _, do_all FDo bDo (PySem.W.mg_of X G aDo) FDO bDO (PySem.W.mg_of X G aDO) T CTst CPlc CNx 4 (Nat.le_refl 4), bDo, kDo, PySem.W.mg_of X G aDo⟩
  let CTold : Cal l.prog w K mg base 2 "_law_told" ["_law_found"] (spTold K cR) := ⟨_, _, ok_told FTold T mlist NR CWhole, bTold, kTold, PySem.W.mg_of X G aTold⟩
  let CNear : Cal l.prog w K mg base 2 "_law_near" ["_law_bag_here", "_law_position"] (spNear K) := ⟨_, _, ok_near FNear T2 CDraw, bNear, kNear, PySem.W.mg_of X G aNear⟩
  let MWor : MCal l.prog w K mg base 1 cT "worth" ["self", "term"] (spWorth K cT) := ⟨_, _, ok_worth FWor T WT, bWor, ⟨aWor, iWor, kWor⟩⟩
  let MTru : MCal l.prog w K mg base 2 cT "is_true" ["self", "condition"] (spTrue K cT) := ⟨_, _, ok_true FTru WT MWor, bTru, ⟨aTru, iTru, kTru⟩⟩
  let MFol : MCal l.prog w K mg base 3 cT "follower" ["self", "instruction"] (spFol K cT) := ⟨_, _, ok_fol FFol WT MTru, bFol, ⟨aFol, iFol, kFol⟩⟩
  let MUp : MCal l.prog w K mg base 1 cT "upcoming" ["self"] (spUp K cT) := ⟨_, _, ok_up FUp T WT, bUp, ⟨aUp, iUp, kUp⟩⟩
  let MEar : MCal l.prog w K mg base 1 cT "earlier" ["self"] (spEar K cT) := ⟨_, _, ok_ear FEar WT, bEar, ⟨aEar, iEar, kEar⟩⟩
  let MTak : MCal l.prog w K mg base 4 cT "take" ["self", "instruction"] (spTake K cT) := ⟨_, _, ok_take FTak T WT CCost MFol MWor, bTak, ⟨aTak, iTak, kTak⟩⟩
  let MPl : MCal l.prog w K mg base 2 cT "place_of" ["self", "sign", "term"] (spPl K cT) := ⟨_, _, ok_Pl FPl CT MWor, bPl, ⟨aPl, iPl, kPl⟩⟩
  let MAsk : MCal l.prog w K mg base 3 cT "ask" ["self", "instruction"] (spAsk K cT) := ⟨_, _, ok_ask FAsk CT MPl, bAsk, ⟨aAsk, iAsk, kAsk⟩⟩
  let MAP : MCal l.prog w K mg base 1 cT "asked_places" ["self"] (spAP K cT) := ⟨_, _, ok_AP FAP CT msorted mlist, bAP, ⟨aAP, iAP, kAP⟩⟩
  have GWI := ok_WI (P := l.prog) (w := w) (mg := mg) (base := base) FWI WT
  have GTI := ok_TI (P := l.prog) (w := w) (base := base) FTI CT (PySem.W.mg_of X G ucW) ⟨rdW, gaW⟩ fcW kWI GWI bWI
  let RC : RCl l.prog w K mg base := ⟨cR, fRI, _, PySem.W.mg_of X G ucR, ⟨mkR, aRI, iRI, kcR⟩, ok_RI FRI NR mlist, ri_kE FRI, ri_kA FRI, ri_kS FRI, ri_kR FRI⟩
  let CRep : Cal l.prog w K mg base 3 "repeated" ["walk", "first", "limit"] (spRep K cT cR) := ⟨_, _, ok_Rep FRep CT RC MAP, bRep, kRep, PySem.W.mg_of X G aRep⟩
  let CTR : Cal l.prog w K mg base 5 "teller_run" ["code", "position", "members", "limit"] (spTR K cR) := ⟨_, _, ok_TR FTR CT (PySem.W.mg_of X G ucT) ⟨mkT, aTI, iTI, kcT⟩ GTI bTI RC CCost CRep MEar MUp MTak MAsk MAP, tr_b FTR, kTR, PySem.W.mg_of X G aTR⟩
  have GRun := ok_run FRun CProg CFrom CAsm CTR
  exact ok_law FLaw T T2 mlist mdict msorted NR CBag CDraw CLarge CProgL CNear CLC CDo CTold GRun kRun (PySem.W.mg_of X G aRun) (run_b FRun)
theorem walk {l : PySem.W.OpenLaw} {q : Program} {loose : List Str} {XP : (Str → Option Value) → Heap → Prop} {YP : World → Heap → Prop} {d : DefRec} {K : Params → PySem.W.Frag} (hn : l.most = some 63) (hdf : d.params.defaults = [])
    (hY : ∀ (w : World) (h : Heap), YP w h → (K w.params).In h)
    (F : ∀ (w : World) (mg : Str → Option Value) (fa : Addr) (h : Heap), (K w.params).In h → h.Ns mainGlobals mg → mg d.name = some (.ref fa) →
      ∃ fd : FuncData, (∀ (s : Shared) (u : Value), BindsTo s fd ⟨[u], []⟩ [("_law_script", u)]) ∧ ∀ base : Heap, (K w.params).In base → base.Ns mainGlobals mg → FnOk l.prog w (K w.params) mg base CX0 17 fa fd ["_law_script"] (spLaw (K w.params))) :
    PySem.W.WalkO q loose XP YP l.row.toRowW d [] (fun f vs => PySem.call f vs) :=
  L2.walk_of (n := 63) (k := 17) (x := "_law_script") (CX := fun _ => CX0) (sp := fun w => spLaw (K w.params)) hn (by decide) hdf ⟨rfl, by decide, by decide⟩ hY F (fun _ _ a ns hl _ hS => ⟨a, ns, rfl, hS, hl, fun _ => rfl⟩) fun _ _ _ _ _ z => z
end My
open PySem PySem.W PyProof.Rows
set_option maxRecDepth 100000 in
set_option maxHeartbeats 0 in
theorem PySem.Challenge.cw_neithertells_k08_whole_runs_of_statement_holds : PySem.Challenge.rw_neithertells_k08_whole_runs_of_statement.Holds := by
  w_on; o_law; k_head; (case hw => w_witness2)
  k_fill
  refine My.walk (l := PySem.Challenge.rw_neithertells_k08_whole_runs_of_statement) rfl rfl (fun w h Y => PySem.W.kIn_of Y) ?F
  case F =>
    intro w mg fa h KX G hmg
    refine' My.all_mk KX G hmg ?aFrom ?lFrom ?cFrom ?kFrom ?aInt ?lInt ?cInt ?kInt ?aTerm ?lTerm ?cTerm ?kTerm ?aCond ?lCond ?cCond ?kCond ?aPart ?lPart ?cPart ?kPart ?aWord ?lWord ?cWord ?kWord ?aRoles ?lRoles ?cRoles ?kRoles ?aPlain ?lPlain ?cPlain ?kPlain ?aOut ?lOut ?cOut ?kOut ?aBodies ?lBodies ?cBodies ?kBodies ?aProg ?lProg ?cProg ?kProg ?aAsm ?lAsm ?cAsm ?kAsm ?aBC ?lBC ?cBC ?kBC ?aSC ?lSC ?cSC ?kSC ?aWC ?lWC ?cWC ?kWC ?aIC ?lIC ?cIC ?kIC ?aCost ?lCost ?cCost ?kCost ?aRep ?lRep ?cRep ?kRep ?aBag ?lBag ?cBag ?kBag ?aDraw ?lDraw ?cDraw ?kDraw ?aLarge ?lLarge ?cLarge ?kLarge ?aSteps ?lSteps ?cSteps ?kSteps ?aTermL ?lTermL ?cTermL ?kTermL ?aCondL ?lCondL ?cCondL ?kCondL ?aSimple ?lSimple ?cSimple ?kSimple ?aStmt ?lStmt ?cStmt ?kStmt ?aBody ?lBody ?cBody ?kBody ?aProgL ?lProgL ?cProgL ?kProgL ?aWhole ?lWhole ?cWhole ?kWhole ?aLC ?lLC ?cLC ?kLC ?aTO ?lTO ?cTO ?kTO ?aTr ?lTr ?cTr ?kTr ?aNx ?lNx ?cNx ?kNx ?aPlc ?lPlc ?cPlc ?kPlc ?aTst ?lTst ?cTst ?kTst ?aDo ?lDo ?cDo ?kDo ?aDO ?lDO ?cDO ?kDO ?aTold ?lTold ?cTold ?kTold ?aNear ?lNear ?cNear ?kNear ?aLaw ?lLaw ?cLaw ?kLaw ?zisinstance ?zint ?zbool ?zstr ?ztuple ?zlen ?zzip ?zall ?zabs ?zmax ?zmin ?zrange ?zlist ?zsorted ?zdict ?gG ?gL ?gS ?gD ?mV ?qV ?mC ?qC ?mA ?qA ?mK ?qK ?mB ?qB ?yB ?wB ?mSh ?qSh ?ySh ?wSh ?qSh0 ?qSh1 ?qSh2 ?mTe ?qTe ?yTe ?wTe ?qTe0 ?qTe1 ?mCo ?qCo ?yCo ?wCo ?qCo0 ?qCo1 ?ucW ?ucT ?ucR ?aEar ?iEar ?lEar ?cEar ?kEar ?aUp ?iUp ?lUp ?cUp ?kUp ?aWor ?iWor ?lWor ?cWor ?kWor ?aTru ?iTru ?lTru ?cTru ?kTru ?aTak ?iTak ?lTak ?cTak ?kTak ?aFol ?iFol ?lFol ?cFol ?kFol ?aPl ?iPl ?lPl ?cPl ?kPl ?aAsk ?iAsk ?lAsk ?cAsk ?kAsk ?aAP ?iAP ?lAP ?cAP ?kAP ?aTI ?iTI ?lTI ?cTI ?kTI ?rdW ?gaW ?fcW ?lWI ?cWI ?kWI ?pgT ?hdT ?poT ?saT ?mkT ?kcT ?nT_code ?nT_at ?nT_held ?nT_counter ?nT_taken ?nT_seen ?nT_position ?nT_present ?nT_questions ?pgR ?hdR ?poR ?saR ?mkR ?kcR ?nR_outcome ?nR_answer ?nR_length ?nR_first ?nR_second ?nR_asked ?aRI ?iRI ?lRI ?cRI ?kRI ?tRI ?aTR ?lTR ?cTR ?kTR ?tTR ?aRun ?lRun ?cRun ?kRun ?dRun
    (case aFrom => k_is)
    (case lFrom => k_is)
    (case cFrom => k_is)
    (case kFrom => k_is)
    (case aInt => k_is)
    (case lInt => k_is)
    (case cInt => k_is)
    (case kInt => k_is)
    (case aTerm => k_is)
    (case lTerm => k_is)
    (case cTerm => k_is)
    (case kTerm => k_is)
    (case aCond => k_is)
    (case lCond => k_is)
    (case cCond => k_is)
    (case kCond => k_is)
    (case aPart => k_is)
    (case lPart => k_is)
    (case cPart => k_is)
    (case kPart => k_is)
    (case aWord => k_is)
    (case lWord => k_is)
    (case cWord => k_is)
    (case kWord => k_is)
    (case aRoles => k_is)
    (case lRoles => k_is)
    (case cRoles => k_is)
    (case kRoles => k_is)
    (case aPlain => k_is)
    (case lPlain => k_is)
    (case cPlain => k_is)
    (case kPlain => k_is)
    (case aOut => k_is)
    (case lOut => k_is)
    (case cOut => k_is)
    (case kOut => k_is)
    (case aBodies => k_is)
    (case lBodies => k_is)
    (case cBodies => k_is)
    (case kBodies => k_is)
    (case aProg => k_is)
    (case lProg => k_is)
    (case cProg => k_is)
    (case kProg => k_is)
    (case aAsm => k_is)
    (case lAsm => k_is)
    (case cAsm => k_is)
    (case kAsm => k_is)
    (case aBC => k_is)
    (case lBC => k_is)
    (case cBC => k_is)
    (case kBC => k_is)
    (case aSC => k_is)
    (case lSC => k_is)
    (case cSC => k_is)
    (case kSC => k_is)
    (case aWC => k_is)
    (case lWC => k_is)
    (case cWC => k_is)
    (case kWC => k_is)
    (case aIC => k_is)
    (case lIC => k_is)
    (case cIC => k_is)
    (case kIC => k_is)
    (case aCost => k_is)
    (case lCost => k_is)
    (case cCost => k_is)
    (case kCost => k_is)
    (case aRep => k_is)
    (case lRep => k_is)
    (case cRep => k_is)
    (case kRep => k_is)
    (case aBag => k_is)
    (case lBag => k_is)
    (case cBag => k_is)
    (case kBag => k_is)
    (case aDraw => k_is)
    (case lDraw => k_is)
    (case cDraw => k_is)
    (case kDraw => k_is)
    (case aLarge => k_is)
    (case lLarge => k_is)
    (case cLarge => k_is)
    (case kLarge => k_is)
    (case aSteps => k_is)
    (case lSteps => k_is)
    (case cSteps => k_is)
    (case kSteps => k_is)
    (case aTermL => k_is)
    (case lTermL => k_is)
    (case cTermL => k_is)
    (case kTermL => k_is)
    (case aCondL => k_is)
    (case lCondL => k_is)
    (case cCondL => k_is)
    (case kCondL => k_is)
    (case aSimple => k_is)
    (case lSimple => k_is)
    (case cSimple => k_is)
    (case kSimple => k_is)
    (case aStmt => k_is)
    (case lStmt => k_is)
    (case cStmt => k_is)
    (case kStmt => k_is)
    (case aBody => k_is)
    (case lBody => k_is)
    (case cBody => k_is)
    (case kBody => k_is)
    (case aProgL => k_is)
    (case lProgL => k_is)
    (case cProgL => k_is)
    (case kProgL => k_is)
    (case aWhole => k_is)
    (case lWhole => k_is)
    (case cWhole => k_is)
    (case kWhole => k_is)
    (case aLC => k_is)
    (case lLC => k_is)
    (case cLC => k_is)
    (case kLC => k_is)
    (case aTO => k_is)
    (case lTO => k_is)
    (case cTO => k_is)
    (case kTO => k_is)
    (case aTr => k_is)
    (case lTr => k_is)
    (case cTr => k_is)
    (case kTr => k_is)
    (case aNx => k_is)
    (case lNx => k_is)
    (case cNx => k_is)
    (case kNx => k_is)
    (case aPlc => k_is)
    (case lPlc => k_is)
    (case cPlc => k_is)
    (case kPlc => k_is)
    (case aTst => k_is)
    (case lTst => k_is)
    (case cTst => k_is)
    (case kTst => k_is)
    (case aDo => k_is)
    (case lDo => k_is)
    (case cDo => k_is)
    (case kDo => k_is)
    (case aDO => k_is)
    (case lDO => k_is)
    (case cDO => k_is)
    (case kDO => k_is)
    (case aTold => k_is)
    (case lTold => k_is)
    (case cTold => k_is)
    (case kTold => k_is)
    (case aNear => k_is)
    (case lNear => k_is)
    (case cNear => k_is)
    (case kNear => k_is)
    (case aLaw => k_is)
    (case lLaw => k_is)
    (case cLaw => k_is)
    (case kLaw => k_is)
    (case zisinstance => k_is)
    (case zint => k_is)
    (case zbool => k_is)
    (case zstr => k_is)
    (case ztuple => k_is)
    (case zlen => k_is)
    (case zzip => k_is)
    (case zall => k_is)
    (case zabs => k_is)
    (case zmax => k_is)
    (case zmin => k_is)
    (case zrange => k_is)
    (case zlist => k_is)
    (case zsorted => k_is)
    (case zdict => k_is)
    (case gG => k_is)
    (case gL => k_is)
    (case gS => k_is)
    (case gD => k_is)
    (case mV => k_is)
    (case qV => k_is)
    (case mC => k_is)
    (case qC => k_is)
    (case mA => k_is)
    (case qA => k_is)
    (case mK => k_is)
    (case qK => k_is)
    (case mB => k_is)
    (case qB => k_is)
    (case yB => first | k_is | (simp [PySem.W.KeysLit]))
    (case wB => first | rfl | decide | k_is)
    (case mSh => k_is)
    (case qSh => k_is)
    (case ySh => first | k_is | (simp [PySem.W.KeysLit]))
    (case wSh => first | rfl | decide | k_is)
    (case qSh0 => k_is)
    (case qSh1 => k_is)
    (case qSh2 => k_is)
    (case mTe => k_is)
    (case qTe => k_is)
    (case yTe => first | k_is | (simp [PySem.W.KeysLit]))
    (case wTe => first | rfl | decide | k_is)
    (case qTe0 => k_is)
    (case qTe1 => k_is)
    (case mCo => k_is)
    (case qCo => k_is)
    (case yCo => first | k_is | (simp [PySem.W.KeysLit]))
    (case wCo => first | rfl | decide | k_is)
    (case qCo0 => k_is)
    (case qCo1 => k_is)
    (case ucW => k_is)
    (case ucT => k_is)
    (case ucR => k_is)
    (case aEar => k_is)
    (case iEar => k_is)
    (case lEar => k_is)
    (case cEar => k_is)
    (case kEar => k_is)
    (case aUp => k_is)
    (case iUp => k_is)
    (case lUp => k_is)
    (case cUp => k_is)
    (case kUp => k_is)
    (case aWor => k_is)
    (case iWor => k_is)
    (case lWor => k_is)
    (case cWor => k_is)
    (case kWor => k_is)
    (case aTru => k_is)
    (case iTru => k_is)
    (case lTru => k_is)
    (case cTru => k_is)
    (case kTru => k_is)
    (case aTak => k_is)
    (case iTak => k_is)
    (case lTak => k_is)
    (case cTak => k_is)
    (case kTak => k_is)
    (case aFol => k_is)
    (case iFol => k_is)
    (case lFol => k_is)
    (case cFol => k_is)
    (case kFol => k_is)
    (case aPl => k_is)
    (case iPl => k_is)
    (case lPl => k_is)
    (case cPl => k_is)
    (case kPl => k_is)
    (case aAsk => k_is)
    (case iAsk => k_is)
    (case lAsk => k_is)
    (case cAsk => k_is)
    (case kAsk => k_is)
    (case aAP => k_is)
    (case iAP => k_is)
    (case lAP => k_is)
    (case cAP => k_is)
    (case kAP => k_is)
    (case aTI => k_is)
    (case iTI => k_is)
    (case lTI => k_is)
    (case cTI => k_is)
    (case kTI => k_is)
    (case rdW => k_is)
    (case gaW => k_is)
    (case fcW => k_is)
    (case lWI => k_is)
    (case cWI => k_is)
    (case kWI => k_is)
    (case pgT => k_is)
    (case hdT => k_is)
    (case poT => k_is)
    (case saT => k_is)
    (case mkT => k_is)
    (case kcT => k_is)
    (case nT_code => k_is)
    (case nT_at => k_is)
    (case nT_held => k_is)
    (case nT_counter => k_is)
    (case nT_taken => k_is)
    (case nT_seen => k_is)
    (case nT_position => k_is)
    (case nT_present => k_is)
    (case nT_questions => k_is)
    (case pgR => k_is)
    (case hdR => k_is)
    (case poR => k_is)
    (case saR => k_is)
    (case mkR => k_is)
    (case kcR => k_is)
    (case nR_outcome => k_is)
    (case nR_answer => k_is)
    (case nR_length => k_is)
    (case nR_first => k_is)
    (case nR_second => k_is)
    (case nR_asked => k_is)
    (case aRI => k_is)
    (case iRI => k_is)
    (case lRI => k_is)
    (case cRI => k_is)
    (case kRI => k_is)
    (case tRI => k_is)
    (case aTR => k_is)
    (case lTR => k_is)
    (case cTR => k_is)
    (case kTR => k_is)
    (case tTR => k_is)
    (case aRun => k_is)
    (case lRun => k_is)
    (case cRun => k_is)
    (case kRun => k_is)
    (case dRun => k_is)


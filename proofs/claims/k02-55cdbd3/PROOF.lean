import PyProof.Rows.All
import Wide.All
import OpenK.AllK
import Wide.FinOn
import HandS.ForMost
import HandS.IsInst
import HandS.Zip
import HandS.More
import HandS.TupAny
import HandS.TupLe
import HandS.Wide
import HandS.NoneIn
import HandS.Deep
import PySem.Challenge.RW_neithertells_k02_programs_at_their_bound
set_option Elab.async false
set_option linter.all false
set_option maxRecDepth 100000
set_option maxHeartbeats 8000000
namespace My
open PySem L2
def top (i : Nat) : Stmt := PySem.Challenge.pw_neithertells_k02_programs_at_their_bound.main.body.getD i (.Pass ⟨0, 0, 0, 0⟩)
abbrev sFrom : Stmt := top 13
abbrev sInt : Stmt := top 14
abbrev sTerm : Stmt := top 15
abbrev sCond : Stmt := top 16
abbrev sPart : Stmt := top 17
abbrev sWord : Stmt := top 18
abbrev sRoles : Stmt := top 19
abbrev sPlain : Stmt := top 20
abbrev sOut : Stmt := top 21
abbrev sBodies : Stmt := top 22
abbrev sProg : Stmt := top 23

/-! ### the mathematics of programs -/
def inS (d : PyData) (zs : List Str) : Bool := match d with | .str z => zs.any (· == z) | _ => false
def intIn (d : PyData) (lo hi : Int) : Bool := match d with | .int i => decide (lo ≤ i) && decide (i ≤ hi) | _ => false
def intFrom (d : PyData) (lo : Int) : Bool := match d with | .int i => decide (lo ≤ i) | _ => false
def vars : List Str := ["a", "b"]
def signs : List Str := ["==", "!=", "<"]
def asks : List Str := ["+", "-", "="]
def kinds : List Str := ["teller", "collector"]
def isTerm (d : PyData) : Bool := inS d vars || intIn d 0 15
def isCond (d : PyData) : Bool := match d with
  | .tuple [x, y, z] => inS x vars && inS y signs && isTerm z
  | _ => false
def longest : Int := 1000000000000000000000000000000
def isPart (d : PyData) (r : Str) : Bool :=
  if r = "variable" then inS d vars else if r = "term" then isTerm d else if r = "sign" then inS d asks else if r = "steps" then intIn d 1 longest
  else if r = "answer" then intIn d 0 1 else intIn d 0 15

/-! ### rules -/
section
variable {X : Cx}
theorem depth_strs (zs : List Str) : PyData.depthAll (zs.map PyData.str) = 0 := by
  induction zs with
  | nil => rfl
  | cons z r ih => simp only [List.map_cons, PyData.depthAll, PyData.depth, ih]; rfl
theorem lay_strs : ∀ (zs : List Str), zs.all PyData.strOk = true → PyData.canLayAll0 (zs.map PyData.str) = true
  | [], _ => by simp [PyData.canLayAll0]
  | z :: r, h => by
    simp only [List.all_cons, Bool.and_eq_true] at h
    simp only [List.map_cons, PyData.canLayAll0, PyData.canLay0, Bool.and_eq_true]
    exact ⟨h.1, lay_strs r h.2⟩
theorem any_strs (d : PyData) : ∀ (zs : List Str), ((zs.map PyData.str).any fun y => PyData.eqv y d) = inS d zs
  | [] => by cases d <;> rfl
  | z :: r => by
    have ih := any_strs d r
    rw [List.map_cons, List.any_cons, ih]
    cases d <;> simp [inS, PyData.eqv]
theorem dp_strs {K : PySem.W.Frag} {H : Hp} : ∀ zs : List Str, DpAll K H (zs.map V.str) (zs.map PyData.str)
  | [] => .nil
  | z :: r => .cons (.str z) (dp_strs r)
def rInS (K : PySem.W.Frag) (neg : Bool) : R2 := fun x y H Q => ∃ (d : PyData) (zs : List Str) (p : Addr), y = .ref p ∧ Dp K H x d ∧ d.canLay0 = true ∧ SqT K H p (zs.map V.str) ∧ zs.all PyData.strOk = true ∧
  Q (.bl (if neg then !inS d zs else inS d zs)) H
theorem op_inS (hu : X.A.units + 65 < cLine) : OpR X (compareOp .In) (rInS X.K false) := by
  intro pins s σ H x y v u Q I rx ry h
  obtain ⟨d, zs, p, rfl, hd, ld, hz, oz, q⟩ := h
  obtain ⟨as, r1⟩ := Dp.reads I d x v hd rx
  obtain ⟨bs, r2⟩ := Dp.reads I (.tuple (zs.map PyData.str)) (.ref p) u (.tup hz (dp_strs zs)) ry
  refine SeqAt.in_tuple_reads r2 r1 (lay_strs zs oz) ld ?_ ⟨.bl _, H, I, rfl, ?_⟩
  · rw [depth_strs]
    have := Nat.min_le_left 0 d.depth
    omega
  · rw [any_strs]; exact q
theorem op_notInS (hu : X.A.units + 65 < cLine) : OpR X (compareOp .NotIn) (rInS X.K true) := by
  intro pins s σ H x y v u Q I rx ry h
  obtain ⟨d, zs, p, rfl, hd, ld, hz, oz, q⟩ := h
  obtain ⟨as, r1⟩ := Dp.reads I d x v hd rx
  obtain ⟨bs, r2⟩ := Dp.reads I (.tuple (zs.map PyData.str)) (.ref p) u (.tup hz (dp_strs zs)) ry
  refine SeqAt.notIn_tuple_reads r2 r1 (lay_strs zs oz) ld ?_ ⟨.bl _, H, I, rfl, ?_⟩
  · rw [depth_strs]
    have := Nat.min_le_left 0 d.depth
    omega
  · rw [any_strs]; exact q
end
section
variable {X : Cx}
theorem pe_gref {x : Str} {a : Addr} {pos : Pos} (hg : Gl X x) (hm : X.mg x = some (.ref a)) (hd : (x == ("__debug__" : Str)) = false := by decide) : PE X (.Name x pos) (tC (.ref a)) := pe_glob hg hm rfl hd
theorem pe_gint {x : Str} {i : Int} {t : Tok} {pos : Pos} (hg : Gl X x) (hm : X.mg x = some (.int i t)) (hd : (x == ("__debug__" : Str)) = false := by decide) : PE X (.Name x pos) (tC (.int i)) := pe_glob hg hm ⟨t, rfl⟩ hd
end
/-- the name of the type -/
def tyN : PyData → String
  | .none => "NoneType"
  | .bool _ => "bool"
  | .int _ => "int"
  | .str _ => "str"
  | .list _ => "list"
  | .tuple _ => "tuple"
  | .dict _ => "dict"
theorem dp_ty {K : PySem.W.Frag} {H : Hp} {v : V} {d : PyData} (h : Dp K H v d) : TyX K H v (.type (tyN d)) := by
  cases h with
  | non => exact .base .non
  | bl b => exact .base (.bl b)
  | int i => exact .base (.int i)
  | str x => exact .base (.str x)
  | lst hs _ =>
    rcases hs with (h | ⟨o, h⟩) | ⟨o, its, n, hk, hc, _⟩
    · exact .base (.lst h)
    · exact .base (.frz h)
    · exact .kList hk hc
  | tup hs _ =>
    rcases hs with (h | ⟨o, h⟩) | ⟨o, its, n, hk, hc, _⟩
    · exact .base (.tup h)
    · exact .fTuple h
    · exact .kTuple hk hc
def isT (d : PyData) (T : String) : Bool := match d with
  | .bool _ => T == "bool" || T == "int"
  | _ => tyN d == T
theorem kit_isT {K : PySem.W.Frag} (d : PyData) {T : String} (h : T = "int" ∨ T = "bool" ∨ T = "str" ∨ T = "tuple" ∨ T = "list") (nd : ∀ k, d ≠ .dict k) : PySem.W.kitOne K (.type (tyN d)) (.type T) = some (isT d T) := by
  refine kit_ty ?_
  rcases h with rfl | rfl | rfl | rfl | rfl <;> cases d <;> first | (exact absurd rfl (nd _)) | (simp only [tyN, isT]; decide +kernel)

/-! ### what the module's names hold -/
structure Gs (K : PySem.W.Frag) (mg : Str → Option Value) where
  isi : mg "isinstance" = none
  int : mg "int" = none
  bool : mg "bool" = none
  str : mg "str" = none
  tup : mg "tuple" = none
  len : mg "len" = none
  zip : mg "zip" = none
  all : mg "all" = none
  aV : Addr
  mV : mg "VARIABLES" = some (.ref aV)
  kV : ∀ H, SqT K H aV (vars.map V.str)
  aC : Addr
  mC : mg "CONDITION_SIGNS" = some (.ref aC)
  kC : ∀ H, SqT K H aC (signs.map V.str)
  aA : Addr
  mA : mg "ASK_SIGNS" = some (.ref aA)
  kA : ∀ H, SqT K H aA (asks.map V.str)
  aK : Addr
  mK : mg "KINDS" = some (.ref aK)
  kK : ∀ H, SqT K H aK (kinds.map V.str)
  tG : Tok
  mG : mg "GREATEST_VALUE" = some (.int 15 tG)
  tL : Tok
  mL : mg "LONGEST_WAIT" = some (.int longest tL)
  tS : Tok
  mS : mg "MOST_STATEMENTS" = some (.int 24 tS)
  tD : Tok
  mD : mg "MOST_DEPTH" = some (.int 4 tD)

/-! ### promises -/
abbrev Lay (d : PyData) : Prop := d.canLay0 = true
def spInt (K : PySem.W.Frag) : Sp := fun vs H Q _ => ∃ (v : V) (d : PyData) (lo hi : Int), vs = [v, .int lo, .int hi] ∧ Dp K H v d ∧ Q (.bl (intIn d lo hi)) H
def spFrom (K : PySem.W.Frag) : Sp := fun vs H Q _ => ∃ (v : V) (d : PyData) (lo : Int), vs = [v, .int lo] ∧ Dp K H v d ∧ Q (.bl (intFrom d lo)) H
def sp1 (f : PyData → Bool) (K : PySem.W.Frag) : Sp := fun vs H Q _ => ∃ (v : V) (d : PyData), vs = [v] ∧ Dp K H v d ∧ Lay d ∧ Q (.bl (f d)) H
theorem dp_nd {K : PySem.W.Frag} {H : Hp} {v : V} {d : PyData} (h : Dp K H v d) : ∀ k, d ≠ .dict k := by
  intro k e
  subst e
  cases h
section
variable {P : Program} {w : World} {K : PySem.W.Frag} {mg : Str → Option Value} {base : Heap}
theorem scFrom : FnScope ["thing", "least"] ["thing", "least"] (defScope sFrom) := ⟨rfl, rfl, rfl, by decide +kernel, rfl, by decide +kernel, by decide +kernel⟩
theorem ok_from {f : Addr} {fd : FuncData} (F : Fun K "is_integer_from" "is_integer_from" sFrom f fd) (T : Gs K mg) : FnOk P w K mg base CX0 1 f fd ["thing", "least"] (spFrom K) := by
  refine F.ok scFrom (fun vs H Q E h => ?_) (fun cdv A outer s H vs Q E hr h => ?_)
  · obtain ⟨v, d, lo, rfl, _⟩ := h
    rfl
  obtain ⟨v, d, lo, rfl, hd, q⟩ := h
  refine ⟨_, pss_one (ps_ret (pe_and (pe_callB call_isi (by rfl) T.isi (by decide +kernel) (pa_cons (pv 0) (pa_cons (pe_bltn (v := .ty "int") (by rfl) T.int (by decide +kernel) rfl) pa_nil)))
    (pe_and (pe_not (pe_callB call_isi (by rfl) T.isi (by decide +kernel) (pa_cons (pv 0) (pa_cons (pe_bltn (v := .ty "bool") (by rfl) T.bool (by decide +kernel) rfl) pa_nil))))
      (pe_one (pe_cmpR op_le (pv 1) (pv 0) (by rfl)))))), ?_⟩
  refine ⟨_, rfl, v, .ty "int", _, _, _, rfl, .ty _, dp_ty hd, kit_isT d (by simp) (dp_nd hd), _, rfl, ?_⟩
  cases hd with
  | int i =>
    refine ite2 (fun _ => ?_) (fun c => absurd (by rfl) c)
    refine ⟨_, rfl, _, .ty "bool", _, _, _, rfl, .ty _, dp_ty (.int i), kit_isT (.int i) (by simp) (fun _ e => nomatch e), _, rfl, _, rfl, ?_⟩
    refine ite2 (fun _ => ?_) (fun c => absurd (by rfl) c)
    exact ⟨_, rfl, _, rfl, _, _, rfl, rfl, q⟩
  | bl b =>
    refine ite2 (fun _ => ?_) (fun c => absurd (by rfl) c)
    refine ⟨_, rfl, _, .ty "bool", _, _, _, rfl, .ty _, dp_ty (.bl b), kit_isT (.bool b) (by simp) (fun _ e => nomatch e), _, rfl, _, rfl, ?_⟩
    exact ite2 (fun c => absurd (show false = true from c) (by decide)) (fun _ => q)
  | non => exact ite2 (fun c => absurd (show false = true from c) (by decide)) (fun _ => q)
  | str x => exact ite2 (fun c => absurd (show false = true from c) (by decide)) (fun _ => q)
  | lst _ _ => exact ite2 (fun c => absurd (show false = true from c) (by decide)) (fun _ => q)
  | tup _ _ => exact ite2 (fun c => absurd (show false = true from c) (by decide)) (fun _ => q)
structure Cal (P : Program) (w : World) (K : PySem.W.Frag) (mg : Str → Option Value) (base : Heap) (k : Nat) (x : Str) (ps : List Str) (sp : Sp) where
  f : Addr
  fd : FuncData
  G : FnOk P w K mg base CX0 k f fd ps sp
  b : Binds K fd ps []
  kp : PySem.W.keepIn K (.ref f) = true
  m : mg x = some (.ref f)
theorem scInt : FnScope ["thing", "least", "greatest"] ["thing", "least", "greatest"] (defScope sInt) := ⟨rfl, rfl, rfl, by decide +kernel, rfl, by decide +kernel, by decide +kernel⟩
theorem ok_int {f : Addr} {fd : FuncData} (F : Fun K "is_integer_from_to" "is_integer_from_to" sInt f fd) (CF : Cal P w K mg base 1 "is_integer_from" ["thing", "least"] (spFrom K)) : FnOk P w K mg base CX0 2 f fd ["thing", "least", "greatest"] (spInt K) := by
  refine F.ok scInt (fun vs H Q E h => ?_) (fun cdv A outer s H vs Q E hr h => ?_)
  · obtain ⟨v, d, lo, hi, rfl, _⟩ := h
    rfl
  obtain ⟨v, d, lo, hi, rfl, hd, q⟩ := h
  refine ⟨_, pss_one (ps_ret (pe_and (pe_call CF.G hr rfl CF.m CF.kp CF.b .nil pass0 (pa_cons (pv 0) (pa_cons (pv 1) pa_nil))) (pe_one (pe_cmpR op_le (pv 0) (pv 2) (by rfl))))), ?_⟩
  refine ⟨_, rfl, _, rfl, v, d, lo, rfl, hd, _, rfl, ?_⟩
  cases hd with
  | int i =>
    by_cases h1 : lo ≤ i
    · have e : intIn (.int i) lo hi = decide (i ≤ hi) := by simp [intIn, h1]
      rw [e] at q
      refine ite2 (fun _ => ⟨_, rfl, _, rfl, _, _, rfl, rfl, q⟩) (fun c => absurd (show decide (lo ≤ i) = true from decide_eq_true h1) c)
    · have e : intIn (.int i) lo hi = false := by simp [intIn, h1]
      rw [e] at q
      have e2 : intFrom (.int i) lo = false := decide_eq_false h1
      rw [e2]
      exact iteF q
  | bl b => exact ite2 (fun c => absurd (show false = true from c) (by decide)) (fun _ => q)
  | non => exact ite2 (fun c => absurd (show false = true from c) (by decide)) (fun _ => q)
  | str x => exact ite2 (fun c => absurd (show false = true from c) (by decide)) (fun _ => q)
  | lst _ _ => exact ite2 (fun c => absurd (show false = true from c) (by decide)) (fun _ => q)
  | tup _ _ => exact ite2 (fun c => absurd (show false = true from c) (by decide)) (fun _ => q)
end
theorem hu65 {k : Nat} {A : Around} (hr : Room k A) : A.units + 65 < cLine := by have := hr.un; omega
theorem dp_tup_inv {K : PySem.W.Frag} {H : Hp} {v : V} {ds : List PyData} (h : Dp K H v (.tuple ds)) : ∃ a xs, v = .ref a ∧ SqT K H a xs ∧ DpAll K H xs ds := by
  cases h with
  | tup hs ha => exact ⟨_, _, rfl, hs, ha⟩
theorem dpAll_len {K : PySem.W.Frag} {H : Hp} : ∀ {xs : List V} {ds : List PyData}, DpAll K H xs ds → xs.length = ds.length
  | _, _, .nil => rfl
  | _, _, .cons _ t => by rw [List.length_cons, List.length_cons, dpAll_len t]
theorem dpAll_get {K : PySem.W.Frag} {H : Hp} : ∀ {xs : List V} {ds : List PyData} {i : Nat} {x : V}, DpAll K H xs ds → xs[i]? = some x → ∃ d, ds[i]? = some d ∧ Dp K H x d
  | _, _, 0, _, .cons h _, e => by
    cases e
    exact ⟨_, rfl, h⟩
  | _, _, i + 1, _, .cons _ t, e => dpAll_get (i := i) t e
theorem lay_mem : ∀ {ds : List PyData}, PyData.canLayAll0 ds = true → ∀ d ∈ ds, Lay d
  | x :: r, h, d, m => by
    simp only [PyData.canLayAll0, Bool.and_eq_true] at h
    rcases List.mem_cons.mp m with e | m
    · rw [e]; exact h.1
    · exact lay_mem h.2 d m
theorem lay_tup {ds : List PyData} (h : Lay (.tuple ds)) : PyData.canLayAll0 ds = true := by
  unfold Lay at h
  simpa only [PyData.canLay0] using h
theorem isT_tup {d : PyData} (h : isT d "tuple" = true) : ∃ ds, d = .tuple ds := by
  cases d with
  | tuple ds => exact ⟨ds, rfl⟩
  | _ => simp [isT, tyN] at h
theorem isT_str {d : PyData} (h : isT d "str" = true) : ∃ z, d = .str z := by
  cases d with
  | str ds => exact ⟨ds, rfl⟩
  | _ => simp [isT, tyN] at h
theorem same_new {H : Hp} {p : Addr} (h : H p = none) (o : HO) : Same H (upd H p o) := fun b u q => by rw [upd_ne (ne_of_none q h)]; exact q
theorem Same.tup {K : PySem.W.Frag} {H H' : Hp} {a : Addr} {xs : List V} (e : Same H H') (h : SqT K H a xs) : SqT K H' a xs := by
  rcases h with (h | ⟨o, h⟩) | h
  · exact .inl (.inl (e _ _ h))
  · exact .inl (.inr ⟨o, e _ _ h⟩)
  · exact .inr h
mutual
theorem dp_mono {K : PySem.W.Frag} {H H' : Hp} (e : Same H H') : ∀ (d : PyData) (v : V), Dp K H v d → Dp K H' v d
  | .none, _, h => by cases h; exact .non
  | .bool b, _, h => by cases h; exact .bl b
  | .int i, _, h => by cases h; exact .int i
  | .str x, _, h => by cases h; exact .str x
  | .list ds, _, h => by
    cases h with
    | lst hs ha => exact .lst (e.seq hs) (dpAll_mono e ds _ ha)
  | .tuple ds, _, h => by
    cases h with
    | tup hs ha => exact .tup (Same.tup e hs) (dpAll_mono e ds _ ha)
  | .dict _, _, h => by cases h
theorem dpAll_mono {K : PySem.W.Frag} {H H' : Hp} (e : Same H H') : ∀ (ds : List PyData) (vs : List V), DpAll K H vs ds → DpAll K H' vs ds
  | [], _, h => by cases h; exact .nil
  | d :: ds, _, h => by
    cases h with
    | cons hd ht => exact .cons (dp_mono e d _ hd) (dpAll_mono e ds _ ht)
end
def wordOf : PyData → Option Str
  | .tuple (.str z :: _) => some z
  | _ => none
def wV : Option Str → V
  | some z => .str z
  | none => .non
def spPart (K : PySem.W.Frag) : Sp := fun vs H Q _ => ∃ (v : V) (d : PyData) (r : Str), vs = [v, .str r] ∧ Dp K H v d ∧ Lay d ∧ Q (.bl (isPart d r)) H
def spWord (K : PySem.W.Frag) : Sp := fun vs H Q _ => ∃ (v : V) (d : PyData), vs = [v] ∧ Dp K H v d ∧ Q (wV (wordOf d)) H
section
variable {P : Program} {w : World} {K : PySem.W.Frag} {mg : Str → Option Value} {base : Heap}
theorem scTerm : FnScope ["thing"] ["thing"] (defScope sTerm) := ⟨rfl, rfl, rfl, by decide +kernel, rfl, by decide +kernel, by decide +kernel⟩
theorem ok_term {f : Addr} {fd : FuncData} (F : Fun K "is_term" "is_term" sTerm f fd) (T : Gs K mg) (CI : Cal P w K mg base 2 "is_integer_from_to" ["thing", "least", "greatest"] (spInt K)) :
    FnOk P w K mg base CX0 3 f fd ["thing"] (sp1 isTerm K) := by
  refine F.ok scTerm (fun vs H Q E h => ?_) (fun cdv A outer s H vs Q E hr h => ?_)
  · obtain ⟨v, d, rfl, _⟩ := h
    rfl
  obtain ⟨v, d, rfl, hd, ld, q⟩ := h
  refine ⟨_, pss_one (ps_ret (pe_or (pe_cmpR (op_inS (hu65 hr)) (pv 0) (pe_gref rfl T.mV) (by rfl)) (pe_one (pe_call CI.G hr rfl CI.m CI.kp CI.b .nil pass0 (pa_cons (pv 0) (pa_cons pe_int (pa_cons (pe_gint rfl T.mG) pa_nil))))))), ?_⟩
  refine ⟨_, rfl, d, vars, T.aV, rfl, hd, ld, T.kV _, by decide +kernel, _, rfl, ?_⟩
  refine ite2 (fun c => ?_) (fun c => ?_)
  · have e : isTerm d = true := by unfold isTerm; rw [show inS d vars = true from c]; rfl
    rw [e] at q
    exact q
  · refine ⟨_, rfl, v, d, 0, 15, rfl, hd, ?_⟩
    have e : isTerm d = intIn d 0 15 := by unfold isTerm; rw [show inS d vars = false from Bool.eq_false_iff.mpr c]; rfl
    rw [e] at q
    exact q
theorem scCond : FnScope ["thing", "variable", "sign", "term"] ["thing"] (defScope sCond) := ⟨rfl, rfl, rfl, by decide +kernel, rfl, by decide +kernel, by decide +kernel⟩
theorem ok_cond {f : Addr} {fd : FuncData} (F : Fun K "is_condition" "is_condition" sCond f fd) (T : Gs K mg) (CT : Cal P w K mg base 3 "is_term" ["thing"] (sp1 isTerm K)) :
    FnOk P w K mg base CX0 4 f fd ["thing"] (sp1 isCond K) := by
  refine F.ok scCond (fun vs H Q E h => ?_) (fun cdv A outer s H vs Q E hr h => ?_)
  · obtain ⟨v, d, rfl, _⟩ := h
    rfl
  obtain ⟨v, d, rfl, hd, ld, q⟩ := h
  refine ⟨_, pss_cons (ps_if (PW.pt (pw_or (pt_not (pt_val (pe_callB call_isi (by rfl) T.isi (by decide +kernel) (pa_cons (pv 0) (pa_cons (pe_bltn (v := .ty "tuple") (by rfl) T.tup (by decide +kernel) rfl) pa_nil)))))
      (pw_or1 (pt_cmpR op_ne (pe_callB call_len_seq (by rfl) T.len PySem.boot_len (pa_cons (pv 0) pa_nil)) pe_int (nomark _))))) (pss_one (ps_ret pe_bl)) pss_nil)
    (pss_cons (ps_asg (pv 0) (pg_tup (by rfl) (pgs_cons (pg_name (i := 1) scCond.nd rfl (.inl rfl)) (pgs_cons (pg_name (i := 2) scCond.nd rfl (.inl rfl)) (pgs_cons (pg_name (i := 3) scCond.nd rfl (.inl rfl)) pgs_nil)))))
    (pss_one (ps_ret (pe_and (pe_cmpR (op_inS (hu65 hr)) (pv 1) (pe_gref rfl T.mV) (by rfl)) (pe_and (pe_cmpR (op_inS (hu65 hr)) (pv 2) (pe_gref rfl T.mC) (by rfl))
      (pe_one (pe_call CT.G hr rfl CT.m CT.kp CT.b .nil pass0 (pa_cons (pv 3) pa_nil)))))))), ?_⟩
  refine ⟨_, rfl, v, .ty "tuple", _, _, _, rfl, .ty _, dp_ty hd, kit_isT d (by simp) (dp_nd hd), _, rfl, ?_⟩
  cases ht : isT d "tuple" with
  | false =>
    refine iteT (iteT ?_)
    have e : isCond d = false := by cases d <;> first | rfl | (simp [isT, tyN] at ht)
    rw [e] at q
    exact q
  | true =>
    obtain ⟨ds, rfl⟩ := isT_tup ht
    obtain ⟨a, xs, rfl, hs, ha⟩ := dp_tup_inv hd
    have hl := dpAll_len ha
    refine iteF ⟨_, rfl, a, xs, rfl, .inr hs, rfl, _, rfl, ?_⟩
    by_cases h3 : ds.length = 3
    · have c : V.int ((xs.length : Nat) : Int) = V.int 3 := by rw [hl, h3]; rfl
      refine iteNS c ?_
      cases ha with
      | nil => cases h3
      | cons h0 t1 =>
        cases t1 with
        | nil => cases h3
        | cons h1 t2 =>
          cases t2 with
          | nil => cases h3
          | cons h2 t3 =>
            cases t3 with
            | cons _ _ => simp at h3
            | nil =>
              rename_i x0 d0 x1 d1 x2 d2
              have lm := lay_mem (lay_tup ld)
              refine ⟨_, rfl, a, _, rfl, hs, rfl, _, _, rfl, _, _, rfl, _, _, rfl, rfl, ?_⟩
              refine ⟨_, rfl, d0, vars, T.aV, rfl, h0, lm _ (by simp), T.kV _, by decide +kernel, _, rfl, ?_⟩
              have e : isCond (.tuple [d0, d1, d2]) = (inS d0 vars && inS d1 signs && isTerm d2) := rfl
              rw [e] at q
              cases c1 : inS d0 vars with
              | false => rw [c1] at q; exact iteF q
              | true =>
                refine iteT ⟨_, rfl, d1, signs, T.aC, rfl, h1, lm _ (by simp), T.kC _, by decide +kernel, _, rfl, ?_⟩
                cases c2 : inS d1 signs with
                | false => rw [c1, c2] at q; exact iteF q
                | true =>
                  rw [c1, c2] at q
                  exact iteT ⟨_, rfl, _, d2, rfl, h2, lm _ (by simp), q⟩
    · refine ite2 (fun _ => ?_) (fun c => absurd ?_ c)
      · have e : isCond (.tuple ds) = false := by
          match ds, h3 with
          | [], _ => rfl
          | [_], _ => rfl
          | [_, _], _ => rfl
          | [_, _, _], h => exact absurd rfl h
          | _ :: _ :: _ :: _ :: _, _ => rfl
        rw [e] at q
        exact q
      · rw [Bool.not_eq_true', decide_eq_false_iff_not]
        intro z
        have z' : ((xs.length : Nat) : Int) = 3 := by injection z
        omega
end
section
variable {P : Program} {w : World} {K : PySem.W.Frag} {mg : Str → Option Value} {base : Heap}
theorem scPart : FnScope ["thing", "role"] ["thing", "role"] (defScope sPart) := ⟨rfl, rfl, rfl, by decide +kernel, rfl, by decide +kernel, by decide +kernel⟩
theorem ok_part {f : Addr} {fd : FuncData} (F : Fun K "is_part" "is_part" sPart f fd) (T : Gs K mg) (CI : Cal P w K mg base 2 "is_integer_from_to" ["thing", "least", "greatest"] (spInt K)) (CT : Cal P w K mg base 3 "is_term" ["thing"] (sp1 isTerm K)) :
    FnOk P w K mg base CX0 4 f fd ["thing", "role"] (spPart K) := by
  refine F.ok scPart (fun vs H Q E h => ?_) (fun cdv A outer s H vs Q E hr h => ?_)
  · obtain ⟨v, d, r, rfl, _⟩ := h
    rfl
  obtain ⟨v, d, r, rfl, hd, ld, q⟩ := h
  have hr1 : Room 2 _ := hr.mono (by decide)
  refine ⟨_, pss_cons (ps_if (pt_cmpR op_eq (pv 1) pe_str (nomark _)) (pss_one (ps_ret (pe_cmpR (op_inS (hu65 hr)) (pv 0) (pe_gref rfl T.mV) (by rfl)))) pss_nil)
    (pss_cons (ps_if (pt_cmpR op_eq (pv 1) pe_str (nomark _)) (pss_one (ps_ret (pe_call CT.G hr rfl CT.m CT.kp CT.b .nil pass0 (pa_cons (pv 0) pa_nil)))) pss_nil)
    (pss_cons (ps_if (pt_cmpR op_eq (pv 1) pe_str (nomark _)) (pss_one (ps_ret (pe_cmpR (op_inS (hu65 hr)) (pv 0) (pe_gref rfl T.mA) (by rfl)))) pss_nil)
    (pss_cons (ps_if (pt_cmpR op_eq (pv 1) pe_str (nomark _)) (pss_one (ps_ret (pe_call CI.G hr1 rfl CI.m CI.kp CI.b .nil pass0 (pa_cons (pv 0) (pa_cons pe_int (pa_cons (pe_gint rfl T.mL) pa_nil)))))) pss_nil)
    (pss_cons (ps_if (pt_cmpR op_eq (pv 1) pe_str (nomark _)) (pss_one (ps_ret (pe_call CI.G hr1 rfl CI.m CI.kp CI.b .nil pass0 (pa_cons (pv 0) (pa_cons pe_int (pa_cons pe_int pa_nil)))))) pss_nil)
    (pss_one (ps_ret (pe_call CI.G hr1 rfl CI.m CI.kp CI.b .nil pass0 (pa_cons (pv 0) (pa_cons pe_int (pa_cons (pe_gint rfl T.mG) pa_nil)))))))))), ?_⟩
  have ne : ∀ {z : Str}, ¬ decide (V.str r = V.str z) = true → ¬ r = z := fun c e => c (decide_eq_true (by rw [e]))
  have eq : ∀ {z : Str}, decide (V.str r = V.str z) = true → r = z := fun c => by
    have c' := of_decide_eq_true c
    injection c'
  unfold isPart at q
  refine ⟨_, rfl, rfl, _, rfl, ite2 (fun c => ?_) (fun c => ?_)⟩
  · rw [if_pos (eq c)] at q
    exact ⟨_, rfl, d, vars, T.aV, rfl, hd, ld, T.kV _, by decide +kernel, q⟩
  rw [if_neg (ne c)] at q
  refine ⟨_, rfl, rfl, _, rfl, ite2 (fun c => ?_) (fun c => ?_)⟩
  · rw [if_pos (eq c)] at q
    exact ⟨_, rfl, v, d, rfl, hd, ld, q⟩
  rw [if_neg (ne c)] at q
  refine ⟨_, rfl, rfl, _, rfl, ite2 (fun c => ?_) (fun c => ?_)⟩
  · rw [if_pos (eq c)] at q
    exact ⟨_, rfl, d, asks, T.aA, rfl, hd, ld, T.kA _, by decide +kernel, q⟩
  rw [if_neg (ne c)] at q
  refine ⟨_, rfl, rfl, _, rfl, ite2 (fun c => ?_) (fun c => ?_)⟩
  · rw [if_pos (eq c)] at q
    exact ⟨_, rfl, v, d, _, _, rfl, hd, q⟩
  rw [if_neg (ne c)] at q
  refine ⟨_, rfl, rfl, _, rfl, ite2 (fun c => ?_) (fun c => ?_)⟩
  · rw [if_pos (eq c)] at q
    exact ⟨_, rfl, v, d, _, _, rfl, hd, q⟩
  rw [if_neg (ne c)] at q
  exact ⟨_, rfl, v, d, _, _, rfl, hd, q⟩
theorem scWord : FnScope ["thing"] ["thing"] (defScope sWord) := ⟨rfl, rfl, rfl, by decide +kernel, rfl, by decide +kernel, by decide +kernel⟩
theorem ok_word {f : Addr} {fd : FuncData} (F : Fun K "word_of" "word_of" sWord f fd) (T : Gs K mg) : FnOk P w K mg base CX0 1 f fd ["thing"] (spWord K) := by
  refine F.ok scWord (fun vs H Q E h => ?_) (fun cdv A outer s H vs Q E hr h => ?_)
  · obtain ⟨v, d, rfl, _⟩ := h
    rfl
  obtain ⟨v, d, rfl, hd, q⟩ := h
  refine ⟨_, pss_cons (ps_if (PW.pt (pw_and (pt_val (pe_callB call_isi (by rfl) T.isi (by decide +kernel) (pa_cons (pv 0) (pa_cons (pe_bltn (v := .ty "tuple") (by rfl) T.tup (by decide +kernel) rfl) pa_nil))))
      (pw_and (pt_cmpR op_gt (pe_callB call_len_seq (by rfl) T.len PySem.boot_len (pa_cons (pv 0) pa_nil)) pe_int (nomark _))
      (pw_and1 (pt_val (pe_callB call_isi (by rfl) T.isi (by decide +kernel) (pa_cons (pe_ix ix_tup (pv 0) pe_int (fun _ _ => rfl)) (pa_cons (pe_bltn (v := .ty "str") (by rfl) T.str (by decide +kernel) rfl) pa_nil))))))))
      (pss_one (ps_ret (pe_ix ix_tup (pv 0) pe_int (fun _ _ => rfl)))) pss_nil) (pss_one (ps_ret pe_non)), ?_⟩
  refine ⟨_, rfl, v, .ty "tuple", _, _, _, rfl, .ty _, dp_ty hd, kit_isT d (by simp) (dp_nd hd), _, rfl, ?_⟩
  cases ht : isT d "tuple" with
  | false =>
    refine iteF (iteF ?_)
    have e : wordOf d = none := by cases d <;> first | rfl | (simp [isT, tyN] at ht)
    rw [e] at q
    exact q
  | true =>
    obtain ⟨ds, rfl⟩ := isT_tup ht
    obtain ⟨a, xs, rfl, hs, ha⟩ := dp_tup_inv hd
    refine iteT ⟨_, rfl, a, xs, rfl, .inr hs, _, _, rfl, rfl, _, rfl, ?_⟩
    cases ha with
    | nil => exact iteF (iteF q)
    | cons h0 t =>
      rename_i x0 xr d0 dr
      have c : decide ((0 : Int) < (((x0 :: xr).length : Nat) : Int)) = true := decide_eq_true (by rw [List.length_cons]; omega)
      rw [c]
      refine iteT ⟨_, rfl, a, _, _, _, rfl, rfl, hs, atI_nat (j := 0) rfl, x0, .ty "str", _, _, _, rfl, .ty _, dp_ty h0, kit_isT d0 (by simp) (dp_nd h0), _, rfl, ?_⟩
      cases hz : isT d0 "str" with
      | false =>
        refine iteF ?_
        have e : wordOf (.tuple (d0 :: dr)) = none := by cases d0 <;> first | rfl | (simp [isT, tyN] at hz)
        rw [e] at q
        exact q
      | true =>
        obtain ⟨z, rfl⟩ := isT_str hz
        cases h0
        exact iteT ⟨_, rfl, a, _, _, _, rfl, rfl, hs, atI_nat (j := 0) rfl, q⟩
end
end My

namespace My
open PySem L2 PyProof.Rows
/-! ### a written dict with text keys, asked by a text or by None -/
inductive Ents : List DictEntry → List (Str × V) → Prop
  | nil : Ents [] []
  | cons {h : Int} {x : Str} {t : Tok} {u : Value} {v : V} {r : List DictEntry} {rs : List (Str × V)} : RelV v u → Ents r rs → Ents (⟨h, .str x t, u⟩ :: r) ((x, v) :: rs)
def lookT (tab : List (Str × V)) (z : Str) : Option V := (tab.find? fun p => p.1 == z).map (·.2)
theorem ents_find : ∀ {l : List DictEntry} {tab : List (Str × V)}, Ents l tab → ∀ z : Str,
    (∃ (e : DictEntry) (v : V), l.find? (fun d => d.key.isStr z) = some e ∧ lookT tab z = some v ∧ RelV v e.val) ∨ (l.find? (fun d => d.key.isStr z) = none ∧ lookT tab z = none)
  | _, _, .nil, z => .inr ⟨rfl, rfl⟩
  | _, _, .cons (x := x) (h := h) (t := t) (u := u) (v := v) (r := l0) (rs := rs) rv r, z => by
    have ih := ents_find r z
    by_cases c : (x == z) = true
    · refine .inl ⟨⟨h, .str x t, u⟩, v, ?_, ?_, rv⟩
      · rw [List.find?_cons_of_pos]
        exact c
      · unfold lookT
        rw [List.find?_cons_of_pos (by exact c)]
        rfl
    · have c1 : List.find? (fun d : DictEntry => d.key.isStr z) (⟨h, .str x t, u⟩ :: l0) = l0.find? (fun d : DictEntry => d.key.isStr z) := List.find?_cons_of_neg (by exact c)
      have c2 : lookT ((x, v) :: rs) z = lookT rs z := by
        unfold lookT
        rw [List.find?_cons_of_neg (by exact c)]
      rw [c2]
      rcases ih with ⟨e, v', h1, h2, h3⟩ | ⟨h1, h2⟩
      · exact .inl ⟨e, v', c1.trans h1, h2, h3⟩
      · exact .inr ⟨c1.trans h1, h2⟩
structure KTab (K : PySem.W.Frag) (w : World) (d : Addr) (tab : List (Str × V)) : Prop where
  ex : ∃ es n, K.lookup d = some ⟨.type "dict", none, .dict es n, #[]⟩ ∧ PySem.W.KeysLit w.params es.toList ∧ Ents es.toList tab
  low : (d == sysModules) = false
theorem findBy_tab {es : Array DictEntry} {tab : List (Str × V)} (E : Ents es.toList tab) (z : Str) :
    (∃ u v, findBy Value.isStrOf es z = some u ∧ lookT tab z = some v ∧ RelV v u) ∨ (findBy Value.isStrOf es z = none ∧ lookT tab z = none) := by
  obtain ⟨l⟩ := es
  have q : (fun d : DictEntry => Value.isStrOf z d.key) = fun d => d.key.isStr z := funext fun d => (PySem.W.isStr_of z d.key).symm
  unfold findBy
  rw [List.find?_toArray, q]
  rcases ents_find E z with ⟨e, v, h1, h2, h3⟩ | ⟨h1, h2⟩
  · exact .inl ⟨e.val, v, by rw [show List.find? (fun d : DictEntry => d.key.isStr z) l = some e from h1]; rfl, h2, h3⟩
  · exact .inr ⟨by rw [show List.find? (fun d : DictEntry => d.key.isStr z) l = none from h1]; rfl, h2⟩
theorem none_mapK {P : Program} {w : World} {K : PySem.W.Frag} {h : Heap} {a : Addr} {es : Array DictEntry} {n : Nat} (X : K.In h) (hl : K.lookup a = some ⟨.type "dict", none, .dict es n, #[]⟩) (hk : PySem.W.KeysLit w.params es.toList) :
    ∃ f, h.MapOf (noneKind P w) a f ∧ f none = none := by
  refine ⟨fun k => findBy (noneKind P w).is es k, ⟨_, es, n, X _ _ hl, ⟨rfl, rfl, rfl⟩, rfl, fun e he => ?_, fun k => rfl⟩, ?_⟩
  · obtain ⟨x, t, e1, e2⟩ := hk.all e (Array.mem_toList_iff.mpr he)
    refine ⟨some (.inr x), ?_, e2⟩
    rw [e1]
    exact strKind_is P w x t
  · have q : (es.find? fun e => nkIs none e.key) = none := by
      rw [Array.find?_eq_none]
      intro e he hq
      obtain ⟨x, t, e1, _⟩ := hk.all e (Array.mem_toList_iff.mpr he)
      rw [e1] at hq
      exact nomatch (show false = true from hq)
    show (es.find? fun e => nkIs none e.key).map (·.val) = none
    rw [q] <;> rfl
def getT (tab : List (Str × V)) (wd : Option Str) : Option V := wd.bind (lookT tab)
section
variable {X : Cx}
def rInK (K : PySem.W.Frag) (w : World) (neg : Bool) : R2 := fun x y H Q => ∃ (d : Addr) (tab : List (Str × V)) (wd : Option Str), y = .ref d ∧ KTab K w d tab ∧ x = wV wd ∧ Q (.bl (if neg then !(getT tab wd).isSome else (getT tab wd).isSome)) H
theorem op_inK : OpR X (compareOp .In) (rInK X.K X.w false) := by
  intro pins s σ H x y v u Q I rx ry h
  obtain ⟨d, tab, wd, rfl, ⟨⟨es, n, hl, hk, he⟩, low⟩, rfl, q⟩ := h
  cases ry
  cases wd with
  | none =>
    cases rx
    obtain ⟨f, hm, hf⟩ := none_mapK (P := X.prog) (w := X.w) I.kIn hl hk
    refine wpAny_in_of (show (noneKind X.prog X.w).is none .none = true from rfl) low hm ?_
    rw [hf]
    exact ⟨.bl _, H, I.tok _, rfl, q⟩
  | some z =>
    obtain ⟨t, rfl⟩ := rx
    refine wpAny_in_of (PySem.strKind_is X.prog X.w z t) low (PySem.W.mapOf_K (prog := X.prog) I.kIn hl hk) ?_
    rcases findBy_tab he z with ⟨u, v, h1, h2, h3⟩ | ⟨h1, h2⟩
    · rw [h1]
      refine ⟨.bl true, H, I.tok _, rfl, ?_⟩
      have e : (getT tab (some z)).isSome = true := by show (lookT tab z).isSome = true; rw [h2]; rfl
      rw [e] at q
      exact q
    · rw [h1]
      refine ⟨.bl false, H, I.tok _, rfl, ?_⟩
      have e : (getT tab (some z)).isSome = false := by show (lookT tab z).isSome = false; rw [h2]; rfl
      rw [e] at q
      exact q
theorem ktab_ix {K : PySem.W.Frag} {w : World} {d : Addr} {tab : List (Str × V)} {z : Str} {v : V} (T : KTab K w d tab) (h : lookT tab z = some v) : KDct K w d z v := by
  obtain ⟨⟨es, n, hl, hk, he⟩, low⟩ := T
  rcases ents_find he z with ⟨e, v', h1, h2, h3⟩ | ⟨h1, h2⟩
  · rw [h] at h2
    cases h2
    refine ⟨es, n, e.val, hl, hk, ?_, h3⟩
    unfold PySem.W.nsIn
    rw [hl]
    dsimp only
    rw [h1]
  · rw [h] at h2
    cases h2
def tGetK (K : PySem.W.Frag) (w : World) (to : TE) (t : TA) : TE := fun σ H Q => to σ H fun x H1 => ∃ (d : Addr) (tab : List (Str × V)), x = .ref d ∧ KTab K w d tab ∧ t σ H1 fun ys H2 => ∃ wd : Option Str, ys = [wV wd] ∧ Q ((getT tab wd).getD .non) H2
variable {o e : Expr} {es : List Expr} {to : TE} {t : TA} {apos cpos : Pos}
theorem pe_getK (ho : PE X o to) (ha : PA X [e] t)
    (hbase : attributeBase o "get" X.env (eval o X.env) = eval o X.env := by rfl)
    (hfew : ((backTo cpos (starEach [e] X.env)).all (fun x => !x.1) && (backToKw cpos (keywordEach [] X.env)).all (fun x => x.1.isSome)
      && decide ([e].length + ([] : List Keyword).length + (if ([] : List Keyword).isEmpty then 0 else 1) < 30)) = true := by rfl)
    (hline : (apos.endLine == cpos.line) = true := by rfl) (hs : starEach [e] X.env = (false, eval e X.env) :: starEach [] X.env := by rfl) (hplain : (backTo cpos (starEach [] X.env)).any (·.1) = false := by rfl) :
    PE X (.Call (.Attribute o "get" apos) [e] [] cpos) (tGetK X.K X.w to t) := by
  refine ⟨fun pins s σ H Q I h => ?_⟩
  refine wpAny_Call_method_late hbase hfew hline rfl (thn (ho.run pins s σ H _ I h) fun v s1 ⟨x, H1, I1, r1, d, tab, ex, KT, q1⟩ => ?_)
  obtain ⟨⟨es, n, hl, hk, he⟩, low⟩ := KT
  subst ex
  obtain rfl : v = Value.ref d := r1
  have hm0 := PySem.W.mapOf_K (prog := X.prog) (w := X.w) I1.kIn hl hk
  refine ⟨"dict", "dict.get", PySem.F.plainAttrs_dict, PySem.F.slot_dict_get, PySem.F.type_dict_get, hm0.typeIs, fun a e2 => ?_, ?_⟩
  · cases e2
    exact ⟨_, I1.kIn _ _ hl, rfl⟩
  have hA := ha.run cpos pins s1 σ H1 _ I1 q1
  rw [hs] at hA ⊢
  refine Calls.callWith_builtin (by show (false || (backTo cpos (starEach [] X.env)).any (·.1)) = false; rw [hplain] <;> rfl) (Calls.evalArgs_plain ?_)
  refine thn hA fun us s2 ⟨vs, H2, I2, r2, wd, ev, q2⟩ => ?_
  subst ev
  obtain ⟨u, rfl, ru⟩ := Vals.one r2
  have hm := PySem.W.mapOf_K (prog := X.prog) (w := X.w) I2.kIn hl hk
  cases wd with
  | none =>
    cases ru
    obtain ⟨f, hmn, hf⟩ := none_mapK (P := X.prog) (w := X.w) I2.kIn hl hk
    refine call_meetsIn PySem.F.slot_dict_get hm.typeIs PySem.F.entry_dict_get (PySem.F.args_dict_get_2 _ _) (meets_dict_get (noneKind X.prog X.w) d (show (noneKind X.prog X.w).is none .none = true from rfl) low) ⟨f, hmn, ?_⟩
    rw [hf]
    exact ⟨.non, H2, I2.tok _, rfl, q2⟩
  | some z =>
    obtain ⟨t, rfl⟩ := ru
    refine call_meetsIn PySem.F.slot_dict_get hm.typeIs PySem.F.entry_dict_get (PySem.F.args_dict_get_2 _ _) (meets_dict_get (strKind X.prog X.w) d (PySem.strKind_is X.prog X.w z t) low) ⟨_, hm, ?_⟩
    rcases findBy_tab he z with ⟨u, v, h1, h2, h3⟩ | ⟨h1, h2⟩
    · rw [h1]
      have e : getT tab (some z) = some v := h2
      rw [e] at q2
      exact ⟨v, H2, I2.tok _, h3, q2⟩
    · rw [h1]
      have e : getT tab (some z) = none := h2
      rw [e] at q2
      exact ⟨.non, H2, I2.tok _, rfl, q2⟩
end
theorem lookT_eq {x : Str} {v : V} {r : List (Str × V)} : lookT ((x, v) :: r) x = some v := by
  unfold lookT
  rw [List.find?_cons_of_pos (by exact beq_self_eq_true x)]
  rfl
theorem lookT_ne {x z : Str} {v : V} {r : List (Str × V)} (h : ¬ z = x) : lookT ((x, v) :: r) z = lookT r z := by
  unfold lookT
  rw [List.find?_cons_of_neg (by intro c; exact h (eq_of_beq (show (x == z) = true from c)).symm)]
structure Gd (K : PySem.W.Frag) (w : World) (mg : Str → Option Value) where
  aB : Addr
  mB : mg "BODIES" = some (.ref aB)
  tB : KTab K w aB [("if", .int 2), ("while", .int 1)]
  aS : Addr
  r1 : Addr
  r2 : Addr
  r3 : Addr
  mS : mg "SHARED_ROLES" = some (.ref aS)
  tS : KTab K w aS [("set", .ref r1), ("add", .ref r2), ("wait", .ref r3)]
  k1 : ∀ H, SqT K H r1 ((["variable", "value"] : List Str).map V.str)
  k2 : ∀ H, SqT K H r2 ((["variable", "term"] : List Str).map V.str)
  k3 : ∀ H, SqT K H r3 ((["steps"] : List Str).map V.str)
  aT : Addr
  r4 : Addr
  r5 : Addr
  mT : mg "TELLER_ROLES" = some (.ref aT)
  tT : KTab K w aT [("ask", .ref r4), ("answer", .ref r5)]
  k4 : ∀ H, SqT K H r4 ((["sign", "term", "variable"] : List Str).map V.str)
  k5 : ∀ H, SqT K H r5 ((["answer"] : List Str).map V.str)
  aC : Addr
  r6 : Addr
  r7 : Addr
  mC : mg "COLLECTOR_ROLES" = some (.ref aC)
  tC : KTab K w aC [("grow", .ref r6), ("list", .ref r7)]
  k6 : ∀ H, SqT K H r6 ((["term"] : List Str).map V.str)
  k7 : ∀ H, SqT K H r7 ((["term"] : List Str).map V.str)
def rolesZ (z kind : Str) : Option (List Str) :=
  if z = "set" then some ["variable", "value"] else if z = "add" then some ["variable", "term"] else if z = "wait" then some ["steps"]
  else if kind = "teller" then (if z = "ask" then some ["sign", "term", "variable"] else if z = "answer" then some ["answer"] else none)
  else (if z = "grow" then some ["term"] else if z = "list" then some ["term"] else none)
def rolesOf (wd : Option Str) (kind : Str) : Option (List Str) := wd.bind fun z => rolesZ z kind
def allParts (ps : List PyData) (rs : List Str) : Bool := ((ps.zip rs).map fun p => isPart p.1 p.2).all id
def isPlain (d : PyData) (kind : Str) : Bool := match d with
  | .tuple (.str z :: ps) => (match rolesZ z kind with
    | some rs => decide (ps.length = rs.length) && allParts ps rs
    | none => false)
  | _ => false
def cond3 : List PyData → Bool
  | [c, _, _] => isCond c
  | _ => false
def cond2 : List PyData → Bool
  | [c, _] => isCond c
  | _ => false
/-- a statement, whatever its bodies are -/
def isOut (d : PyData) (kind : Str) : Bool := match d with
  | .tuple (.str z :: ps) => if z = "if" then cond3 ps else if z = "while" then cond2 ps else isPlain d kind
  | _ => false
def bodsOf (d : PyData) : List PyData := match d with
  | .tuple (.str z :: ps) => if z = "if" ∨ z = "while" then ps.drop 1 else []
  | _ => []
def spRoles (K : PySem.W.Frag) : Sp := fun vs H Q _ => ∃ (wd : Option Str) (kind : Str), vs = [wV wd, .str kind] ∧ (rolesOf wd kind = none → Q .non H) ∧
  (∀ rs a, rolesOf wd kind = some rs → (∀ H, SqT K H a (rs.map V.str)) → Q (.ref a) H)
def sp2 (f : PyData → Str → Bool) (K : PySem.W.Frag) : Sp := fun vs H Q _ => ∃ (v : V) (d : PyData) (kind : Str), vs = [v, .str kind] ∧ Dp K H v d ∧ Lay d ∧ ∀ H', Same H H' → Q (.bl (f d kind)) H'
section
variable {P : Program} {w : World} {K : PySem.W.Frag} {mg : Str → Option Value} {base : Heap}
theorem scRoles : FnScope ["word", "kind"] ["word", "kind"] (defScope sRoles) := ⟨rfl, rfl, rfl, by decide +kernel, rfl, by decide +kernel, by decide +kernel⟩
theorem ok_roles {f : Addr} {fd : FuncData} (F : Fun K "roles_of" "roles_of" sRoles f fd) (D : Gd K w mg) : FnOk P w K mg base CX0 1 f fd ["word", "kind"] (spRoles K) := by
  refine F.ok scRoles (fun vs H Q E h => ?_) (fun cdv A outer s H vs Q E hr h => ?_)
  · obtain ⟨wd, kind, rfl, _⟩ := h
    rfl
  obtain ⟨wd, kind, rfl, q0, q1⟩ := h
  refine ⟨_, pss_cons (ps_if (pt_cmpR op_inK (pv 0) (pe_gref rfl D.mS) (by rfl)) (pss_one (ps_ret (pe_ix ix_kdict (pe_gref rfl D.mS) (pv 0) (fun _ _ => rfl)))) pss_nil)
    (pss_cons (ps_if (pt_cmpR op_eq (pv 1) pe_str (nomark _)) (pss_one (ps_ret (pe_getK (pe_gref rfl D.mT) (pa_cons (pv 0) pa_nil)))) pss_nil)
    (pss_one (ps_ret (pe_getK (pe_gref rfl D.mC) (pa_cons (pv 0) pa_nil))))), ?_⟩
  refine ⟨_, rfl, D.aS, _, wd, rfl, D.tS, rfl, _, rfl, ?_⟩
  have keq : ∀ {z : Str}, decide (V.str kind = V.str z) = true → kind = z := fun c => by
    have c' := of_decide_eq_true c
    injection c'
  have kne : ∀ {z : Str}, ¬ decide (V.str kind = V.str z) = true → ¬ kind = z := fun c e => c (decide_eq_true (by rw [e]))
  cases wd with
  | none =>
    refine iteF ?_
    refine ⟨_, rfl, rfl, _, rfl, ite2 (fun c => ?_) (fun c => ?_)⟩
    · exact ⟨D.aT, _, rfl, D.tT, _, rfl, none, rfl, q0 rfl⟩
    · exact ⟨D.aC, _, rfl, D.tC, _, rfl, none, rfl, q0 rfl⟩
  | some z =>
    have eG : ∀ tab, getT tab (some z) = lookT tab z := fun _ => rfl
    rw [eG]
    have eR : rolesOf (some z) kind = rolesZ z kind := rfl
    rw [eR] at q0
    have q1' : ∀ rs a, rolesZ z kind = some rs → (∀ H, SqT K H a (rs.map V.str)) → Q (.ref a) H := q1
    unfold rolesZ at q0 q1'
    by_cases c1 : z = "set"
    · subst c1
      rw [lookT_eq]
      exact iteT ⟨_, rfl, D.aS, _, _, rfl, rfl, ktab_ix D.tS lookT_eq, q1' _ _ (if_pos rfl) D.k1⟩
    rw [lookT_ne c1]
    rw [if_neg c1] at q0 q1'
    by_cases c2 : z = "add"
    · subst c2
      rw [lookT_eq]
      exact iteT ⟨_, rfl, D.aS, _, _, rfl, rfl, ktab_ix D.tS (by rw [lookT_ne c1, lookT_eq]), q1' _ _ (if_pos rfl) D.k2⟩
    rw [lookT_ne c2]
    rw [if_neg c2] at q0 q1'
    by_cases c3 : z = "wait"
    · subst c3
      rw [lookT_eq]
      exact iteT ⟨_, rfl, D.aS, _, _, rfl, rfl, ktab_ix D.tS (by rw [lookT_ne c1, lookT_ne c2, lookT_eq]), q1' _ _ (if_pos rfl) D.k3⟩
    rw [lookT_ne c3]
    rw [if_neg c3] at q0 q1'
    refine iteF ?_
    refine ⟨_, rfl, rfl, _, rfl, ite2 (fun c => ?_) (fun c => ?_)⟩
    · rw [if_pos (keq c)] at q0 q1'
      refine ⟨D.aT, _, rfl, D.tT, _, rfl, some z, rfl, ?_⟩
      rw [eG]
      by_cases c4 : z = "ask"
      · subst c4
        rw [lookT_eq]
        exact q1' _ _ (if_pos rfl) D.k4
      rw [lookT_ne c4]
      rw [if_neg c4] at q0 q1'
      by_cases c5 : z = "answer"
      · subst c5
        rw [lookT_eq]
        exact q1' _ _ (if_pos rfl) D.k5
      rw [lookT_ne c5]
      rw [if_neg c5] at q0 q1'
      exact q0 rfl
    · rw [if_neg (kne c)] at q0 q1'
      refine ⟨D.aC, _, rfl, D.tC, _, rfl, some z, rfl, ?_⟩
      rw [eG]
      by_cases c4 : z = "grow"
      · subst c4
        rw [lookT_eq]
        exact q1' _ _ (if_pos rfl) D.k6
      rw [lookT_ne c4]
      rw [if_neg c4] at q0 q1'
      by_cases c5 : z = "list"
      · subst c5
        rw [lookT_eq]
        exact q1' _ _ (if_pos rfl) D.k7
      rw [lookT_ne c5]
      rw [if_neg c5] at q0 q1'
      exact q0 rfl
end
/-! ### a comprehension over zip of two tuples -/
theorem lc_zipT {K : PySem.W.Frag} {a b : Addr} {xs ys : List V} {g : TG} {tt : TT} {te : TE} {vs : List Nat} {σ : L2.St} {H1 : Hp} {D : Addr} {Qd : Hp → Prop} (hl : xs.length = ys.length) (Pv : Nat → Hp → Prop) (h0 : Pv 0 (upd H1 D (.lst []))) (hq : ∀ i H, Pv i H → SqT K H a xs ∧ SqT K H b ys)
    (hs : ∀ i x y T H, xs[i]? = some x → ys[i]? = some y → Pv i H → H T = none → g (.ref T) (wipe σ vs) (upd H T (.tup [x, y])) fun σ2 H2 => wipe σ2 vs = wipe σ vs ∧ tt σ2 H2 fun b H3 =>
      if b = true then te σ2 H3 fun y H4 => ∃ acc, H4 D = some (.lst acc) ∧ acc.length < sizeLine ∧ Pv (i + 1) (upd H4 D (.lst (acc ++ [y]))) else Pv (i + 1) H3) (hd : ∀ H, Pv xs.length H → Qd H) :
    ∃ W : Nat → Nat → Hp → Prop, (∃ m, W 0 m (upd H1 D (.lst []))) ∧ ∀ i m H, W i m H →
      ((RZ.ItzT K a b).stop i H ∧ Qd H) ∨ ((RZ.ItzT K a b).go i H ∧ ∃ Nx : Hp → Prop, (∀ H', Nx H' → ∃ m', m' < m ∧ W (i + 1) m' H') ∧ ∀ x H', (RZ.ItzT K a b).yld i H x H' → g x (wipe σ vs) H' fun σ2 H2 => wipe σ2 vs = wipe σ vs ∧ tt σ2 H2 fun b H3 =>
        if b = true then te σ2 H3 fun y H4 => ∃ acc, H4 D = some (.lst acc) ∧ acc.length < sizeLine ∧ Nx (upd H4 D (.lst (acc ++ [y]))) else Nx H3) := by
  refine ⟨fun i m H => m = xs.length - i ∧ i ≤ xs.length ∧ Pv i H, ⟨xs.length, by simp, Nat.zero_le _, h0⟩, ?_⟩
  rintro i m H ⟨rfl, hi, p⟩
  obtain ⟨q1, q2⟩ := hq i H p
  by_cases hlt : i < xs.length
  · have hlt2 : i < ys.length := by omega
    refine .inr ⟨⟨xs, ys, xs[i], ys[i], q1, q2, by simp [hlt], by simp [hlt2]⟩, Pv (i + 1), fun H' p' => ⟨xs.length - (i + 1), by omega, rfl, hlt, p'⟩, fun v H' y => ?_⟩
    obtain ⟨T, x, y, rfl, hT, rfl, hx, hy⟩ := y
    exact hs i x y T H (hx xs q1) (hy ys q2) p hT
  · have e : i = xs.length := by omega
    subst e
    exact .inl ⟨⟨xs, ys, q1, q2, .inl (Nat.le_refl _)⟩, hd H p⟩
theorem same_upd {H H' : Hp} {D : Addr} (e : Same H H') (n : H D = none) (o : HO) : Same H (upd H' D o) := fun b u q => by
  rw [upd_ne (ne_of_none q n)]
  exact e _ _ q
def partsB (ps : List PyData) (rs : List Str) : List Bool := (ps.zip rs).map fun p => isPart p.1 p.2
theorem word_inv {d : PyData} {z : Str} (h : wordOf d = some z) : ∃ ps, d = .tuple (.str z :: ps) := by
  match d, h with
  | .tuple (.str x :: ps), h => cases h; exact ⟨ps, rfl⟩
theorem plain_none {d : PyData} {kind : Str} (h : rolesOf (wordOf d) kind = none) : isPlain d kind = false := by
  match d, h with
  | .tuple (.str x :: ps), h =>
    have h' : rolesZ x kind = none := h
    show (match rolesZ x kind with | some rs => decide (ps.length = rs.length) && allParts ps rs | none => false) = false
    rw [h']
  | .tuple [], _ => rfl
  | .tuple (.none :: _), _ => rfl
  | .tuple (.bool _ :: _), _ => rfl
  | .tuple (.int _ :: _), _ => rfl
  | .tuple (.list _ :: _), _ => rfl
  | .tuple (.tuple _ :: _), _ => rfl
  | .tuple (.dict _ :: _), _ => rfl
  | .none, _ => rfl
  | .bool _, _ => rfl
  | .int _, _ => rfl
  | .str _, _ => rfl
  | .list _, _ => rfl
  | .dict _, _ => rfl
theorem plain_some {z kind : Str} {ps : List PyData} {rs : List Str} (h : rolesZ z kind = some rs) : isPlain (.tuple (.str z :: ps)) kind = (decide (ps.length = rs.length) && allParts ps rs) := by
  show (match rolesZ z kind with | some rs => decide (ps.length = rs.length) && allParts ps rs | none => false) = _
  rw [h]
theorem roles_short {z kind : Str} {rs : List Str} (h : rolesZ z kind = some rs) : rs.length ≤ 3 := by
  unfold rolesZ at h
  repeat' split at h
  all_goals first | (cases h; decide) | (cases h)
theorem cut1 (x : V) (xs : List V) : cutV (x :: xs) (some 1) none = xs := by
  have e : HT.sIx (x :: xs).length 0 (some 1) = 1 := by
    have := HT.sIx_nat (x :: xs).length 0 1
    rw [show ((1 : Nat) : Int) = 1 from rfl] at this
    rw [this, List.length_cons]
    omega
  unfold cutV
  rw [e, HT.sIx_none]
  simp
theorem not_whole1 (x : V) (xs : List V) : ¬ (HT.sIx (x :: xs).length 0 (some 1) = 0 ∧ HT.sIx (x :: xs).length (x :: xs).length none = (x :: xs).length) := by
  intro h
  have e : HT.sIx (x :: xs).length 0 (some 1) = 1 := by
    have := HT.sIx_nat (x :: xs).length 0 1
    rw [show ((1 : Nat) : Int) = 1 from rfl] at this
    rw [this, List.length_cons]
    omega
  rw [e] at h
  exact absurd h.1 (by decide)
section
variable {P : Program} {w : World} {K : PySem.W.Frag} {mg : Str → Option Value} {base : Heap}
theorem scPlain : FnScope ["thing", "kind", "roles", "part", "role"] ["thing", "kind"] (defScope sPlain) := ⟨rfl, rfl, rfl, by decide +kernel, rfl, by decide +kernel, by decide +kernel⟩
theorem ok_plain {f : Addr} {fd : FuncData} (F : Fun K "is_plain_statement" "is_plain_statement" sPlain f fd) (T : Gs K mg) (CW : Cal P w K mg base 1 "word_of" ["thing"] (spWord K)) (CR : Cal P w K mg base 1 "roles_of" ["word", "kind"] (spRoles K))
    (CP : Cal P w K mg base 4 "is_part" ["thing", "role"] (spPart K)) : FnOk P w K mg base CX0 5 f fd ["thing", "kind"] (sp2 isPlain K) := by
  refine F.ok scPlain (fun vs H Q E h => ?_) (fun cdv A outer s H vs Q E hr h => ?_)
  · obtain ⟨v, d, kind, rfl, _⟩ := h
    rfl
  obtain ⟨v, d, kind, rfl, hd, ld, q⟩ := h
  have hr1 : Room 1 _ := hr.mono (by decide)
  refine ⟨_, pss_cons (ps_set (i := 2) scPlain.nd rfl (.inl rfl) (pe_call CR.G hr1 rfl CR.m CR.kp CR.b .nil pass0 (pa_cons (pe_call CW.G hr1 rfl CW.m CW.kp CW.b .nil pass0 (pa_cons (pv 0) pa_nil)) (pa_cons (pv 1) pa_nil))))
    (pss_cons (ps_if (PW.pt (pw_or (pt_cmpR op_isN (pv 2) pe_non (nomark _)) (pw_or1 (pt_cmpR op_ne (pe_callB call_len_seq (by rfl) T.len PySem.boot_len (pa_cons (pv 0) pa_nil)) (pe_op op_add pe_int (pe_callB call_len_seq (by rfl) T.len PySem.boot_len (pa_cons (pv 2) pa_nil))) (nomark _)))))
      (pss_one (ps_ret pe_bl)) pss_nil)
    (pss_one (ps_ret (pe_callB (cr_all rfl) (by rfl) T.all (by decide +kernel) (pa_cons
      (pe_lc (own := [("part", 3), ("role", 4)]) (g := gTup K 2 (gCons (gName 3) (gCons (gName 4) gNil))) (tt := tYes) rfl scPlain.nd
        (RZ.pi_zipA (by rfl) T.zip (pa_cons (pe_slice sl_tup (pv 0) (po_some pe_int) po_none) (pa_cons (pv 2) pa_nil)))
        (blkOk_by (N := ["thing", "kind", "roles", "part", "role"]) (sc := defScope sPlain) (by decide +kernel))
        (fun _ _ _ _ _ => pg_tup (by rfl) (pgs_cons (pg_name (i := 3) scPlain.nd rfl (.inl rfl)) (pgs_cons (pg_name (i := 4) scPlain.nd rfl (.inl rfl)) pgs_nil)))
        (fun _ _ _ _ _ => pts_nil)
        (fun _ _ _ _ _ => pe_call CP.G hr rfl CP.m CP.kp CP.b .nil pass0 (pa_cons (pv 3) (pa_cons (pv 4) pa_nil)))) pa_nil))))), ?_⟩
  refine ⟨_, rfl, v, d, rfl, hd, _, rfl, wordOf d, kind, rfl, fun hn => ?_, fun rs a hs ka => ?_⟩
  · rw [plain_none hn] at q
    exact ⟨_, rfl, rfl, _, rfl, ite2 (fun _ => iteT (q H (Same.refl H))) (fun c => absurd (decide_eq_true rfl) c)⟩
  · refine ⟨_, rfl, rfl, _, rfl, ite2 (fun c => nomatch (of_decide_eq_true c)) (fun _ => ?_)⟩
    cases hw : wordOf d with
    | none => rw [hw] at hs; cases hs
    | some z =>
      obtain ⟨ps, rfl⟩ := word_inv hw
      have hs' : rolesZ z kind = some rs := by rw [hw] at hs; exact hs
      have h3 := roles_short hs'
      rw [plain_some hs'] at q
      obtain ⟨a0, xs, rfl, h0, ha⟩ := dp_tup_inv hd
      cases ha with
      | cons hz hp =>
        rename_i x0 xr
        have hl := dpAll_len hp
        refine ⟨_, rfl, a0, _, rfl, .inr h0, _, rfl, a, _, rfl, .inr (ka _), _, _, rfl, rfl, rfl, _, rfl, ?_⟩
        by_cases c : ps.length = rs.length
        · have c' : V.int (((x0 :: xr).length : Nat) : Int) = V.int (1 + ((rs.map V.str).length : Nat)) := by
            rw [List.length_cons, List.length_map, hl, c]
            congr 1
            omega
          refine iteNS c' ?_
          rw [decide_eq_true c, Bool.true_and] at q
          refine ⟨_, rfl, _, rfl, a0, _, rfl, h0, not_whole1 _ _, fun p np => ⟨_, rfl, p, a, _, _, rfl, .inr ⟨SqT.of upd_same, ka _, fun D nD => ?_⟩⟩⟩
          rw [cut1] at nD ⊢
          have g1 : Same H (upd H p (.tup xr)) := same_new np _
          refine lc_zipT (K := K) (a := p) (b := a) (xs := xr) (ys := rs.map V.str) (by rw [List.length_map]; omega)
            (fun i H' => Same (upd H p (.tup xr)) H' ∧ H' D = some (.lst (((partsB ps rs).take i).map V.bl))) ⟨same_upd (Same.refl _) nD _, upd_same⟩
            (fun i H' P => ⟨SqT.of (P.1 _ _ upd_same), ka _⟩) ?_ ?_
          · rintro i x y T H' hx hy ⟨s1, eD⟩ nT
            obtain ⟨di, hdi, hxd⟩ := dpAll_get hp hx
            rw [List.getElem?_map] at hy
            cases hri : rs[i]? with
            | none => rw [hri] at hy; cases hy
            | some ri =>
              rw [hri] at hy
              cases hy
              have sT : Same H' (upd H' T (.tup [x, V.str ri])) := same_new nT _
              have nDT : D ≠ T := ne_of_none eD nT
              refine ⟨T, _, rfl, SqT.of upd_same, rfl, _, _, rfl, _, _, rfl, rfl, rfl, ?_⟩
              refine ⟨_, rfl, _, rfl, x, di, ri, rfl, dp_mono (g1.trans (s1.trans sT)) _ _ hxd, ?_, _, sT _ _ eD, ?_, ?_, ?_⟩
              · exact lay_mem (lay_tup ld) _ (List.mem_cons_of_mem _ (List.mem_of_getElem? hdi))
              · rw [List.length_map, List.length_take, partsB, List.length_map, List.length_zip]
                exact Nat.lt_of_le_of_lt (by omega : _ ≤ 1000) (by decide)
              · exact same_upd (s1.trans sT) nD _
              · rw [upd_same]
                congr 2
                have hz : (ps.zip rs)[i]? = some (di, ri) := by rw [List.getElem?_zip_eq_some]; exact ⟨hdi, hri⟩
                have hm : (partsB ps rs)[i]? = some (isPart di ri) := by rw [partsB, List.getElem?_map, hz]; rfl
                have hil : i < (partsB ps rs).length := (List.getElem?_eq_some_iff.mp hm).1
                rw [← List.take_append_getElem hil, List.map_append]
                congr 1
                rw [(List.getElem?_eq_some_iff.mp hm).2]
                rfl
          · rintro H' ⟨s1, eD⟩
            refine ⟨D, partsB ps rs, rfl, SqL.of ?_, q _ (g1.trans s1)⟩
            rw [eD, List.take_of_length_le]
            rw [partsB, List.length_map, List.length_zip]
            omega
        · rw [decide_eq_false c, Bool.false_and] at q
          refine ite2 (fun _ => q H (Same.refl H)) (fun c2 => absurd ?_ c2)
          rw [Bool.not_eq_true', decide_eq_false_iff_not]
          intro z
          have z' : (((x0 :: xr).length : Nat) : Int) = 1 + ((rs.map V.str).length : Nat) := by injection z
          rw [List.length_cons, List.length_map] at z'
          omega
end
theorem out_none {d : PyData} {kind : Str} (h : wordOf d = none) : isOut d kind = isPlain d kind := by
  match d, h with
  | .tuple [], _ => rfl
  | .tuple (.none :: _), _ => rfl
  | .tuple (.bool _ :: _), _ => rfl
  | .tuple (.int _ :: _), _ => rfl
  | .tuple (.list _ :: _), _ => rfl
  | .tuple (.tuple _ :: _), _ => rfl
  | .tuple (.dict _ :: _), _ => rfl
  | .none, _ => rfl
  | .bool _, _ => rfl
  | .int _, _ => rfl
  | .str _, _ => rfl
  | .list _, _ => rfl
  | .dict _, _ => rfl
theorem if_while : ¬ (("while" : Str) = "if") := by decide +kernel
theorem out_if {kind : Str} {ps : List PyData} : isOut (.tuple (.str "if" :: ps)) kind = cond3 ps := by
  simp [isOut]
theorem out_while {kind : Str} {ps : List PyData} : isOut (.tuple (.str "while" :: ps)) kind = cond2 ps := by
  simp [isOut, if_while]
theorem out_else {z kind : Str} {ps : List PyData} (h1 : ¬ z = "if") (h2 : ¬ z = "while") : isOut (.tuple (.str z :: ps)) kind = isPlain (.tuple (.str z :: ps)) kind := by
  show (if z = "if" then _ else if z = "while" then _ else _) = _
  rw [if_neg h1, if_neg h2]
theorem cut2 (xs : List V) : cutV xs (some 2) none = xs.drop 2 := by
  have e := HT.sIx_nat xs.length 0 2
  rw [show ((2 : Nat) : Int) = 2 from rfl] at e
  unfold cutV
  rw [e, HT.sIx_none]
  by_cases h : 2 ≤ xs.length
  · rw [Nat.min_eq_left h, List.take_of_length_le (by rw [List.length_drop]; omega)]
  · rw [Nat.min_eq_right (by omega), List.drop_of_length_le (Nat.le_refl _), List.drop_of_length_le (by omega)]
    simp
theorem not_whole2 {xs : List V} (h : 0 < xs.length) : ¬ (HT.sIx xs.length 0 (some 2) = 0 ∧ HT.sIx xs.length xs.length none = xs.length) := by
  intro c
  have e := HT.sIx_nat xs.length 0 2
  rw [show ((2 : Nat) : Int) = 2 from rfl] at e
  rw [e] at c
  omega
theorem dpAll_drop {K : PySem.W.Frag} {H : Hp} : ∀ (n : Nat) {xs : List V} {ds : List PyData}, DpAll K H xs ds → DpAll K H (xs.drop n) (ds.drop n)
  | 0, _, _, h => h
  | n + 1, _, _, .nil => .nil
  | n + 1, _, _, .cons _ t => dpAll_drop n t
def spBods (K : PySem.W.Frag) : Sp := fun vs H Q _ => ∃ (v : V) (z : Str) (ps : List PyData) (H0 : Hp), vs = [v] ∧ Same H0 H ∧ Dp K H0 v (.tuple (.str z :: ps)) ∧
  ∀ H' b ys, Same H H' → SqT K H' b ys → DpAll K H0 ys (bodsOf (.tuple (.str z :: ps))) → Q (.ref b) H'
section
variable {P : Program} {w : World} {K : PySem.W.Frag} {mg : Str → Option Value} {base : Heap}
theorem scOut : FnScope ["thing", "kind", "word"] ["thing", "kind"] (defScope sOut) := ⟨rfl, rfl, rfl, by decide +kernel, rfl, by decide +kernel, by decide +kernel⟩
theorem ok_out {f : Addr} {fd : FuncData} (F : Fun K "is_outside_of_statement" "is_outside_of_statement" sOut f fd) (T : Gs K mg) (D : Gd K w mg) (CW : Cal P w K mg base 1 "word_of" ["thing"] (spWord K))
    (CC : Cal P w K mg base 4 "is_condition" ["thing"] (sp1 isCond K)) (CP : Cal P w K mg base 5 "is_plain_statement" ["thing", "kind"] (sp2 isPlain K)) : FnOk P w K mg base CX0 6 f fd ["thing", "kind"] (sp2 isOut K) := by
  refine F.ok scOut (fun vs H Q E h => ?_) (fun cdv A outer s H vs Q E hr h => ?_)
  · obtain ⟨v, d, kind, rfl, _⟩ := h
    rfl
  obtain ⟨v, d, kind, rfl, hd, ld, q⟩ := h
  have hr1 : Room 1 _ := hr.mono (by decide)
  have hr3 : Room 4 _ := hr.mono (by decide)
  refine ⟨_, pss_cons (ps_set (i := 2) scOut.nd rfl (.inl rfl) (pe_call CW.G hr1 rfl CW.m CW.kp CW.b .nil pass0 (pa_cons (pv 0) pa_nil)))
    (pss_cons (ps_if (pt_cmpR op_inK (pv 2) (pe_gref rfl D.mB) (by rfl))
      (pss_one (ps_ret (pe_and (pe_cmpR op_eq (pe_callB call_len_seq (by rfl) T.len PySem.boot_len (pa_cons (pv 0) pa_nil)) (pe_op op_add pe_int (pe_ix ix_kdict (pe_gref rfl D.mB) (pv 2) (fun _ _ => rfl))) (nomark _))
        (pe_one (pe_call CC.G hr3 rfl CC.m CC.kp CC.b .nil pass0 (pa_cons (pe_ix ix_tup (pv 0) pe_int (fun _ _ => rfl)) pa_nil)))))) pss_nil)
    (pss_one (ps_ret (pe_call CP.G hr rfl CP.m CP.kp CP.b .nil pass0 (pa_cons (pv 0) (pa_cons (pv 1) pa_nil)))))), ?_⟩
  refine ⟨_, rfl, v, d, rfl, hd, _, rfl, D.aB, _, wordOf d, rfl, D.tB, rfl, _, rfl, ?_⟩
  cases hw : wordOf d with
  | none =>
    rw [out_none hw] at q
    exact iteF ⟨_, rfl, _, rfl, v, d, kind, rfl, hd, ld, q⟩
  | some z =>
    obtain ⟨ps, rfl⟩ := word_inv hw
    have eG : ∀ tab, getT tab (some z) = lookT tab z := fun _ => rfl
    rw [eG]
    obtain ⟨a0, xs, rfl, h0, ha⟩ := dp_tup_inv hd
    have hl := dpAll_len ha
    have lm := lay_mem (lay_tup ld)
    by_cases c1 : z = "if"
    · subst c1
      rw [lookT_eq]
      refine iteT ⟨_, rfl, a0, _, rfl, .inr h0, _, rfl, D.aB, _, _, rfl, rfl, ktab_ix D.tB lookT_eq, _, _, rfl, rfl, rfl, _, rfl, ?_⟩
      rw [out_if] at q
      by_cases c : xs.length = 4
      · rw [decide_eq_true (show V.int ((xs.length : Nat) : Int) = V.int (2 + 2) by rw [c]; rfl)]
        have c3 : ps.length = 3 := by rw [List.length_cons] at hl; omega
        match ps, c3, q, ha, lm with
        | [c0, b1, b2], _, q, .cons hz (.cons hc _), lm =>
          exact iteT ⟨_, rfl, a0, _, _, _, rfl, rfl, h0, atI_nat (j := 1) rfl, _, c0, rfl, hc, lm _ (by simp), q H (Same.refl H)⟩
      · rw [decide_eq_false (show ¬ V.int ((xs.length : Nat) : Int) = V.int (2 + 2) from fun e => c (by injection e; omega))]
        refine iteF ?_
        have c3 : ¬ ps.length = 3 := by rw [List.length_cons] at hl; omega
        match ps, c3, q with
        | [], _, q => exact q H (Same.refl H)
        | [_], _, q => exact q H (Same.refl H)
        | [_, _], _, q => exact q H (Same.refl H)
        | [_, _, _], c3, _ => exact absurd rfl c3
        | _ :: _ :: _ :: _ :: _, _, q => exact q H (Same.refl H)
    rw [lookT_ne c1]
    by_cases c2 : z = "while"
    · subst c2
      rw [lookT_eq]
      refine iteT ⟨_, rfl, a0, _, rfl, .inr h0, _, rfl, D.aB, _, _, rfl, rfl, ktab_ix D.tB (by rw [lookT_ne c1, lookT_eq]), _, _, rfl, rfl, rfl, _, rfl, ?_⟩
      rw [out_while] at q
      by_cases c : xs.length = 3
      · rw [decide_eq_true (show V.int ((xs.length : Nat) : Int) = V.int (2 + 1) by rw [c]; rfl)]
        have c3 : ps.length = 2 := by rw [List.length_cons] at hl; omega
        match ps, c3, q, ha, lm with
        | [c0, b1], _, q, .cons hz (.cons hc _), lm =>
          exact iteT ⟨_, rfl, a0, _, _, _, rfl, rfl, h0, atI_nat (j := 1) rfl, _, c0, rfl, hc, lm _ (by simp), q H (Same.refl H)⟩
      · rw [decide_eq_false (show ¬ V.int ((xs.length : Nat) : Int) = V.int (2 + 1) from fun e => c (by injection e; omega))]
        refine iteF ?_
        have c3 : ¬ ps.length = 2 := by rw [List.length_cons] at hl; omega
        match ps, c3, q with
        | [], _, q => exact q H (Same.refl H)
        | [_], _, q => exact q H (Same.refl H)
        | [_, _], c3, _ => exact absurd rfl c3
        | _ :: _ :: _ :: _, _, q => exact q H (Same.refl H)
    rw [lookT_ne c2]
    rw [out_else c1 c2] at q
    exact iteF ⟨_, rfl, _, rfl, _, _, kind, rfl, hd, ld, q⟩
theorem scBodies : FnScope ["statement"] ["statement"] (defScope sBodies) := ⟨rfl, rfl, rfl, by decide +kernel, rfl, by decide +kernel, by decide +kernel⟩
theorem ok_bodies {f : Addr} {fd : FuncData} (F : Fun K "bodies_of" "bodies_of" sBodies f fd) (T : Gs K mg) (D : Gd K w mg) : FnOk P w K mg base CX0 1 f fd ["statement"] (spBods K) := by
  refine F.ok scBodies (fun vs H Q E h => ?_) (fun cdv A outer s H vs Q E hr h => ?_)
  · obtain ⟨v, z, ps, H0, rfl, _⟩ := h
    rfl
  obtain ⟨v, z, ps, H0, rfl, s0, hd, q⟩ := h
  obtain ⟨a0, xs, rfl, h0', ha⟩ := dp_tup_inv hd
  have h0 : SqT K H a0 xs := Same.tup s0 h0'
  refine ⟨_, pss_one (ps_ret (pe_ifExp (pt_cmpR op_inK (pe_ix ix_tup (pv 0) pe_int (fun _ _ => rfl)) (pe_gref rfl D.mB) (by rfl)) (pe_slice sl_tup (pv 0) (po_some pe_int) po_none) (pe_tup pa_nil))), ?_⟩
  cases ha with
  | cons hz hp =>
    cases hz
    rename_i xr
    have eB : bodsOf (.tuple (.str z :: ps)) = if z = "if" ∨ z = "while" then ps.drop 1 else [] := rfl
    refine ⟨_, rfl, a0, _, _, _, rfl, rfl, h0, atI_nat (j := 0) rfl, D.aB, _, some z, rfl, D.tB, rfl, _, rfl, ?_⟩
    have eG : ∀ tab, getT tab (some z) = lookT tab z := fun _ => rfl
    rw [eG]
    rw [eB] at q
    by_cases c : z = "if" ∨ z = "while"
    · have e : (lookT [(("if" : Str), V.int 2), ("while", V.int 1)] z).isSome = true := by
        rcases c with rfl | rfl
        · rw [lookT_eq]; rfl
        · rw [lookT_ne if_while, lookT_eq]; rfl
      rw [if_pos c] at q
      refine ite2 (fun _ => ?_) (fun c2 => absurd e c2)
      refine ⟨_, rfl, _, rfl, a0, _, rfl, h0, not_whole2 (by rw [List.length_cons]; omega), fun p np => ?_⟩
      rw [cut2]
      exact q _ p _ (same_new np _) (SqT.of upd_same) (dpAll_drop 1 hp)
    · rw [if_neg c] at q
      have e : (lookT [(("if" : Str), V.int 2), ("while", V.int 1)] z).isSome = false := by
        rw [lookT_ne (fun e => c (.inl e)), lookT_ne (fun e => c (.inr e))]
        rfl
      refine ite2 (fun c2 => ?_) (fun _ => ⟨by show 0 ≤ sizeLine; decide, fun p np => ?_⟩)
      · have c3 : (lookT [(("if" : Str), V.int 2), ("while", V.int 1)] z).isSome = true := c2
        rw [e] at c3
        cases c3
      · exact q _ p _ (same_new np _) (SqT.of upd_same) .nil
end
/-! ### counting statements -/
def addO : Option Nat → Option Nat → Option Nat
  | some a, some b => some (a + b)
  | _, _ => none
def sumO : List (Option Nat) → Option Nat
  | [] => some 0
  | x :: r => addO x (sumO r)
theorem addO_none (x : Option Nat) : addO x none = none := by cases x <;> rfl
theorem none_addO (x : Option Nat) : addO none x = none := by cases x <;> rfl
theorem addO_assoc (x y z : Option Nat) : addO (addO x y) z = addO x (addO y z) := by
  cases x <;> cases y <;> cases z <;> simp [addO, Nat.add_assoc]
theorem addO_comm (x y : Option Nat) : addO x y = addO y x := by
  cases x <;> cases y <;> simp [addO, Nat.add_comm]
theorem zero_addO (x : Option Nat) : addO (some 0) x = x := by cases x <;> simp [addO]
theorem addO_zero (x : Option Nat) : addO x (some 0) = x := by cases x <;> simp [addO]
theorem sumO_append (xs ys : List (Option Nat)) : sumO (xs ++ ys) = addO (sumO xs) (sumO ys) := by
  induction xs with
  | nil => exact (zero_addO _).symm
  | cons x r ih => rw [List.cons_append]; simp only [sumO]; rw [ih, addO_assoc]
def bodyN (kind : Str) : Nat → PyData → Option Nat
  | 0, .tuple [] => some 0
  | 0, _ => none
  | r + 1, .tuple ss => sumO (ss.map fun s => if isOut s kind = true then addO (some 1) (sumO ((bodsOf s).map (bodyN kind r))) else none)
  | _ + 1, _ => none
def stN (kind : Str) (r : Nat) (s : PyData) : Option Nat := if isOut s kind = true then addO (some 1) (sumO ((bodsOf s).map (bodyN kind r))) else none
theorem bodyN_tup (kind : Str) (r : Nat) (ss : List PyData) : bodyN kind (r + 1) (.tuple ss) = sumO (ss.map (stN kind r)) := by
  simp only [bodyN]
  rfl
def okN (many : Nat) : Option Nat → Bool
  | some n => decide (many + n ≤ 24)
  | none => false
def isProg (d : PyData) : Bool := match d with
  | .tuple [.str k, b] => inS (.str k) kinds && okN 0 (bodyN k 4 b)
  | _ => false
def tot (kind : Str) (stk : List (PyData × Nat)) : Option Nat := sumO (stk.map fun p => bodyN kind (5 - p.2) p.1)
def good (kind : Str) (many : Nat) (stk : List (PyData × Nat)) : Bool := okN many (tot kind stk)
theorem tot_append (kind : Str) (a b : List (PyData × Nat)) : tot kind (a ++ b) = addO (tot kind a) (tot kind b) := by
  unfold tot
  rw [List.map_append, sumO_append]
theorem tot_one (kind : Str) (p : PyData × Nat) : tot kind [p] = bodyN kind (5 - p.2) p.1 := by
  unfold tot
  simp only [List.map_cons, List.map_nil, sumO, addO_zero]
theorem okN_none (m : Nat) : okN m none = false := rfl
theorem okN_add (m k : Nat) (x : Option Nat) : okN m (addO (some k) x) = okN (m + k) x := by
  cases x with
  | none => rfl
  | some n => simp only [addO, okN]; congr 1; rw [Nat.add_assoc]
theorem bodyN_no (kind : Str) (r : Nat) {d : PyData} (h : isT d "tuple" = false) : bodyN kind r d = none := by
  cases d <;> first | (cases r <;> rfl) | (simp [isT, tyN] at h)
theorem stN_ge {kind : Str} {r n : Nat} {s : PyData} (h : stN kind r s = some n) : 1 ≤ n := by
  unfold stN at h
  split at h
  · cases e : sumO ((bodsOf s).map (bodyN kind r)) with
    | none => rw [e] at h; cases h
    | some m =>
      rw [e] at h
      have : 1 + m = n := by injection h
      omega
  · cases h
theorem sumO_ge {kind : Str} {r : Nat} : ∀ {ss : List PyData} {n : Nat}, sumO (ss.map (stN kind r)) = some n → ss.length ≤ n
  | [], _, _ => Nat.zero_le _
  | s :: t, n, h => by
    simp only [List.map_cons, sumO] at h
    cases e1 : stN kind r s with
    | none => rw [e1, none_addO] at h; cases h
    | some a =>
      cases e2 : sumO (t.map (stN kind r)) with
      | none => rw [e2, addO_none] at h; cases h
      | some b =>
        rw [e1, e2] at h
        have e : a + b = n := by injection h
        have h1 := stN_ge e1
        have h2 := sumO_ge e2
        rw [List.length_cons]
        omega
/-- too many, or too deep -/
theorem good_over {kind : Str} {many dep : Nat} {st : List (PyData × Nat)} {ss : List PyData} (h : 24 < many + ss.length ∨ (0 < ss.length ∧ 4 < dep)) : good kind many (st ++ [(.tuple ss, dep)]) = false := by
  unfold good
  rw [tot_append, tot_one]
  show okN many (addO (tot kind st) (bodyN kind (5 - dep) (.tuple ss))) = false
  cases e : bodyN kind (5 - dep) (.tuple ss) with
  | none => rw [addO_none]; rfl
  | some n =>
    cases e1 : tot kind st with
    | none => rfl
    | some a =>
      show decide (many + (a + n) ≤ 24) = false
      rw [decide_eq_false_iff_not]
      cases hr : 5 - dep with
      | zero =>
        rw [hr] at e
        cases ss with
        | nil => rcases h with h | ⟨h, _⟩
                 · simp at h; omega
                 · simp at h
        | cons s t => simp [bodyN] at e
      | succ r =>
        rw [hr, bodyN_tup] at e
        have g := sumO_ge e
        rcases h with h | ⟨_, h⟩
        · omega
        · omega
theorem good_no {kind : Str} {many dep : Nat} {st : List (PyData × Nat)} {d : PyData} (h : isT d "tuple" = false) : good kind many (st ++ [(d, dep)]) = false := by
  unfold good
  rw [tot_append, tot_one]
  show okN many (addO (tot kind st) (bodyN kind (5 - dep) d)) = false
  rw [bodyN_no kind _ h, addO_none]
  rfl
theorem sumO_none {kind : Str} {r : Nat} {s : PyData} (h : isOut s kind = false) : ∀ {ss : List PyData}, s ∈ ss → sumO (ss.map (stN kind r)) = none
  | x :: t, m => by
    simp only [List.map_cons, sumO]
    rcases List.mem_cons.mp m with e | m
    · subst e
      have e : stN kind r s = none := by unfold stN; rw [if_neg (by rw [h]; decide)]
      rw [e, none_addO]
    · rw [sumO_none h m, addO_none]
theorem good_bad {kind : Str} {many dep : Nat} {st : List (PyData × Nat)} {ss : List PyData} {s : PyData} (h : isOut s kind = false) (m : s ∈ ss) : good kind many (st ++ [(.tuple ss, dep)]) = false := by
  unfold good
  rw [tot_append, tot_one]
  show okN many (addO (tot kind st) (bodyN kind (5 - dep) (.tuple ss))) = false
  have e : bodyN kind (5 - dep) (.tuple ss) = none := by
    cases 5 - dep with
    | zero =>
      cases ss with
      | nil => cases m
      | cons _ _ => rfl
    | succ r => rw [bodyN_tup, sumO_none h m]
  rw [e, addO_none]
  rfl
def pushes (dep : Nat) (ss : List PyData) : List (PyData × Nat) := ss.flatMap fun s => (bodsOf s).map fun b => (b, dep + 1)
theorem sumO_all {kind : Str} {r dep : Nat} (hr : 5 - (dep + 1) = r) : ∀ {ss : List PyData}, (∀ s ∈ ss, isOut s kind = true) → sumO (ss.map (stN kind r)) = addO (some ss.length) (tot kind (pushes dep ss))
  | [], _ => rfl
  | s :: t, h => by
    have ih := sumO_all hr (ss := t) (fun x m => h x (List.mem_cons_of_mem _ m))
    simp only [List.map_cons, sumO]
    rw [ih]
    have e : stN kind r s = addO (some 1) (sumO ((bodsOf s).map (bodyN kind r))) := by unfold stN; rw [if_pos (h s (by simp))]
    have e2 : tot kind (pushes dep (s :: t)) = addO (sumO ((bodsOf s).map (bodyN kind r))) (tot kind (pushes dep t)) := by
      unfold pushes
      rw [List.flatMap_cons, tot_append]
      congr 1
      unfold tot
      rw [List.map_map]
      congr 2
      funext b
      show bodyN kind (5 - (dep + 1)) b = _
      rw [hr]
    rw [e, e2]
    cases sumO ((bodsOf s).map (bodyN kind r)) with
    | none => simp [addO, none_addO]
    | some a =>
      cases tot kind (pushes dep t) with
      | none => simp [addO]
      | some b => simp only [addO, List.length_cons]; congr 1; omega
theorem good_step {kind : Str} {many dep : Nat} {st : List (PyData × Nat)} {ss : List PyData} (hd : dep ≤ 5) (h4 : 0 < ss.length → dep ≤ 4) (h : ∀ s ∈ ss, isOut s kind = true) :
    good kind (many + ss.length) (st ++ pushes dep ss) = good kind many (st ++ [(.tuple ss, dep)]) := by
  unfold good
  rw [tot_append, tot_append, tot_one]
  show _ = okN many (addO (tot kind st) (bodyN kind (5 - dep) (.tuple ss)))
  have e : bodyN kind (5 - dep) (.tuple ss) = addO (some ss.length) (tot kind (pushes dep ss)) := by
    by_cases c : dep ≤ 4
    · have e1 : 5 - dep = (5 - (dep + 1)) + 1 := by omega
      rw [e1, bodyN_tup, sumO_all (dep := dep) rfl h]
    · have z : ss = [] := by
        cases ss with
        | nil => rfl
        | cons _ _ => exact absurd (h4 (by simp)) c
      subst z
      have e1 : 5 - dep = 0 := by omega
      rw [e1]
      rfl
  rw [e, ← addO_assoc, addO_comm (tot kind st) (some ss.length), addO_assoc, okN_add]
/-! ### a measure -/
mutual
def sz : PyData → Nat
  | .tuple xs => 1 + szAll xs
  | .list xs => 1 + szAll xs
  | .none | .bool _ | .int _ | .str _ | .dict _ => 1
def szAll : List PyData → Nat
  | [] => 0
  | x :: xs => sz x + szAll xs
end
def tsz : List (PyData × Nat) → Nat
  | [] => 0
  | p :: r => sz p.1 + tsz r
theorem tsz_append : ∀ a b : List (PyData × Nat), tsz (a ++ b) = tsz a + tsz b
  | [], b => by simp [tsz]
  | x :: r, b => by rw [List.cons_append]; simp only [tsz]; rw [tsz_append r b]; omega
theorem tsz_map (dep : Nat) : ∀ bs : List PyData, tsz (bs.map fun b => (b, dep)) = szAll bs
  | [] => rfl
  | x :: r => by simp only [List.map_cons, tsz, szAll]; rw [tsz_map dep r]
theorem szAll_drop : ∀ (n : Nat) (bs : List PyData), szAll (bs.drop n) ≤ szAll bs
  | 0, bs => Nat.le_refl _
  | n + 1, [] => Nat.le_refl _
  | n + 1, x :: r => by
    rw [List.drop_succ_cons]
    have := szAll_drop n r
    simp only [szAll]
    omega
theorem bods_sz (s : PyData) : szAll (bodsOf s) ≤ sz s := by
  match s with
  | .tuple (.str z :: ps) =>
    show szAll (if z = "if" ∨ z = "while" then ps.drop 1 else []) ≤ _
    simp only [sz, szAll]
    split
    · have := szAll_drop 1 ps
      omega
    · simp [szAll]
  | .tuple [] => exact Nat.zero_le _
  | .tuple (.none :: _) => exact Nat.zero_le _
  | .tuple (.bool _ :: _) => exact Nat.zero_le _
  | .tuple (.int _ :: _) => exact Nat.zero_le _
  | .tuple (.list _ :: _) => exact Nat.zero_le _
  | .tuple (.tuple _ :: _) => exact Nat.zero_le _
  | .tuple (.dict _ :: _) => exact Nat.zero_le _
  | .none => exact Nat.zero_le _
  | .bool _ => exact Nat.zero_le _
  | .int _ => exact Nat.zero_le _
  | .str _ => exact Nat.zero_le _
  | .list _ => exact Nat.zero_le _
  | .dict _ => exact Nat.zero_le _
theorem pushes_sz (dep : Nat) : ∀ ss : List PyData, tsz (pushes dep ss) ≤ szAll ss
  | [] => Nat.le_refl _
  | s :: t => by
    have e : pushes dep (s :: t) = (bodsOf s).map (fun b => (b, dep + 1)) ++ pushes dep t := by unfold pushes; rw [List.flatMap_cons]
    rw [e, tsz_append, tsz_map]
    have h1 := bods_sz s
    have h2 := pushes_sz dep t
    simp only [szAll]
    omega
theorem out_word {s : PyData} {kind : Str} (h : isOut s kind = true) : ∃ z ps, s = .tuple (.str z :: ps) := by
  cases hw : wordOf s with
  | some z => obtain ⟨ps, e⟩ := word_inv hw; exact ⟨z, ps, e⟩
  | none =>
    rw [out_none hw] at h
    have : rolesOf (wordOf s) kind = none := by rw [hw]; rfl
    rw [plain_none this] at h
    cases h
theorem bods_short {s : PyData} {kind : Str} (h : isOut s kind = true) : (bodsOf s).length ≤ 2 := by
  obtain ⟨z, ps, rfl⟩ := out_word h
  show (if z = "if" ∨ z = "while" then ps.drop 1 else []).length ≤ 2
  split
  · rename_i c
    rcases c with rfl | rfl
    · rw [out_if] at h
      match ps, h with
      | [_, _, _], _ => simp
    · rw [out_while] at h
      match ps, h with
      | [_, _], _ => simp
  · decide
theorem pushes_len {kind : Str} (dep : Nat) : ∀ {ss : List PyData}, (∀ s ∈ ss, isOut s kind = true) → (pushes dep ss).length ≤ 2 * ss.length
  | [], _ => Nat.le_refl _
  | s :: t, h => by
    have e : pushes dep (s :: t) = (bodsOf s).map (fun b => (b, dep + 1)) ++ pushes dep t := by unfold pushes; rw [List.flatMap_cons]
    rw [e, List.length_append, List.length_map, List.length_cons]
    have h1 := bods_short (h s (by simp))
    have h2 := pushes_len dep (ss := t) (fun x m => h x (List.mem_cons_of_mem _ m))
    omega
theorem pushes_snoc (dep : Nat) (a : List PyData) (s : PyData) : pushes dep (a ++ [s]) = pushes dep a ++ (bodsOf s).map fun b => (b, dep + 1) := by
  unfold pushes
  rw [List.flatMap_append, List.flatMap_cons, List.flatMap_nil, List.append_nil]
theorem while_m {c : TT} {tb : TS} {D : Ends} {σ : L2.St} {H : Hp} (Pv : Nat → L2.St → Hp → Prop) {m0 : Nat} (h0 : Pv m0 σ H)
    (hs : ∀ m σ H, Pv m σ H → c σ H fun b H1 => if b = true then tb { D with nx := fun σ' H' => ∃ m', m' < m ∧ Pv m' σ' H', ct := fun σ' H' => ∃ m', m' < m ∧ Pv m' σ' H', bk := D.nx } σ H1 else D.nx σ H1)
    (mono : ∀ σ H Q Q', (∀ b H1, Q b H1 → Q' b H1) → c σ H Q → c σ H Q') : tWhile c tb D σ H := by
  refine ⟨Pv, ⟨_, h0⟩, ?_⟩
  intro m σ H p
  refine mono σ H _ _ (fun b H1 q => ?_) (hs m σ H p)
  cases b with
  | true => exact ⟨_, fun σ' H' p' => p', q⟩
  | false => exact q
theorem seq_while {c : TT} {tb u : TS} {D : Ends} {σ : L2.St} {H : Hp} (h : tWhile c tb { D with nx := u D } σ H) : tSeq (tWhile c tb) u D σ H := h
/-- the things on the pile: pairs (body, depth) -/
def Itm (K : PySem.W.Frag) (H0 H : Hp) (x : V) (p : PyData × Nat) : Prop := ∃ (t : Addr) (v : V), x = .ref t ∧ H t = some (.tup [v, .int (p.2 : Nat)]) ∧ Dp K H0 v p.1 ∧ Lay p.1 ∧ p.2 ≤ 5
inductive Items (K : PySem.W.Frag) (H0 H : Hp) : List V → List (PyData × Nat) → Prop
  | nil : Items K H0 H [] []
  | cons {x : V} {xs : List V} {p : PyData × Nat} {ps : List (PyData × Nat)} : Itm K H0 H x p → Items K H0 H xs ps → Items K H0 H (x :: xs) (p :: ps)
section
variable {K : PySem.W.Frag} {H0 H H' : Hp}
theorem Items.len : ∀ {xs : List V} {ps : List (PyData × Nat)}, Items K H0 H xs ps → xs.length = ps.length
  | _, _, .nil => rfl
  | _, _, .cons _ t => by rw [List.length_cons, List.length_cons, t.len]
theorem Items.append : ∀ {xs ys : List V} {ps qs : List (PyData × Nat)}, Items K H0 H xs ps → Items K H0 H ys qs → Items K H0 H (xs ++ ys) (ps ++ qs)
  | _, _, _, _, .nil, h => h
  | _, _, _, _, .cons i t, h => .cons i (t.append h)
theorem Items.snoc : ∀ (xs : List V) {y : V} {ps : List (PyData × Nat)}, Items K H0 H (xs ++ [y]) ps → ∃ st p, ps = st ++ [p] ∧ Items K H0 H xs st ∧ Itm K H0 H y p
  | [], _, _, .cons i .nil => ⟨[], _, rfl, .nil, i⟩
  | x :: r, _, _, .cons i t => by
    obtain ⟨st, p, e, h1, h2⟩ := Items.snoc r t
    exact ⟨_ :: st, p, by rw [e]; rfl, .cons i h1, h2⟩
theorem Itm.keep {l : Addr} {x : V} {p : PyData × Nat} (i : Itm K H0 H x p) (e : ∀ b o, b ≠ l → H b = some o → H' b = some o) {ys : List V} (hl : H l = some (.lst ys)) : Itm K H0 H' x p := by
  obtain ⟨t, v, e1, e2, r⟩ := i
  exact ⟨t, v, e1, e t _ (ne_of e2 hl (by intro z; cases z)) e2, r⟩
theorem Items.keep {l : Addr} {ys : List V} (e : ∀ b o, b ≠ l → H b = some o → H' b = some o) (hl : H l = some (.lst ys)) : ∀ {xs : List V} {ps : List (PyData × Nat)}, Items K H0 H xs ps → Items K H0 H' xs ps
  | _, _, .nil => .nil
  | _, _, .cons i t => .cons (i.keep e hl) (t.keep e hl)
theorem Items.mono (e : Same H H') : ∀ {xs : List V} {ps : List (PyData × Nat)}, Items K H0 H xs ps → Items K H0 H' xs ps
  | _, _, .nil => .nil
  | _, _, .cons ⟨t, v, e1, e2, r⟩ s => .cons ⟨t, v, e1, e _ _ e2, r⟩ (s.mono e)
end
def spProg (K : PySem.W.Frag) : Sp := fun vs H Q _ => ∃ (v : V) (d : PyData), vs = [v] ∧ Dp K H v d ∧ Lay d ∧ ∀ H', Same H H' → Q (.bl (isProg d)) H'
section
variable {P : Program} {w : World} {K : PySem.W.Frag} {mg : Str → Option Value} {base : Heap}
theorem scProg : FnScope ["thing", "kind", "many", "pending", "body", "depth", "statement", "inner"] ["thing"] (defScope sProg) := ⟨rfl, rfl, rfl, by decide +kernel, rfl, by decide +kernel, by decide +kernel⟩
theorem dp_two {H : Hp} {xs : List V} {ds : List PyData} (h : DpAll K H xs ds) (l : ds.length = 2) : ∃ x0 x1 d0 d1, xs = [x0, x1] ∧ ds = [d0, d1] ∧ Dp K H x0 d0 ∧ Dp K H x1 d1 := by
  match ds, l, h with
  | [d0, d1], _, .cons (v := x0) h0 (.cons (v := x1) h1 .nil) => exact ⟨x0, x1, d0, d1, rfl, rfl, h0, h1⟩
theorem take_snoc {α : Type} {l : List α} {j : Nat} {x : α} (h : l[j]? = some x) : l.take (j + 1) = l.take j ++ [x] := by
  rw [List.take_add_one, h]
  rfl
theorem bods_lay {s : PyData} (h : Lay s) : ∀ b ∈ bodsOf s, Lay b := by
  intro b m
  match s, h, m with
  | .tuple (.str z :: ps), h, m =>
    have m' : b ∈ (if z = "if" ∨ z = "while" then ps.drop 1 else []) := m
    split at m'
    · exact lay_mem (lay_tup h) b (List.mem_cons_of_mem _ (List.mem_of_mem_drop m'))
    · cases m'
theorem loop_ok {D : Ends} {H H1 : Hp} {k : Str} {n dep : Nat} {a0 pl ab : Addr} {xs ys : List V} {ss : List PyData} {st : List (PyData × Nat)} {s6 : Option V} (sH1 : Same H H1) (nplH : H pl = none) (hp1 : H1 pl = some (.lst ys)) (it1 : Items K H H1 ys st)
    (hab : SqT K H ab xs) (hss : DpAll K H xs ss) (lay : PyData.canLayAll0 ss = true) (hdep : dep ≤ 5) (h4 : 0 < ss.length → dep ≤ 4) (h24 : ss.length ≤ 24) (hst : st.length ≤ 100)
    (hF : ∀ s, s ∈ ss → isOut s k = false → ∀ H', Same H H' → D.rt (.bl false) H')
    (hN : ∀ H' ys' s6, (∀ s ∈ ss, isOut s k = true) → Same H H' → H' pl = some (.lst ys') → Items K H H' ys' (st ++ pushes dep ss) →
      D.nx [some (.ref a0), some (.str k), some (.int (n : Nat)), some (.ref pl), some (.ref ab), some (.int (dep : Nat)), s6, none] H') :
    tFor (iTup K (tVar 4)) (gName 6) (tSeq (tIfS (tNot (tB (tCall (sp2 isOut K) [] E0 (tCons (tVar 6) (tCons (tVar 1) tNil))))) (tRet (tC (.bl false))) tNext)
      (tDrop (tBM K "list" rExtend (tVar 3) (tCons (tLc (iTup K (tCall (spBods K) [] E0 (tCons (tVar 6) tNil))) (gName 7) tYes (tTup (tCons (tVar 7) (tCons (tOp (rI0 fun i j => V.int (i + j)) (tVar 5) (tC (V.int 1))) tNil))) [7]) tNil))))
      D [some (.ref a0), some (.str k), some (.int (n : Nat)), some (.ref pl), some (.ref ab), some (.int (dep : Nat)), s6, none] H1 := by
  have hl := dpAll_len hss
  refine ⟨_, rfl, ab, rfl, ⟨_, Same.tup sH1 hab⟩, for_tup (K := K) (a := ab) (xs := xs)
    (fun i σ H' => ∃ (ys' : List V) (s6 : Option V), σ = [some (.ref a0), some (.str k), some (.int (n : Nat)), some (.ref pl), some (.ref ab), some (.int (dep : Nat)), s6, none] ∧ (∀ s ∈ ss.take i, isOut s k = true) ∧ Same H H' ∧ H' pl = some (.lst ys') ∧
      Items K H H' ys' (st ++ pushes dep (ss.take i))) ⟨ys, s6, rfl, by simp, sH1, hp1, by simpa [pushes] using it1⟩ (fun i σ H' _ ⟨_, _, _, _, s1, _⟩ => Same.tup s1 hab) ?_ ?_⟩
  · rintro i x σ H' hx ⟨ys', s6', rfl, hall, s1, hp', it'⟩
    obtain ⟨si, hsi, hxd⟩ := dpAll_get hss hx
    have hil : i < ss.length := (List.getElem?_eq_some_iff.mp hsi).1
    have msi : si ∈ ss := List.mem_of_getElem? hsi
    have lsi : Lay si := lay_mem lay _ msi
    refine ⟨_, rfl, _, rfl, x, si, k, rfl, dp_mono s1 _ _ hxd, lsi, fun H2 s2 => ⟨_, rfl, ?_⟩⟩
    cases ho : isOut si k with
    | false => exact iteT (hF si msi ho H2 (s1.trans s2))
    | true =>
      refine iteF ?_
      obtain ⟨z, ps, rfl⟩ := out_word ho
      have h4' := h4 (by omega)
      refine ⟨_, rfl, .inl ⟨rfl, _, SqL.of (s2 _ _ hp')⟩, _, rfl, x, z, ps, H, rfl, s1.trans s2, hxd, fun H3 b zs s3 hb hz => ⟨b, rfl, ⟨_, hb⟩, fun Dn nD => ?_⟩⟩
      refine lc_tup (K := K) (a := b) (xs := zs) (fun j H4 => Same H3 H4 ∧ ∃ acc, H4 Dn = some (.lst acc) ∧ Items K H H4 acc (((bodsOf (.tuple (.str z :: ps))).take j).map fun b => (b, dep + 1)))
        ⟨same_upd (Same.refl _) nD _, [], upd_same, .nil⟩ (fun j H4 _ P => Same.tup P.1 hb) ?_ ?_
      · rintro j y H4 hy ⟨s4, acc, eD, itA⟩
        obtain ⟨bj, hbj, hyd⟩ := dpAll_get hz hy
        refine ⟨rfl, ?_⟩
        refine ⟨_, rfl, _, rfl, _, _, rfl, rfl, (by show 2 ≤ sizeLine; decide), fun T nT => ⟨acc, ?_, ?_, ?_, _, upd_same, ?_⟩⟩
        · rw [upd_ne (ne_of_none eD nT)]
          exact eD
        · have e := itA.len
          rw [List.length_map, List.length_take] at e
          have e2 := bods_short ho
          exact Nat.lt_of_le_of_lt (by omega : _ ≤ 1000) (by decide)
        · exact same_upd (s4.trans (same_new nT _)) nD _
        · rw [take_snoc hbj, List.map_append]
          have nTD : T ≠ Dn := fun e => by rw [← e, nT] at eD; cases eD
          have g : ∀ b o, b ≠ Dn → (upd H4 T (.tup [y, .int ((dep : Int) + 1)])) b = some o → (upd (upd H4 T (.tup [y, .int ((dep : Int) + 1)])) Dn (.lst (acc ++ [.ref T]))) b = some o := fun b o n e => by rw [upd_ne n]; exact e
          have eD' : (upd H4 T (.tup [y, .int ((dep : Int) + 1)])) Dn = some (.lst acc) := by rw [upd_ne (ne_of_none eD nT)]; exact eD
          refine ((itA.mono (same_new nT _)).keep g eD').append (.cons ⟨T, y, rfl, ?_, hyd, bods_lay lsi _ (List.mem_of_getElem? hbj), by show dep + 1 ≤ 5; omega⟩ .nil)
          rw [upd_ne nTD, upd_same]
          rfl
      · rintro H4 ⟨s4, acc, eD, itA⟩
        have hzl := dpAll_len hz
        rw [hzl, List.take_length] at itA
        have s24 := s2.trans (s3.trans s4)
        have hp4 := s24 _ _ hp'
        have nDp : Dn ≠ pl := fun e => by
          have := (s2.trans s3) _ _ hp'
          rw [← e, nD] at this
          cases this
        refine ⟨pl, Dn, ys', acc, rfl, rfl, hp4, eD, ?_, ys' ++ acc, _, rfl, ?_, same_upd (s1.trans s24) nplH _, upd_same, ?_⟩
        · have e1 := it'.len
          have e2 := itA.len
          have e3 := bods_short ho
          have e4 := pushes_len (kind := k) dep hall
          rw [List.length_append] at e1
          rw [List.length_map] at e2
          rw [List.length_take] at e4
          exact Nat.le_of_lt (Nat.lt_of_le_of_lt (by omega : _ ≤ 1000) (by decide))
        · intro s ms
          rw [take_snoc hsi] at ms
          rcases List.mem_append.mp ms with m | m
          · exact hall s m
          · rw [List.mem_singleton.mp m]
            exact ho
        · rw [take_snoc hsi, pushes_snoc, ← List.append_assoc]
          have g : ∀ b o, b ≠ pl → H4 b = some o → (upd H4 pl (.lst (ys' ++ acc))) b = some o := fun b o n e => by rw [upd_ne n]; exact e
          exact ((it'.mono s24).keep g hp4).append (itA.keep g hp4)
  · rintro σ H' ⟨ys', s6', rfl, hall, s1, hp', it'⟩
    rw [hl, List.take_length] at hall it'
    exact hN H' ys' s6' hall s1 hp' it'
theorem prog_no {d : PyData} (h : ∀ k b, d ≠ .tuple [.str k, b]) : isProg d = false := by
  unfold isProg
  split
  · rename_i k b; exact absurd rfl (h k b)
  · rfl
theorem ok_prog {f : Addr} {fd : FuncData} (F : Fun K "is_program" "is_program" sProg f fd) (T : Gs K mg) (CO : Cal P w K mg base 6 "is_outside_of_statement" ["thing", "kind"] (sp2 isOut K))
    (CB : Cal P w K mg base 1 "bodies_of" ["statement"] (spBods K)) : FnOk P w K mg base CX0 7 f fd ["thing"] (spProg K) := by
  refine F.ok scProg (fun vs H Q E h => ?_) (fun cdv A outer s H vs Q E hr h => ?_)
  · obtain ⟨v, d, rfl, _⟩ := h
    rfl
  obtain ⟨v, d, rfl, hd, ld, q⟩ := h
  have hr1 : Room 1 _ := hr.mono (by decide)
  refine ⟨_, pss_cons (ps_if (PW.pt (pw_or (pt_not (pt_val (pe_callB call_isi (by rfl) T.isi (by decide +kernel) (pa_cons (pv 0) (pa_cons (pe_bltn (v := .ty "tuple") (by rfl) T.tup (by decide +kernel) rfl) pa_nil)))))
      (pw_or (pt_cmpR op_ne (pe_callB call_len_seq (by rfl) T.len PySem.boot_len (pa_cons (pv 0) pa_nil)) pe_int (nomark _))
      (pw_or1 (pt_cmpR (op_notInS (hu65 hr)) (pe_ix ix_tup (pv 0) pe_int (fun _ _ => rfl)) (pe_gref rfl T.mK) (by rfl)))))) (pss_one (ps_ret pe_bl)) pss_nil)
    (pss_cons (ps_set (i := 1) scProg.nd rfl (.inl rfl) (pe_ix ix_tup (pv 0) pe_int (fun _ _ => rfl)))
    (pss_cons (ps_set (i := 2) scProg.nd rfl (.inl rfl) pe_int)
    (pss_cons (ps_set (i := 3) scProg.nd rfl (.inl rfl) (pe_lst (pa_cons (pe_tup (pa_cons (pe_ix ix_tup (pv 0) pe_int (fun _ _ => rfl)) (pa_cons pe_int pa_nil))) pa_nil)))
    (pss_cons (ps_while PassesOwn.never (pt_truth (pv 3) (by intro _; rfl))
      (pss_cons (ps_asg (pe_bm0 PySem.F.plainAttrs_list PySem.F.slot_list_pop PySem.F.type_list_pop mt_pop (pv 3)) (pg_tup (by rfl) (pgs_cons (pg_name (i := 4) scProg.nd rfl (.inl rfl)) (pgs_cons (pg_name (i := 5) scProg.nd rfl (.inr rfl)) pgs_nil))))
      (pss_cons (ps_if (pt_not (pt_val (pe_callB call_isi (by rfl) T.isi (by decide +kernel) (pa_cons (pv 4) (pa_cons (pe_bltn (v := .ty "tuple") (by rfl) T.tup (by decide +kernel) rfl) pa_nil))))) (pss_one (ps_ret pe_bl)) pss_nil)
      (pss_cons (ps_aug (i := 2) scProg.nd rfl (.inl rfl) (pe_callB call_len_seq (by rfl) T.len PySem.boot_len (pa_cons (pv 4) pa_nil)) ip_add)
      (pss_cons (ps_if (PW.pt (pw_or (pt_cmpR op_gt (pv 2) (pe_gint rfl T.mS) (nomark _)) (pw_or1 (PW.pt (pw_and (pt_cmpR op_gt (pe_callB call_len_seq (by rfl) T.len PySem.boot_len (pa_cons (pv 4) pa_nil)) pe_int (nomark _)) (pw_and1 (pt_cmpR op_gt (pv 5) (pe_gint rfl T.mD) (nomark _)))))))) (pss_one (ps_ret pe_bl)) pss_nil)
      (pss_one (ps_for PassesOwn.never rfl (pi_tup (pv 4)) (pg_name (i := 6) scProg.nd rfl (.inl rfl))
        (pss_cons (ps_if (pt_not (pt_val (pe_call CO.G hr rfl CO.m CO.kp CO.b .nil pass0 (pa_cons (pv 6) (pa_cons (pv 1) pa_nil))))) (pss_one (ps_ret pe_bl)) pss_nil)
        (pss_one (ps_expr (pe_bm PySem.F.plainAttrs_list PySem.F.slot_list_extend PySem.F.type_list_extend mt_extend (pv 3) (pa_cons
          (pe_lc (own := [("inner", 7)]) (g := gName 7) (tt := tYes) rfl scProg.nd (pi_tup (pe_call CB.G hr1 rfl CB.m CB.kp CB.b .nil pass0 (pa_cons (pv 6) pa_nil)))
            (blkOk_by (N := ["thing", "kind", "many", "pending", "body", "depth", "statement", "inner"]) (sc := defScope sProg) (by decide +kernel))
            (fun _ _ _ _ _ => pg_name (i := 7) scProg.nd rfl (.inl rfl)) (fun _ _ _ _ _ => pts_nil)
            (fun _ _ _ _ _ => pe_tup (pa_cons (pv 7) (pa_cons (pe_op op_add (pv 5) pe_int) pa_nil)))) pa_nil))))))))))))
    (pss_one (ps_ret pe_bl)))))), ?_⟩
  refine ⟨_, rfl, v, .ty "tuple", _, _, _, rfl, .ty _, dp_ty hd, kit_isT d (by simp) (dp_nd hd), _, rfl, ?_⟩
  cases ht : isT d "tuple" with
  | false =>
    refine iteT (iteT ?_)
    rw [prog_no (fun k b e => by rw [e] at ht; cases ht)] at q
    exact q H (Same.refl H)
  | true =>
    obtain ⟨ds, rfl⟩ := isT_tup ht
    obtain ⟨a0, xs, rfl, h0, ha⟩ := dp_tup_inv hd
    have hl := dpAll_len ha
    refine iteF ⟨_, rfl, a0, xs, rfl, .inr h0, rfl, _, rfl, ?_⟩
    by_cases h2 : ds.length = 2
    · refine iteNS (show V.int ((xs.length : Nat) : Int) = V.int 2 by rw [hl, h2]; rfl) ?_
      obtain ⟨x0, x1, d0, d1, rfl, rfl, hx0, hx1⟩ := dp_two ha h2
      have lm := lay_mem (lay_tup ld)
      refine ⟨_, rfl, a0, _, _, _, rfl, rfl, h0, atI_nat (j := 0) rfl, d0, kinds, T.aK, rfl, hx0, lm _ (by simp), T.kK _, by decide +kernel, _, rfl, ?_⟩
      cases hk : inS d0 kinds with
      | false =>
        refine iteT ?_
        have e : isProg (.tuple [d0, d1]) = false := by
          cases d0 with
          | str k => show (inS (.str k) kinds && _) = false; rw [hk]; rfl
          | _ => rfl
        rw [e] at q
        exact q H (Same.refl H)
      | true =>
        refine iteF ?_
        obtain ⟨k, rfl⟩ : ∃ k, d0 = .str k := by
          cases d0 with
          | str k => exact ⟨k, rfl⟩
          | _ => cases hk
        cases hx0
        refine ⟨_, rfl, a0, _, _, _, rfl, rfl, h0, atI_nat (j := 0) rfl, ?_⟩
        refine ⟨_, rfl, a0, _, _, _, rfl, rfl, h0, atI_nat (j := 1) rfl, (by show 2 ≤ sizeLine; decide), fun t nt => ⟨(by show 1 ≤ sizeLine; decide), fun pl npl => ?_⟩⟩
        have eP : good k 0 [(d1, 1)] = isProg (.tuple [.str k, d1]) := by
          show okN 0 (tot k [(d1, 1)]) = (inS (.str k) kinds && okN 0 (bodyN k 4 d1))
          rw [tot_one, hk]
          rfl
        have npt : pl ≠ t := fun e => by rw [e, upd_same] at npl; cases npl
        have nplH : H pl = none := by rw [upd_ne npt] at npl; exact npl
        have sH0 : Same H (upd (upd H t (.tup [x1, .int 1])) pl (.lst [.ref t])) := same_upd (same_new nt _) nplH _
        dsimp only [gName]
        refine seq_while ?_
        refine while_m (fun m σ H' => ∃ (many : Nat) (stk : List (PyData × Nat)) (ys : List V) (s4 s5 s6 : Option V), σ = [some (.ref a0), some (.str k), some (.int (many : Nat)), some (.ref pl), s4, s5, s6, none] ∧
            Same H H' ∧ H' pl = some (.lst ys) ∧ Items K H H' ys stk ∧ good k many stk = isProg (.tuple [.str k, d1]) ∧ many ≤ 24 ∧ stk.length ≤ 1 + 2 * many ∧ m = tsz stk)
          (m0 := tsz [(d1, 1)]) ⟨0, [(d1, 1)], [.ref t], none, none, none, rfl, sH0, upd_same, .cons ⟨t, x1, rfl, by rw [upd_ne npt.symm, upd_same]; rfl, hx1, lm _ (by simp), (by show 1 ≤ 5; decide)⟩ .nil, eP, by decide, Nat.le_refl 1, rfl⟩ ?_ ?_
        · rintro m σ H' ⟨many, stk, ys, s4, s5, s6, rfl, sH, hp, it, hg, hm, hlen, rfl⟩
          refine ⟨_, rfl, !ys.isEmpty, .inl ⟨ys, SqL.of hp, rfl⟩, ?_⟩
          rcases List.eq_nil_or_concat ys with e0 | ⟨ys', y, e0⟩
          · subst e0
            refine iteF ?_
            cases it
            have e : isProg (.tuple [.str k, d1]) = true := by
              rw [← hg]
              exact decide_eq_true hm
            rw [e] at q
            exact q H' sH
          rw [List.concat_eq_append] at e0
          subst e0
          obtain ⟨st, p, e0, it', ⟨t', v, e1, ht', hdv, hlay, h5⟩⟩ := Items.snoc ys' it
          subst e0 e1
          obtain ⟨b, dep⟩ := p
          refine ite2 (fun _ => ?_) (fun c => absurd (by simp) c)
          have ntp : t' ≠ pl := ne_of ht' hp (by intro z; cases z)
          refine ⟨_, rfl, .inl ⟨rfl, _, SqL.of hp⟩, pl, _, V.ref t', rfl, rfl, hp, (by simp), ?_⟩
          rw [show (ys' ++ [V.ref t']).dropLast = ys' by simp]
          refine ⟨t', _, rfl, SqT.of (by rw [upd_ne ntp]; exact ht'), rfl, _, _, rfl, _, _, rfl, rfl, ?_⟩
          have sH1 : Same H (upd H' pl (.lst ys')) := same_upd sH nplH _
          have kp1 : ∀ b o, b ≠ pl → H' b = some o → (upd H' pl (.lst ys')) b = some o := fun b o n e => by rw [upd_ne n]; exact e
          have it1 := it'.keep kp1 hp
          have hp1 : (upd H' pl (.lst ys')) pl = some (.lst ys') := upd_same
          have hdv1 : Dp K (upd H' pl (.lst ys')) v b := dp_mono sH1 _ _ hdv
          generalize upd H' pl (.lst ys') = H1 at sH1 it1 hp1 hdv1 ⊢
          refine ⟨_, rfl, v, .ty "tuple", _, _, _, rfl, .ty _, dp_ty hdv1, kit_isT b (by simp) (dp_nd hdv), _, rfl, ?_⟩
          cases hb : isT b "tuple" with
          | false =>
            refine iteT ?_
            rw [good_no hb] at hg
            rw [← hg] at q
            exact q H1 sH1
          | true =>
            refine iteF ?_
            obtain ⟨ss, rfl⟩ := isT_tup hb
            obtain ⟨ab, xs, rfl, hab, hss⟩ := dp_tup_inv hdv
            have hab1 : SqT K H1 ab xs := Same.tup sH1 hab
            have hl := dpAll_len hss
            refine ⟨_, rfl, _, rfl, ab, xs, rfl, .inr hab1, _, _, rfl, rfl, ?_⟩
            have lss : PyData.canLayAll0 ss = true := lay_tup hlay
            have hst : st.length ≤ 100 := by rw [List.length_append] at hlen; simp at hlen; omega
            have hover : (24 < many + ss.length ∨ (0 < ss.length ∧ 4 < dep)) → ∀ H', Same H H' → Q (.bl false) H' := fun c H2 s2 => by
              have e := good_over (kind := k) (st := st) c
              have e2 : isProg (.tuple [.str k, d1]) = false := hg.symm.trans e
              rw [e2] at q
              exact q H2 s2
            have hF : ∀ s, s ∈ ss → isOut s k = false → ∀ H', Same H H' → Q (.bl false) H' := fun s ms ho H2 s2 => by
              have e2 : isProg (.tuple [.str k, d1]) = false := hg.symm.trans (good_bad ho ms)
              rw [e2] at q
              exact q H2 s2
            have hN : many + ss.length ≤ 24 → (0 < ss.length → dep ≤ 4) → ∀ (H2 : Hp) (ys2 : List V) (s6 : Option V), (∀ s ∈ ss, isOut s k = true) → Same H H2 → H2 pl = some (.lst ys2) → Items K H H2 ys2 (st ++ pushes dep ss) →
                ∃ m', m' < tsz (st ++ [(.tuple ss, dep)]) ∧ ∃ (many' : Nat) (stk : List (PyData × Nat)) (ys : List V) (s4 s5 s6' : Option V), ([some (.ref a0), some (.str k), some (.int ((many + xs.length : Nat) : Int)), some (.ref pl), some (.ref ab), some (.int (dep : Nat)), s6, none] : L2.St) = [some (.ref a0), some (.str k), some (.int (many' : Nat)), some (.ref pl), s4, s5, s6', none] ∧
                Same H H2 ∧ H2 pl = some (.lst ys) ∧ Items K H H2 ys stk ∧ good k many' stk = isProg (.tuple [.str k, d1]) ∧ many' ≤ 24 ∧ stk.length ≤ 1 + 2 * many' ∧ m' = tsz stk := by
              intro h24 h4 H2 ys2 s6 hall s2 hp2 it2
              refine ⟨tsz (st ++ pushes dep ss), ?_, many + xs.length, st ++ pushes dep ss, ys2, _, _, _, rfl, s2, hp2, it2, ?_, by omega, ?_, rfl⟩
              · rw [tsz_append, tsz_append]
                have e1 := pushes_sz dep ss
                have e2 : tsz [(PyData.tuple ss, dep)] = 1 + szAll ss := by simp [tsz, sz]
                omega
              · rw [hl, good_step h5 h4 hall]
                exact hg
              · have e1 := pushes_len (kind := k) dep hall
                rw [List.length_append] at hlen ⊢
                simp only [List.length_cons, List.length_nil] at hlen
                omega
            refine ⟨_, rfl, _, _, rfl, rfl, _, rfl, ?_⟩
            by_cases c24 : (24 : Int) < (many : Nat) + (xs.length : Nat)
            · rw [decide_eq_true c24]
              exact iteT (iteT (hover (.inl (by omega)) H1 sH1))
            rw [decide_eq_false c24]
            refine iteF ⟨_, rfl, ab, xs, rfl, .inr hab1, _, _, rfl, rfl, _, rfl, ?_⟩
            by_cases c0 : (0 : Int) < (xs.length : Nat)
            · rw [decide_eq_true c0]
              refine iteT ⟨_, rfl, _, _, rfl, rfl, _, rfl, ?_⟩
              by_cases c4 : (4 : Int) < (dep : Nat)
              · rw [decide_eq_true (show (4 : Int) < (((PyData.tuple ss, dep).snd : Nat) : Int) from c4)]
                exact iteT (hover (.inr ⟨by omega, by omega⟩) H1 sH1)
              · rw [decide_eq_false (show ¬ (4 : Int) < (((PyData.tuple ss, dep).snd : Nat) : Int) from c4)]
                refine iteF ?_
                exact loop_ok (n := many + xs.length) (dep := dep) (s6 := s6) sH1 nplH hp1 it1 hab hss lss h5 (fun _ => by omega) (by omega) hst hF (hN (by omega) (fun _ => by omega))
            · rw [decide_eq_false c0]
              refine iteF (iteF ?_)
              exact loop_ok (n := many + xs.length) (dep := dep) (s6 := s6) sH1 nplH hp1 it1 hab hss lss h5 (fun h => by omega) (by omega) hst hF (hN (by omega) (fun h => by omega))
        · rintro σ H' Q1 Q2 h ⟨v, e, k, t, q⟩
          exact ⟨v, e, k, t, h _ _ q⟩
    · refine ite2 (fun _ => iteT ?_) (fun c => absurd ?_ c)
      · rw [prog_no (fun k b e => h2 (by injection e with e; rw [e]; rfl))] at q
        exact q H (Same.refl H)
      · rw [Bool.not_eq_true', decide_eq_false_iff_not]
        intro z
        have z' : ((xs.length : Nat) : Int) = 2 := by injection z
        omega
end
abbrev sBag : Stmt := top 25
abbrev sDraw : Stmt := top 26
abbrev sLarge : Stmt := top 27
abbrev sSteps : Stmt := top 28
abbrev sTermL : Stmt := top 29
abbrev sCondL : Stmt := top 30
abbrev sSimple : Stmt := top 31
abbrev sKind : Stmt := top 32
/-! ### the bag: a list of two numbers, drawn from -/
def Bag (H : Hp) (b : Addr) : Prop := ∃ c s : Int, H b = some (.lst [.int c, .int s]) ∧ 0 ≤ c ∧ 0 ≤ s ∧ s < 2147483648
/-- all but b stays -/
def Fr (b : Addr) (H H' : Hp) : Prop := ∀ a o, a ≠ b → H a = some o → H' a = some o
def hide (b : Addr) (H : Hp) : Hp := fun a => if a = b then none else H a
theorem Fr.refl (b : Addr) (H : Hp) : Fr b H H := fun _ _ _ h => h
theorem Fr.trans {b : Addr} {H H1 H2 : Hp} (x : Fr b H H1) (y : Fr b H1 H2) : Fr b H H2 := fun a o n h => y a o n (x a o n h)
theorem Fr.of {b : Addr} {H H' : Hp} (x : Same H H') : Fr b H H' := fun a o _ h => x a o h
theorem Fr.upd {b : Addr} {H : Hp} (o : HO) : Fr b H (upd H b o) := fun a u n h => by rw [upd_ne n]; exact h
theorem hide_same (b : Addr) (H : Hp) : Same (hide b H) H := fun a o h => by
  unfold hide at h
  split at h
  · cases h
  · exact h
theorem hide_mono {b : Addr} {H H' : Hp} (x : Fr b H H') : Same (hide b H) (hide b H') := fun a o h => by
  unfold hide at h ⊢
  split at h
  · cases h
  · rename_i n
    rw [if_neg n]
    exact x a o n h
theorem hide_get {b a : Addr} {H : Hp} {o : HO} (n : a ≠ b) (h : H a = some o) : hide b H a = some o := by
  unfold hide
  rw [if_neg n]
  exact h
theorem Bag.ne {H : Hp} {b p : Addr} (h : Bag H b) (n : H p = none) : b ≠ p := by
  obtain ⟨c, s, e, _⟩ := h
  exact ne_of_none e n
theorem Bag.keep {H H' : Hp} {b : Addr} (h : Bag H b) (s : Same H H') : Bag H' b := by
  obtain ⟨c, t, e, r⟩ := h
  exact ⟨c, t, s _ _ e, r⟩
/-- a datum, apart from the bag -/
abbrev Da (K : PySem.W.Frag) (b : Addr) (H : Hp) (v : V) (d : PyData) : Prop := Dp K (hide b H) v d
theorem Da.fr {K : PySem.W.Frag} {b : Addr} {H H' : Hp} {v : V} {d : PyData} (h : Da K b H v d) (x : Fr b H H') : Da K b H' v d := dp_mono (hide_mono x) _ _ h
theorem Da.dp {K : PySem.W.Frag} {b : Addr} {H : Hp} {v : V} {d : PyData} (h : Da K b H v d) : Dp K H v d := dp_mono (hide_same b H) _ _ h
theorem da_tup {K : PySem.W.Frag} {b p : Addr} {H : Hp} {xs : List V} {ds : List PyData} (n : p ≠ b) (h : H p = some (.tup xs)) (a : DpAll K (hide b H) xs ds) : Da K b H (.ref p) (.tuple ds) := .tup (SqT.of (hide_get n h)) a
def spBag (K : PySem.W.Frag) : Sp := fun vs H Q _ => ∃ (a : Addr) (ns : List Int) (k : Nat), vs = [.ref a, .int (k : Nat)] ∧ SqL K H a (ns.map V.int) ∧ ns.length ≤ 63 ∧ k < 64 ∧ ∀ H' p, Same H H' → H p = none → Bag H' p → Q (.ref p) H'
def spDraw : Sp := fun vs H Q _ => ∃ (b : Addr) (m : Int), vs = [.ref b, .int m] ∧ Bag H b ∧ 0 < m ∧ m < 1073741824 ∧ ∀ H' r, Fr b H H' → Bag H' b → 0 ≤ r → r < m → Q (.int r) H'
def spLarge : Sp := fun vs H Q _ => ∃ (b : Addr) (m : Int), vs = [.ref b, .int m] ∧ Bag H b ∧ 0 < m ∧ ∀ H' r, Fr b H H' → Bag H' b → 0 ≤ r → r < m → Q (.int r) H'
section
variable {P : Program} {w : World} {K : PySem.W.Frag} {mg : Str → Option Value} {base : Heap}
theorem scDraw : FnScope ["_law_bag_here", "_law_many", "_law_found"] ["_law_bag_here", "_law_many"] (defScope sDraw) := ⟨rfl, rfl, rfl, by decide +kernel, rfl, by decide +kernel, by decide +kernel⟩
theorem ok_draw {f : Addr} {fd : FuncData} (F : Fun K "_law_draw" "_law_draw" sDraw f fd) : FnOk P w K mg base CX0 1 f fd ["_law_bag_here", "_law_many"] spDraw := by
  refine F.ok scDraw (fun vs H Q E h => ?_) (fun cdv A outer s H vs Q E hr h => ?_)
  · obtain ⟨b, m, rfl, _⟩ := h
    rfl
  obtain ⟨b, m, rfl, ⟨c, t, hb, c0, t0, t1⟩, m0, m1, q⟩ := h
  refine ⟨_, pss_cons (ps_if (pt_cmpR op_gt (pe_ix ix_list (pv 0) pe_int (fun _ _ => rfl)) pe_int (nomark _))
      (pss_cons (ps_set (i := 2) scDraw.nd rfl (.inl rfl) (pe_op op_mod (pe_ix ix_list (pv 0) pe_int (fun _ _ => rfl)) (pv 1)))
      (pss_cons (ps_asg (pe_op op_fdiv (pe_ix ix_list (pv 0) pe_int (fun _ _ => rfl)) (pv 1)) (pg_sub (pv 0) pe_int set_list)) (pss_one (ps_ret (pv 2))))) pss_nil)
    (pss_cons (ps_asg (pe_op op_mod (pe_op op_mul (pe_ix ix_list (pv 0) pe_int (fun _ _ => rfl)) pe_int) pe_int) (pg_sub (pv 0) pe_int set_list))
    (pss_one (ps_ret (pe_op op_mod (pe_op op_fdiv (pe_op op_mod (pe_op op_mul (pe_ix ix_list (pv 0) pe_int (fun _ _ => rfl)) (pe_op op_add (pe_op op_fdiv (pe_ix ix_list (pv 0) pe_int (fun _ _ => rfl)) pe_int) pe_int)) pe_int) pe_int) (pv 1))))), ?_⟩
  refine ⟨_, rfl, b, _, _, _, rfl, rfl, SqL.of hb, atI_nat (j := 0) rfl, _, _, rfl, rfl, _, rfl, ?_⟩
  by_cases h : (0 : Int) < c
  · rw [decide_eq_true h]
    refine iteT ⟨_, rfl, b, _, _, _, rfl, rfl, SqL.of hb, atI_nat (j := 0) rfl, _, rfl, _, _, rfl, rfl, m0, ?_⟩
    refine ⟨_, rfl, b, _, _, _, rfl, rfl, SqL.of hb, atI_nat (j := 0) rfl, _, rfl, _, _, rfl, rfl, ⟨m0, m1⟩, _, rfl, b, _, _, 0, rfl, rfl, hb, rfl, ?_⟩
    refine ⟨_, rfl, q _ _ (Fr.upd _) ⟨c / m, t, upd_same, Int.ediv_nonneg c0 (by omega), t0, t1⟩ (Int.emod_nonneg _ (by omega)) (Int.emod_lt_of_pos _ m0)⟩
  · rw [decide_eq_false h]
    refine iteF ⟨_, rfl, b, _, _, _, rfl, rfl, SqL.of hb, atI_nat (j := 1) rfl, _, _, rfl, rfl, .inr (by decide), _, _, rfl, rfl, (by show (0 : Int) < 2147483647; decide), _, rfl, b, _, _, 1, rfl, rfl, hb, rfl, ?_⟩
    have n0 : 0 ≤ t * 48271 % 2147483647 := Int.emod_nonneg _ (by decide)
    have n1 : t * 48271 % 2147483647 < 2147483647 := Int.emod_lt_of_pos _ (by decide)
    have hb1 : (upd H b (.lst ([V.int c, V.int t].set 1 (V.int (t * 48271 % 2147483647))))) b = some (.lst [.int c, .int (t * 48271 % 2147483647)]) := upd_same
    have fr : Fr b H (upd H b (.lst ([V.int c, V.int t].set 1 (V.int (t * 48271 % 2147483647))))) := Fr.upd _
    generalize upd H b (.lst ([V.int c, V.int t].set 1 (V.int (t * 48271 % 2147483647)))) = H1 at hb1 fr ⊢
    generalize t * 48271 % 2147483647 = u at n0 n1 hb1 ⊢
    refine ⟨_, rfl, b, _, _, _, rfl, rfl, SqL.of hb1, atI_nat (j := 1) rfl, _, rfl, b, _, _, _, rfl, rfl, SqL.of hb1, atI_nat (j := 1) rfl, _, _, rfl, rfl, ⟨by decide, by decide⟩, _, _, rfl, rfl, _, _, rfl, rfl, .inl ⟨by omega, by omega⟩,
      _, _, rfl, rfl, (by show (0 : Int) < 2147483629; decide), _, _, rfl, rfl, ⟨by decide, by decide⟩, _, rfl, _, _, rfl, rfl, m0, ?_⟩
    exact q _ _ fr ⟨c, u, hb1, c0, n0, by omega⟩ (Int.emod_nonneg _ (by omega)) (Int.emod_lt_of_pos _ m0)
end
theorem seq_setC {v : V} {i : Nat} {u : TS} {D : Ends} {σ : L2.St} {H : Hp} (h : u D (σ.set i (some v)) H) : tSeq (tAsg (tC v) (gName i)) u D σ H := h
theorem at2 {x y : V} {r : Int} (h0 : 0 ≤ r) (h1 : r < 2) : ∃ v, atI [x, y] r = some v ∧ (v = x ∨ v = y) := by
  have : r = 0 ∨ r = 1 := by omega
  rcases this with rfl | rfl
  · exact ⟨x, rfl, .inl rfl⟩
  · exact ⟨y, rfl, .inr rfl⟩
theorem at3 {x y z : V} {r : Int} (h0 : 0 ≤ r) (h1 : r < 3) : ∃ v, atI [x, y, z] r = some v ∧ (v = x ∨ v = y ∨ v = z) := by
  have : r = 0 ∨ r = 1 ∨ r = 2 := by omega
  rcases this with rfl | rfl | rfl
  · exact ⟨x, rfl, .inl rfl⟩
  · exact ⟨y, rfl, .inr (.inl rfl)⟩
  · exact ⟨z, rfl, .inr (.inr rfl)⟩
theorem ab_at {r : Int} (h0 : 0 ≤ r) (h1 : r < 2) : ∃ c, atI ("ab" : Str).cps.toList r = some c ∧ inS (.str ⟨#[c]⟩) vars = true ∧ PyData.strOk ⟨#[c]⟩ = true := by
  have : r = 0 ∨ r = 1 := by omega
  rcases this with rfl | rfl
  · exact ⟨97, by decide +kernel, by decide +kernel, by decide +kernel⟩
  · exact ⟨98, by decide +kernel, by decide +kernel, by decide +kernel⟩
theorem asks_at {r : Int} (h0 : 0 ≤ r) (h1 : r < 3) : ∃ c, atI ("+-=" : Str).cps.toList r = some c ∧ inS (.str ⟨#[c]⟩) asks = true ∧ PyData.strOk ⟨#[c]⟩ = true := by
  have : r = 0 ∨ r = 1 ∨ r = 2 := by omega
  rcases this with rfl | rfl | rfl
  · exact ⟨43, by decide +kernel, by decide +kernel, by decide +kernel⟩
  · exact ⟨45, by decide +kernel, by decide +kernel, by decide +kernel⟩
  · exact ⟨61, by decide +kernel, by decide +kernel, by decide +kernel⟩
def spSteps : Sp := fun vs H Q _ => ∃ (b : Addr), vs = [.ref b] ∧ Bag H b ∧ ∀ H' r, Fr b H H' → Bag H' b → 1 ≤ r → r ≤ longest → Q (.int r) H'
def spTermL (K : PySem.W.Frag) : Sp := fun vs H Q _ => ∃ (b : Addr), vs = [.ref b] ∧ Bag H b ∧ ∀ H' v d, Fr b H H' → Bag H' b → (∀ H0, Dp K H0 v d) → isTerm d = true → Lay d → Q v H'
def spCondL (K : PySem.W.Frag) : Sp := fun vs H Q _ => ∃ (b : Addr), vs = [.ref b] ∧ Bag H b ∧ ∀ H' v d, Fr b H H' → Bag H' b → Da K b H' v d → isCond d = true → Lay d → Q v H'
def spKind : Sp := fun vs H Q _ => ∃ (b : Addr), vs = [.ref b] ∧ Bag H b ∧ ∀ H' (k : Str), Fr b H H' → Bag H' b → (k = "teller" ∨ k = "collector") → Q (.str k) H'
section
variable {P : Program} {w : World} {K : PySem.W.Frag} {mg : Str → Option Value} {base : Heap}
theorem scLarge : FnScope ["_law_bag_here", "_law_many", "_law_number", "_law_room"] ["_law_bag_here", "_law_many"] (defScope sLarge) := ⟨rfl, rfl, rfl, by decide +kernel, rfl, by decide +kernel, by decide +kernel⟩
theorem ok_large {f : Addr} {fd : FuncData} (F : Fun K "_law_large" "_law_large" sLarge f fd) (CD : Cal P w K mg base 1 "_law_draw" ["_law_bag_here", "_law_many"] spDraw) : FnOk P w K mg base CX0 2 f fd ["_law_bag_here", "_law_many"] spLarge := by
  refine F.ok scLarge (fun vs H Q E h => ?_) (fun cdv A outer s H vs Q E hr h => ?_)
  · obtain ⟨b, m, rfl, _⟩ := h
    rfl
  obtain ⟨b, m, rfl, hb, m0, q⟩ := h
  refine ⟨_, pss_cons (ps_set (i := 2) scLarge.nd rfl (.inl rfl) pe_int) (pss_cons (ps_set (i := 3) scLarge.nd rfl (.inl rfl) pe_int)
    (pss_cons (ps_while PassesOwn.never (pt_cmpR op_lt (pv 3) (pv 1) (nomark _))
      (pss_cons (ps_set (i := 2) scLarge.nd rfl (.inl rfl) (pe_op op_add (pe_op op_mul (pv 2) pe_int) (pe_call CD.G hr rfl CD.m CD.kp CD.b .nil pass0 (pa_cons (pv 0) (pa_cons pe_int pa_nil)))))
      (pss_one (ps_set (i := 3) scLarge.nd rfl (.inl rfl) (pe_op op_mul (pv 3) pe_int)))))
    (pss_one (ps_ret (pe_op op_mod (pv 2) (pv 1)))))), ?_⟩
  refine seq_setC (seq_setC (seq_while ?_))
  refine while_m (fun n σ H' => ∃ x r : Int, σ = [some (.ref b), some (.int m), some (.int x), some (.int r)] ∧ Fr b H H' ∧ Bag H' b ∧ 1 ≤ r ∧ n = (m - r).toNat) (m0 := (m - 1).toNat) ⟨0, 1, rfl, Fr.refl _ _, hb, by decide, rfl⟩ ?_ ?_
  · rintro n σ H' ⟨x, r, rfl, f1, hb1, r1, rfl⟩
    refine ⟨_, rfl, _, rfl, _, _, rfl, rfl, _, rfl, ?_⟩
    by_cases c : r < m
    · rw [decide_eq_true c]
      refine iteT ⟨_, rfl, _, _, rfl, rfl, .inr (by decide), _, rfl, b, 1048576, rfl, hb1, by decide, by decide, fun H2 u f2 hb2 _ _ => ⟨_, _, rfl, rfl, _, rfl, _, _, rfl, rfl, .inr (by decide), ?_⟩⟩
      exact ⟨(m - r * 1048576).toNat, by omega, _, _, rfl, f1.trans f2, hb2, by omega, rfl⟩
    · rw [decide_eq_false c]
      exact iteF ⟨_, rfl, _, rfl, _, _, rfl, rfl, m0, q _ _ f1 hb1 (Int.emod_nonneg _ (by omega)) (Int.emod_lt_of_pos _ m0)⟩
  · rintro σ H' Q1 Q2 h ⟨v, e, v2, e2, i, j, e3, e4, k, e5, q⟩
    exact ⟨v, e, v2, e2, i, j, e3, e4, k, e5, h _ _ q⟩
theorem scSteps : FnScope ["_law_bag_here"] ["_law_bag_here"] (defScope sSteps) := ⟨rfl, rfl, rfl, by decide +kernel, rfl, by decide +kernel, by decide +kernel⟩
theorem pow30 : (10 : Int) ^ (30 : Int).toNat = longest := by decide +kernel
theorem ok_steps {f : Addr} {fd : FuncData} (F : Fun K "_law_steps" "_law_steps" sSteps f fd) (CD : Cal P w K mg base 1 "_law_draw" ["_law_bag_here", "_law_many"] spDraw) (CL : Cal P w K mg base 2 "_law_large" ["_law_bag_here", "_law_many"] spLarge) :
    FnOk P w K mg base CX0 3 f fd ["_law_bag_here"] spSteps := by
  refine F.ok scSteps (fun vs H Q E h => ?_) (fun cdv A outer s H vs Q E hr h => ?_)
  · obtain ⟨b, rfl, _⟩ := h
    rfl
  obtain ⟨b, rfl, hb, q⟩ := h
  have hr1 : Room 1 _ := hr.mono (by decide)
  refine ⟨_, pss_one (ps_ret (pe_ix ix_list (pe_lst (pa_cons (pe_op op_add pe_int (pe_call CD.G hr1 rfl CD.m CD.kp CD.b .nil pass0 (pa_cons (pv 0) (pa_cons pe_int pa_nil))))
      (pa_cons (pe_op op_add pe_int (pe_call CL.G hr rfl CL.m CL.kp CL.b .nil pass0 (pa_cons (pv 0) (pa_cons (pe_op op_pow pe_int pe_int) pa_nil))))
      (pa_cons (pe_op op_sub (pe_op op_pow pe_int pe_int) (pe_call CD.G hr1 rfl CD.m CD.kp CD.b .nil pass0 (pa_cons (pv 0) (pa_cons pe_int pa_nil)))) pa_nil))))
    (pe_op op_fdiv (pe_call CD.G hr1 rfl CD.m CD.kp CD.b .nil pass0 (pa_cons (pv 0) (pa_cons pe_int pa_nil))) pe_int) (fun _ _ => rfl))), ?_⟩
  refine ⟨_, rfl, b, 4, rfl, hb, by decide, by decide, fun H1 r1 f1 b1 r10 r11 => ⟨_, _, rfl, rfl, _, rfl, _, _, rfl, rfl, ⟨by decide, by decide, by decide⟩, b, _, rfl, b1, (by rw [pow30]; decide), fun H2 r2 f2 b2 r20 r21 => ⟨_, _, rfl, rfl, _, _, rfl, rfl, ⟨by decide, by decide, by decide⟩, _, rfl, b, 2, rfl, b2, by decide, by decide,
    fun H3 r3 f3 b3 r30 r31 => ⟨_, _, rfl, rfl, (by show 3 ≤ sizeLine; decide), fun p np => ⟨_, rfl, b, 8, rfl, b3.keep (same_new np _), by decide, by decide, fun H4 r4 f4 b4 r40 r41 => ⟨_, _, rfl, rfl, ⟨by decide, by decide⟩, ?_⟩⟩⟩⟩⟩⟩
  have np4 : p ≠ b := (b3.ne np).symm
  have hp4 := f4 p _ np4 upd_same
  obtain ⟨v, hv, hc⟩ := at3 (x := V.int (1 + r1)) (y := V.int (1 + r2)) (z := V.int (10 ^ (30 : Int).toNat - r3)) (r := r4 / 3) (by omega) (by omega)
  refine ⟨p, _, _, _, rfl, rfl, SqL.of hp4, hv, ?_⟩
  have fr : Fr b H H4 := f1.trans (f2.trans (f3.trans ((Fr.of (same_new np _)).trans f4)))
  rw [pow30] at hc r21
  have e30 : longest = 1000000000000000000000000000000 := rfl
  rcases hc with rfl | rfl | rfl
  · exact q _ _ fr b4 (by omega) (by omega)
  · exact q _ _ fr b4 (by omega) (by omega)
  · exact q _ _ fr b4 (by omega) (by omega)
end
structure G2 (mg : Str → Option Value) : Prop where
  abs : mg "abs" = none
  max : mg "max" = none
  min : mg "min" = none
  range : mg "range" = none
theorem one_or (b : Bool) : -(2 ^ 64) < (if b = true then (1 : Int) else 0) ∧ (if b = true then (1 : Int) else 0) < 2 ^ 64 := by cases b <;> decide
theorem part_variable (d : PyData) : isPart d "variable" = inS d vars := by unfold isPart; rw [if_pos rfl]
theorem part_term (d : PyData) : isPart d "term" = isTerm d := by unfold isPart; rw [if_neg (by decide +kernel), if_pos rfl]
theorem part_sign (d : PyData) : isPart d "sign" = inS d asks := by unfold isPart; rw [if_neg (by decide +kernel), if_neg (by decide +kernel), if_pos rfl]
theorem part_steps (d : PyData) : isPart d "steps" = intIn d 1 longest := by unfold isPart; rw [if_neg (by decide +kernel), if_neg (by decide +kernel), if_neg (by decide +kernel), if_pos rfl]
theorem part_answer (d : PyData) : isPart d "answer" = intIn d 0 1 := by unfold isPart; rw [if_neg (by decide +kernel), if_neg (by decide +kernel), if_neg (by decide +kernel), if_neg (by decide +kernel), if_pos rfl]
theorem part_value (d : PyData) : isPart d "value" = intIn d 0 15 := by unfold isPart; rw [if_neg (by decide +kernel), if_neg (by decide +kernel), if_neg (by decide +kernel), if_neg (by decide +kernel), if_neg (by decide +kernel)]
theorem roles_set (k : Str) : rolesZ "set" k = some (["variable", "value"] : List Str) := by unfold rolesZ; rw [if_pos rfl]
theorem roles_add (k : Str) : rolesZ "add" k = some (["variable", "term"] : List Str) := by unfold rolesZ; rw [if_neg (by decide +kernel), if_pos rfl]
theorem roles_wait (k : Str) : rolesZ "wait" k = some (["steps"] : List Str) := by unfold rolesZ; rw [if_neg (by decide +kernel), if_neg (by decide +kernel), if_pos rfl]
theorem roles_ask : rolesZ "ask" "teller" = some (["sign", "term", "variable"] : List Str) := by decide +kernel
theorem roles_answer : rolesZ "answer" "teller" = some (["answer"] : List Str) := by decide +kernel
theorem roles_grow : rolesZ "grow" "collector" = some (["term"] : List Str) := by decide +kernel
theorem roles_list : rolesZ "list" "collector" = some (["term"] : List Str) := by decide +kernel
theorem plain1 {z k r : Str} {p : PyData} (h : rolesZ z k = some [r]) (e : isPart p r = true) : isPlain (.tuple [.str z, p]) k = true := by
  rw [plain_some h]; simp [allParts, e]
theorem plain2 {z k r1 r2 : Str} {p1 p2 : PyData} (h : rolesZ z k = some [r1, r2]) (e1 : isPart p1 r1 = true) (e2 : isPart p2 r2 = true) : isPlain (.tuple [.str z, p1, p2]) k = true := by
  rw [plain_some h]; simp [allParts, e1, e2]
theorem plain3 {z k r1 r2 r3 : Str} {p1 p2 p3 : PyData} (h : rolesZ z k = some [r1, r2, r3]) (e1 : isPart p1 r1 = true) (e2 : isPart p2 r2 = true) (e3 : isPart p3 r3 = true) : isPlain (.tuple [.str z, p1, p2, p3]) k = true := by
  rw [plain_some h]; simp [allParts, e1, e2, e3]
theorem lay_str {z : Str} (h : PyData.strOk z = true) : Lay (.str z) := by unfold Lay; simp only [PyData.canLay0]; exact h
theorem lay_int (i : Int) : Lay (.int i) := by unfold Lay; simp only [PyData.canLay0]
theorem lay_nil : Lay (.tuple []) := by unfold Lay; simp only [PyData.canLay0, PyData.canLayAll0]
theorem lay_all : ∀ {ds : List PyData}, (∀ d ∈ ds, Lay d) → PyData.canLayAll0 ds = true
  | [], _ => by simp only [PyData.canLayAll0]
  | d :: r, h => by
    simp only [PyData.canLayAll0, Bool.and_eq_true]
    exact ⟨h d (by simp), lay_all fun x m => h x (List.mem_cons_of_mem _ m)⟩
theorem lay_tuple {ds : List PyData} (h : ∀ d ∈ ds, Lay d) : Lay (.tuple ds) := by unfold Lay; simp only [PyData.canLay0]; exact lay_all h
theorem lay2 {a b : PyData} (ha : Lay a) (hb : Lay b) : Lay (.tuple [a, b]) := lay_tuple (by intro d m; simp at m; rcases m with rfl | rfl <;> assumption)
theorem lay3 {a b c : PyData} (ha : Lay a) (hb : Lay b) (hc : Lay c) : Lay (.tuple [a, b, c]) := lay_tuple (by intro d m; simp at m; rcases m with rfl | rfl | rfl <;> assumption)
theorem lay4 {a b c e : PyData} (ha : Lay a) (hb : Lay b) (hc : Lay c) (he : Lay e) : Lay (.tuple [a, b, c, e]) := lay_tuple (by intro d m; simp at m; rcases m with rfl | rfl | rfl | rfl <;> assumption)
def spSimple (K : PySem.W.Frag) : Sp := fun vs H Q _ => ∃ (b : Addr) (k : Str), vs = [.ref b, .str k] ∧ Bag H b ∧ (k = "teller" ∨ k = "collector") ∧ ∀ H' v d, Fr b H H' → Bag H' b → Da K b H' v d → isPlain d k = true → Lay d → Q v H'
section
variable {P : Program} {w : World} {K : PySem.W.Frag} {mg : Str → Option Value} {base : Heap}
theorem scBag : FnScope ["_law_script", "_law_k", "_law_cell", "_law_state"] ["_law_script", "_law_k"] (defScope sBag) := ⟨rfl, rfl, rfl, by decide +kernel, rfl, by decide +kernel, by decide +kernel⟩
theorem ok_bag {f : Addr} {fd : FuncData} (F : Fun K "_law_bag" "_law_bag" sBag f fd) (T : Gs K mg) (T2 : G2 mg) : FnOk P w K mg base CX0 1 f fd ["_law_script", "_law_k"] (spBag K) := by
  refine F.ok scBag (fun vs H Q E h => ?_) (fun cdv A outer s H vs Q E hr h => ?_)
  · obtain ⟨a, ns, k, rfl, _⟩ := h
    rfl
  obtain ⟨a, ns, k, rfl, hS, h63, hk, q⟩ := h
  refine ⟨_, pss_cons (ps_set (i := 2) scBag.nd rfl (.inl rfl) pe_int)
    (pss_cons (ps_if (pt_cmpR op_lt (pv 1) (pe_callB call_len_seq (by rfl) T.len PySem.boot_len (pa_cons (pv 0) pa_nil)) (nomark _)) (pss_one (ps_set (i := 2) scBag.nd rfl (.inl rfl) (pe_callB call_abs (by rfl) T2.abs (by decide +kernel) (pa_cons (pe_ix ix_list (pv 0) (pv 1) (fun _ _ => rfl)) pa_nil)))) pss_nil)
    (pss_cons (ps_set (i := 3) scBag.nd rfl (.inl rfl) (pe_op op_add pe_int (pe_op op_mod (pe_op op_add (pe_op op_add (pe_op op_add (pe_op op_mul (pe_op op_mod (pv 2) pe_int) pe_int) (pe_op op_mul (pe_op op_mul pe_int (pv 1)) (pv 1))) (pe_op op_mul pe_int (pv 1))) pe_int) pe_int)))
    (pss_one (ps_ret (pe_lst (pa_cons (pe_op op_mul (pv 2) (pe_callTy call_int1 (by rfl) T.int (by decide +kernel) (pa_cons (pe_cmpR op_ge (pv 2) (pe_op op_pow pe_int pe_int) (nomark _)) pa_nil))) (pa_cons (pv 3) pa_nil))))))), ?_⟩
  have hl : (ns.map V.int).length = ns.length := List.length_map _
  refine ⟨_, rfl, _, rfl, a, _, rfl, .inl hS, _, _, rfl, rfl, _, rfl, ?_⟩
  have fin : ∀ (cell : Int) (z : Int), 0 ≤ cell → ∀ p, H p = none → Q (.ref p) (upd H p (.lst [.int (cell * (if decide ((10 : Int) ^ (18 : Int).toNat ≤ cell) then 1 else 0)), .int (1 + z % 2147483646)])) := fun cell z h0 p np => by
    refine q _ p (same_new np _) np ⟨_, _, upd_same, ?_, ?_, ?_⟩
    · split
      · omega
      · omega
    · have := Int.emod_nonneg z (show (2147483646 : Int) ≠ 0 by decide); omega
    · have := Int.emod_lt_of_pos z (show (0 : Int) < 2147483646 by decide); omega
  refine ite2 (fun c => ?_) (fun c => ?_)
  · have c' := of_decide_eq_true c
    rw [hl] at c'
    have hkn : k < ns.length := by omega
    have hat : atI (ns.map V.int) ((k : Nat) : Int) = some (.int ns[k]) := atI_nat (by rw [List.getElem?_map, List.getElem?_eq_getElem hkn]; rfl)
    have h0 : 0 ≤ (if ns[k] < 0 then -ns[k] else ns[k]) := by split <;> omega
    refine ⟨_, rfl, _, rfl, a, _, _, _, rfl, rfl, hS, hat, _, rfl, ?_⟩
    exact ⟨_, rfl, _, _, rfl, rfl, (by show (0 : Int) < 2147483647; decide), _, _, rfl, rfl, .inr (by decide), _, rfl, _, _, rfl, rfl, .inl (by decide), _, rfl, _, _, rfl, rfl, .inr ⟨by omega, by omega⟩, _, _, rfl, rfl, _, rfl, _, _, rfl, rfl, .inl (by decide), _, _, rfl, rfl, _, _, rfl, rfl, _, _, rfl, rfl, (by show (0 : Int) < 2147483646; decide), _, _, rfl, rfl,
      _, rfl, _, rfl, _, _, rfl, rfl, ⟨by decide, by decide, by decide⟩, _, _, rfl, rfl, .inr ⟨_, rfl, _, _, rfl, rfl, Or.inr (one_or _), _, rfl, (by show 2 ≤ sizeLine; decide), fun p np => fin _ _ h0 p np⟩⟩
  · exact ⟨_, rfl, _, _, rfl, rfl, (by show (0 : Int) < 2147483647; decide), _, _, rfl, rfl, .inr (by decide), _, rfl, _, _, rfl, rfl, .inl (by decide), _, rfl, _, _, rfl, rfl, .inr ⟨by omega, by omega⟩, _, _, rfl, rfl, _, rfl, _, _, rfl, rfl, .inl (by decide), _, _, rfl, rfl, _, _, rfl, rfl, _, _, rfl, rfl, (by show (0 : Int) < 2147483646; decide), _, _, rfl, rfl,
      _, rfl, _, rfl, _, _, rfl, rfl, ⟨by decide, by decide, by decide⟩, _, _, rfl, rfl, .inr ⟨_, rfl, _, _, rfl, rfl, Or.inr (one_or _), _, rfl, (by show 2 ≤ sizeLine; decide), fun p np => fin _ _ (Int.le_refl 0) p np⟩⟩
theorem scTermL : FnScope ["_law_bag_here", "_law_value"] ["_law_bag_here"] (defScope sTermL) := ⟨rfl, rfl, rfl, by decide +kernel, rfl, by decide +kernel, by decide +kernel⟩
theorem ok_termL {f : Addr} {fd : FuncData} (F : Fun K "_law_term" "_law_term" sTermL f fd) (CD : Cal P w K mg base 1 "_law_draw" ["_law_bag_here", "_law_many"] spDraw) : FnOk P w K mg base CX0 2 f fd ["_law_bag_here"] (spTermL K) := by
  refine F.ok scTermL (fun vs H Q E h => ?_) (fun cdv A outer s H vs Q E hr h => ?_)
  · obtain ⟨b, rfl, _⟩ := h
    rfl
  obtain ⟨b, rfl, hb, q⟩ := h
  refine ⟨_, pss_cons (ps_set (i := 1) scTermL.nd rfl (.inl rfl) (pe_call CD.G hr rfl CD.m CD.kp CD.b .nil pass0 (pa_cons (pv 0) (pa_cons pe_int pa_nil))))
    (pss_cons (ps_if (pt_cmpR op_gt (pv 1) pe_int (nomark _)) (pss_one (ps_ret (pe_ix ix_str pe_str (pe_op op_mod (pv 1) pe_int) (fun _ _ => rfl)))) pss_nil) (pss_one (ps_ret (pv 1)))), ?_⟩
  refine ⟨_, rfl, b, 20, rfl, hb, by decide, by decide, fun H1 r f1 b1 r0 r1 => ⟨_, rfl, _, _, rfl, rfl, _, rfl, ?_⟩⟩
  refine ite2 (fun c => ?_) (fun c => ?_)
  · obtain ⟨ch, hc, hv, ho⟩ := ab_at (r := r % 2) (by omega) (by omega)
    refine ⟨_, rfl, _, _, rfl, rfl, (by show (0 : Int) < 2; decide), _, _, _, rfl, rfl, by decide +kernel, hc, ?_⟩
    refine q _ _ _ f1 b1 (fun H0 => .str _) ?_ (lay_str ho)
    unfold isTerm
    rw [hv]
    rfl
  · have c' : ¬ (15 : Int) < r := of_decide_eq_false (Bool.eq_false_iff.mpr c)
    refine ⟨_, rfl, q _ _ _ f1 b1 (fun H0 => .int _) ?_ (lay_int _)⟩
    have e : intIn (.int r) 0 15 = true := by simp [intIn]; omega
    unfold isTerm
    rw [e, Bool.or_true]
theorem scKind : FnScope ["_law_bag_here"] ["_law_bag_here"] (defScope sKind) := ⟨rfl, rfl, rfl, by decide +kernel, rfl, by decide +kernel, by decide +kernel⟩
theorem ok_kind {f : Addr} {fd : FuncData} (F : Fun K "_law_kind" "_law_kind" sKind f fd) (CD : Cal P w K mg base 1 "_law_draw" ["_law_bag_here", "_law_many"] spDraw) : FnOk P w K mg base CX0 2 f fd ["_law_bag_here"] spKind := by
  refine F.ok scKind (fun vs H Q E h => ?_) (fun cdv A outer s H vs Q E hr h => ?_)
  · obtain ⟨b, rfl, _⟩ := h
    rfl
  obtain ⟨b, rfl, hb, q⟩ := h
  refine ⟨_, pss_one (ps_ret (pe_ix ix_list (pe_lst (pa_cons pe_str (pa_cons pe_str pa_nil))) (pe_call CD.G hr rfl CD.m CD.kp CD.b .nil pass0 (pa_cons (pv 0) (pa_cons pe_int pa_nil))) (fun _ _ => rfl))), ?_⟩
  refine ⟨(by show 2 ≤ sizeLine; decide), fun p np => ⟨_, rfl, b, 2, rfl, hb.keep (same_new np _), by decide, by decide, fun H1 r f1 b1 r0 r1 => ?_⟩⟩
  have hp := f1 p _ (hb.ne np).symm upd_same
  have fr : Fr b H H1 := (Fr.of (same_new np _)).trans f1
  obtain ⟨v, hv, hc⟩ := at2 (x := V.str "teller") (y := V.str "collector") r0 r1
  refine ⟨p, _, _, _, rfl, rfl, SqL.of hp, hv, ?_⟩
  rcases hc with rfl | rfl
  · exact q _ _ fr b1 (.inl rfl)
  · exact q _ _ fr b1 (.inr rfl)
theorem scCondL : FnScope ["_law_bag_here"] ["_law_bag_here"] (defScope sCondL) := ⟨rfl, rfl, rfl, by decide +kernel, rfl, by decide +kernel, by decide +kernel⟩
theorem ok_condL {f : Addr} {fd : FuncData} (F : Fun K "_law_condition" "_law_condition" sCondL f fd) (CD : Cal P w K mg base 1 "_law_draw" ["_law_bag_here", "_law_many"] spDraw) (CT : Cal P w K mg base 2 "_law_term" ["_law_bag_here"] (spTermL K)) :
    FnOk P w K mg base CX0 3 f fd ["_law_bag_here"] (spCondL K) := by
  refine F.ok scCondL (fun vs H Q E h => ?_) (fun cdv A outer s H vs Q E hr h => ?_)
  · obtain ⟨b, rfl, _⟩ := h
    rfl
  obtain ⟨b, rfl, hb, q⟩ := h
  have hr1 : Room 1 _ := hr.mono (by decide)
  refine ⟨_, pss_one (ps_ret (pe_tup (pa_cons (pe_ix ix_str pe_str (pe_call CD.G hr1 rfl CD.m CD.kp CD.b .nil pass0 (pa_cons (pv 0) (pa_cons pe_int pa_nil))) (fun _ _ => rfl))
    (pa_cons (pe_ix ix_list (pe_lst (pa_cons pe_str (pa_cons pe_str (pa_cons pe_str pa_nil)))) (pe_call CD.G hr1 rfl CD.m CD.kp CD.b .nil pass0 (pa_cons (pv 0) (pa_cons pe_int pa_nil))) (fun _ _ => rfl))
    (pa_cons (pe_call CT.G hr rfl CT.m CT.kp CT.b .nil pass0 (pa_cons (pv 0) pa_nil)) pa_nil))))), ?_⟩
  refine ⟨_, rfl, b, 2, rfl, hb, by decide, by decide, fun H1 r f1 b1 r0 r1 => ?_⟩
  obtain ⟨ch, hc, hv, ho⟩ := ab_at r0 r1
  refine ⟨_, _, _, rfl, rfl, by decide +kernel, hc, (by show 3 ≤ sizeLine; decide), fun p np => ⟨_, rfl, b, 3, rfl, b1.keep (same_new np _), by decide, by decide, fun H2 r2 f2 b2 r20 r21 => ?_⟩⟩
  have hp := f2 p _ (b1.ne np).symm upd_same
  obtain ⟨v, hv2, hc2⟩ := at3 (x := V.str "==") (y := V.str "!=") (z := V.str "<") r20 r21
  refine ⟨p, _, _, _, rfl, rfl, SqL.of hp, hv2, _, rfl, b, rfl, b2, fun H3 v3 d3 f3 b3 hd3 ht3 l3 => ⟨(by show 3 ≤ sizeLine; decide), fun t nt => ?_⟩⟩
  have fr : Fr b H (upd H3 t (.tup [.str ⟨#[ch]⟩, v, v3])) := f1.trans ((Fr.of (same_new np _)).trans (f2.trans (f3.trans (Fr.of (same_new nt _)))))
  have key : ∀ z : Str, v = .str z → inS (.str z) signs = true → PyData.strOk z = true → Q (.ref t) (upd H3 t (.tup [.str ⟨#[ch]⟩, v, v3])) := fun z e hz oz => by
    subst e
    refine q _ _ (.tuple [.str ⟨#[ch]⟩, .str z, d3]) fr (b3.keep (same_new nt _)) (da_tup (b3.ne nt).symm upd_same (.cons (.str _) (.cons (.str _) (.cons (hd3 _) .nil)))) ?_ (lay3 (lay_str ho) (lay_str oz) l3)
    show (inS (.str ⟨#[ch]⟩) vars && inS (.str z) signs && isTerm d3) = true
    rw [hv, hz, ht3]
    rfl
  rcases hc2 with e | e | e
  · exact key _ e (by decide +kernel) (by decide +kernel)
  · exact key _ e (by decide +kernel) (by decide +kernel)
  · exact key _ e (by decide +kernel) (by decide +kernel)
theorem scSimple : FnScope ["_law_bag_here", "_law_kind_here", "_law_way", "_law_variable"] ["_law_bag_here", "_law_kind_here"] (defScope sSimple) := ⟨rfl, rfl, rfl, by decide +kernel, rfl, by decide +kernel, by decide +kernel⟩
theorem ok_simple {f : Addr} {fd : FuncData} (F : Fun K "_law_simple" "_law_simple" sSimple f fd) (CD : Cal P w K mg base 1 "_law_draw" ["_law_bag_here", "_law_many"] spDraw) (CT : Cal P w K mg base 2 "_law_term" ["_law_bag_here"] (spTermL K)) (CS : Cal P w K mg base 3 "_law_steps" ["_law_bag_here"] spSteps) :
    FnOk P w K mg base CX0 4 f fd ["_law_bag_here", "_law_kind_here"] (spSimple K) := by
  refine F.ok scSimple (fun vs H Q E h => ?_) (fun cdv A outer s H vs Q E hr h => ?_)
  · obtain ⟨b, k, rfl, _⟩ := h
    rfl
  obtain ⟨b, k, rfl, hb, hk, q⟩ := h
  have hr1 : Room 1 _ := hr.mono (by decide)
  have hr2 : Room 2 _ := hr.mono (by decide)
  refine ⟨_, pss_cons (ps_set (i := 2) scSimple.nd rfl (.inl rfl) (pe_call CD.G hr1 rfl CD.m CD.kp CD.b .nil pass0 (pa_cons (pv 0) (pa_cons pe_int pa_nil))))
    (pss_cons (ps_set (i := 3) scSimple.nd rfl (.inl rfl) (pe_ix ix_str pe_str (pe_call CD.G hr1 rfl CD.m CD.kp CD.b .nil pass0 (pa_cons (pv 0) (pa_cons pe_int pa_nil))) (fun _ _ => rfl)))
    (pss_cons (ps_if (pt_cmpR op_eq (pv 2) pe_int (nomark _)) (pss_one (ps_ret (pe_tup (pa_cons pe_str (pa_cons (pe_call CS.G hr rfl CS.m CS.kp CS.b .nil pass0 (pa_cons (pv 0) pa_nil)) pa_nil))))) pss_nil)
    (pss_cons (ps_if (pt_cmpR op_lt (pv 2) pe_int (nomark _)) (pss_one (ps_ret (pe_tup (pa_cons pe_str (pa_cons (pv 3) (pa_cons (pe_call CD.G hr1 rfl CD.m CD.kp CD.b .nil pass0 (pa_cons (pv 0) (pa_cons pe_int pa_nil))) pa_nil)))))) pss_nil)
    (pss_cons (ps_if (pt_cmpR op_lt (pv 2) pe_int (nomark _)) (pss_one (ps_ret (pe_tup (pa_cons pe_str (pa_cons (pv 3) (pa_cons (pe_call CT.G hr2 rfl CT.m CT.kp CT.b .nil pass0 (pa_cons (pv 0) pa_nil)) pa_nil)))))) pss_nil)
    (pss_cons (ps_if (pt_cmpR op_eq (pv 1) pe_str (nomark _)) (pss_one (ps_ret (pe_tup (pa_cons (pe_ix ix_list (pe_lst (pa_cons pe_str (pa_cons pe_str pa_nil))) (pe_op op_mod (pv 2) pe_int) (fun _ _ => rfl)) (pa_cons (pe_call CT.G hr2 rfl CT.m CT.kp CT.b .nil pass0 (pa_cons (pv 0) pa_nil)) pa_nil))))) pss_nil)
    (pss_cons (ps_if (PW.pt (pw_and (pt_cmpR op_eq (pv 2) pe_int (nomark _)) (pw_and1 (pt_cmpR op_eq (pe_call CD.G hr1 rfl CD.m CD.kp CD.b .nil pass0 (pa_cons (pv 0) (pa_cons pe_int pa_nil))) pe_int (nomark _)))))
      (pss_one (ps_ret (pe_tup (pa_cons pe_str (pa_cons (pe_call CD.G hr1 rfl CD.m CD.kp CD.b .nil pass0 (pa_cons (pv 0) (pa_cons pe_int pa_nil))) pa_nil))))) pss_nil)
    (pss_one (ps_ret (pe_tup (pa_cons pe_str (pa_cons (pe_ix ix_str pe_str (pe_call CD.G hr1 rfl CD.m CD.kp CD.b .nil pass0 (pa_cons (pv 0) (pa_cons pe_int pa_nil))) (fun _ _ => rfl)) (pa_cons (pe_call CT.G hr2 rfl CT.m CT.kp CT.b .nil pass0 (pa_cons (pv 0) pa_nil)) (pa_cons (pv 3) pa_nil))))))))))))), ?_⟩
  refine ⟨_, rfl, b, 8, rfl, hb, by decide, by decide, fun H1 r f1 b1 r0 r1 => ⟨_, rfl, b, 2, rfl, b1, by decide, by decide, fun H2 r2 f2 b2 r20 r21 => ?_⟩⟩
  obtain ⟨ch, hc, hv, ho⟩ := ab_at r20 r21
  have f12 := f1.trans f2
  refine ⟨_, _, _, rfl, rfl, by decide +kernel, hc, ?_⟩
  refine ⟨_, rfl, rfl, _, rfl, ite2 (fun c => ?_) (fun c => ?_)⟩
  · refine ⟨_, rfl, b, rfl, b2, fun H3 x f3 b3 x0 x1 => ⟨(by show 2 ≤ sizeLine; decide), fun t nt => ?_⟩⟩
    refine q _ _ (.tuple [.str "wait", .int x]) (f12.trans (f3.trans (Fr.of (same_new nt _)))) (b3.keep (same_new nt _)) (da_tup (b3.ne nt).symm upd_same (.cons (.str _) (.cons (.int _) .nil))) (plain1 (roles_wait k) ?_) (lay2 (lay_str (by decide +kernel)) (lay_int _))
    rw [part_steps]; simp [intIn, x0, x1]
  refine ⟨_, rfl, _, _, rfl, rfl, _, rfl, ite2 (fun c => ?_) (fun c => ?_)⟩
  · refine ⟨_, rfl, _, rfl, b, 16, rfl, b2, by decide, by decide, fun H3 x f3 b3 x0 x1 => ⟨(by show 3 ≤ sizeLine; decide), fun t nt => ?_⟩⟩
    refine q _ _ (.tuple [.str "set", .str ⟨#[ch]⟩, .int x]) (f12.trans (f3.trans (Fr.of (same_new nt _)))) (b3.keep (same_new nt _)) (da_tup (b3.ne nt).symm upd_same (.cons (.str _) (.cons (.str _) (.cons (.int _) .nil)))) (plain2 (roles_set k) (by rw [part_variable]; exact hv) ?_) (lay3 (lay_str (by decide +kernel)) (lay_str ho) (lay_int _))
    rw [part_value]; simp [intIn, x0]; omega
  refine ⟨_, rfl, _, _, rfl, rfl, _, rfl, ite2 (fun c => ?_) (fun c => ?_)⟩
  · refine ⟨_, rfl, _, rfl, b, rfl, b2, fun H3 x d3 f3 b3 hd3 t3 l3 => ⟨(by show 3 ≤ sizeLine; decide), fun t nt => ?_⟩⟩
    exact q _ _ (.tuple [.str "add", .str ⟨#[ch]⟩, d3]) (f12.trans (f3.trans (Fr.of (same_new nt _)))) (b3.keep (same_new nt _)) (da_tup (b3.ne nt).symm upd_same (.cons (.str _) (.cons (.str _) (.cons (hd3 _) .nil)))) (plain2 (roles_add k) (by rw [part_variable]; exact hv) (by rw [part_term]; exact t3)) (lay3 (lay_str (by decide +kernel)) (lay_str ho) l3)
  refine ⟨_, rfl, rfl, _, rfl, ite2 (fun c => ?_) (fun c => ?_)⟩
  · have ek : k = "collector" := by
      have c' := of_decide_eq_true c
      injection c'
    subst ek
    refine ⟨(by show 2 ≤ sizeLine; decide), fun p np => ?_⟩
    obtain ⟨v, hv2, hc2⟩ := at2 (x := V.str "grow") (y := V.str "list") (r := r % 2) (by omega) (by omega)
    refine ⟨_, rfl, _, _, rfl, rfl, (by show (0 : Int) < 2; decide), p, _, _, _, rfl, rfl, SqL.of upd_same, hv2, _, rfl, b, rfl, b2.keep (same_new np _), fun H3 x d3 f3 b3 hd3 t3 l3 => ⟨(by show 2 ≤ sizeLine; decide), fun t nt => ?_⟩⟩
    have fr : Fr b H (upd H3 t (.tup [v, x])) := f12.trans ((Fr.of (same_new np _)).trans (f3.trans (Fr.of (same_new nt _))))
    rcases hc2 with rfl | rfl
    · exact q _ _ (.tuple [.str "grow", d3]) fr (b3.keep (same_new nt _)) (da_tup (b3.ne nt).symm upd_same (.cons (.str _) (.cons (hd3 _) .nil))) (plain1 roles_grow (by rw [part_term]; exact t3)) (lay2 (lay_str (by decide +kernel)) l3)
    · exact q _ _ (.tuple [.str "list", d3]) fr (b3.keep (same_new nt _)) (da_tup (b3.ne nt).symm upd_same (.cons (.str _) (.cons (hd3 _) .nil))) (plain1 roles_list (by rw [part_term]; exact t3)) (lay2 (lay_str (by decide +kernel)) l3)
  have ek : k = "teller" := by
    rcases hk with e | e
    · exact e
    · exact absurd (decide_eq_true (by rw [e])) c
  subst ek
  have ask : ∀ (H3 : Hp), Fr b H H3 → Bag H3 b → ∀ (H4 : Hp) (r4 : Int) (f4 : Fr b H3 H4) (b4 : Bag H4 b) (r40 : 0 ≤ r4) (r41 : r4 < 3) (c4 : Nat), atI ("+-=" : Str).cps.toList r4 = some c4 → inS (.str ⟨#[c4]⟩) asks = true → PyData.strOk ⟨#[c4]⟩ = true →
      ∀ (H5 : Hp) (x : V) (d5 : PyData) (f5 : Fr b H4 H5) (b5 : Bag H5 b) (hd5 : ∀ H0, Dp K H0 x d5) (t5 : isTerm d5 = true) (l5 : Lay d5) (t : Addr) (nt : H5 t = none), Q (.ref t) (upd H5 t (.tup [.str "ask", .str ⟨#[c4]⟩, x, .str ⟨#[ch]⟩])) := by
    intro H3 f3 b3 H4 r4 f4 b4 r40 r41 c4 hc4 hi4 ho4 H5 x d5 f5 b5 hd5 t5 l5 t nt
    exact q _ _ (.tuple [.str "ask", .str ⟨#[c4]⟩, d5, .str ⟨#[ch]⟩]) (f3.trans (f4.trans (f5.trans (Fr.of (same_new nt _))))) (b5.keep (same_new nt _)) (da_tup (b5.ne nt).symm upd_same (.cons (.str _) (.cons (.str _) (.cons (hd5 _) (.cons (.str _) .nil)))))
      (plain3 roles_ask (by rw [part_sign]; exact hi4) (by rw [part_term]; exact t5) (by rw [part_variable]; exact hv)) (lay4 (lay_str (by decide +kernel)) (lay_str ho4) l5 (lay_str ho))
  refine ⟨_, rfl, rfl, _, rfl, ite2 (fun c => ?_) (fun c => ?_)⟩
  · refine ⟨_, rfl, b, 3, rfl, b2, by decide, by decide, fun H3 x f3 b3 x0 x1 => ⟨rfl, _, rfl, ite2 (fun c => ?_) (fun c => ?_)⟩⟩
    · refine ⟨_, rfl, b, 2, rfl, b3, by decide, by decide, fun H4 y f4 b4 y0 y1 => ⟨(by show 2 ≤ sizeLine; decide), fun t nt => ?_⟩⟩
      refine q _ _ (.tuple [.str "answer", .int y]) (f12.trans (f3.trans (f4.trans (Fr.of (same_new nt _))))) (b4.keep (same_new nt _)) (da_tup (b4.ne nt).symm upd_same (.cons (.str _) (.cons (.int _) .nil))) (plain1 roles_answer ?_) (lay2 (lay_str (by decide +kernel)) (lay_int _))
      rw [part_answer]; simp [intIn, y0]; omega
    · refine ⟨_, rfl, b, 3, rfl, b3, by decide, by decide, fun H4 r4 f4 b4 r40 r41 => ?_⟩
      obtain ⟨c4, hc4, hi4, ho4⟩ := asks_at r40 r41
      exact ⟨_, _, _, rfl, rfl, by decide +kernel, hc4, _, rfl, b, rfl, b4, fun H5 x d5 f5 b5 hd5 t5 l5 => ⟨_, rfl, (by show 4 ≤ sizeLine; decide), fun t nt => ask H3 (f12.trans f3) b3 H4 r4 f4 b4 r40 r41 c4 hc4 hi4 ho4 H5 x d5 f5 b5 hd5 t5 l5 t nt⟩⟩
  · refine iteF ⟨_, rfl, b, 3, rfl, b2, by decide, by decide, fun H4 r4 f4 b4 r40 r41 => ?_⟩
    obtain ⟨c4, hc4, hi4, ho4⟩ := asks_at r40 r41
    exact ⟨_, _, _, rfl, rfl, by decide +kernel, hc4, _, rfl, b, rfl, b4, fun H5 x d5 f5 b5 hd5 t5 l5 => ⟨_, rfl, (by show 4 ≤ sizeLine; decide), fun t nt => ask H2 f12 b2 H4 r4 f4 b4 r40 r41 c4 hc4 hi4 ho4 H5 x d5 f5 b5 hd5 t5 l5 t nt⟩⟩
end
abbrev sNested : Stmt := top 33
abbrev sEdge : Stmt := top 34
inductive Nest (d0 : PyData) : Nat → PyData → Prop
  | zero : Nest d0 0 d0
  | wh {n : Nat} {c body : PyData} : isCond c = true → Lay c → Nest d0 n body → Nest d0 (n + 1) (.tuple [.tuple [.str "while", c, body]])
  | if1 {n : Nat} {c body : PyData} : isCond c = true → Lay c → Nest d0 n body → Nest d0 (n + 1) (.tuple [.tuple [.str "if", c, body, .tuple []]])
  | if2 {n : Nat} {c body : PyData} : isCond c = true → Lay c → Nest d0 n body → Nest d0 (n + 1) (.tuple [.tuple [.str "if", c, .tuple [], body]])
theorem lay1 {a : PyData} (ha : Lay a) : Lay (.tuple [a]) := lay_tuple (by intro d m; simp at m; rcases m with rfl; assumption)
theorem Nest.lay {d0 : PyData} (h0 : Lay d0) : ∀ {n : Nat} {d : PyData}, Nest d0 n d → Lay d
  | _, _, .zero => h0
  | _, _, .wh _ l t => lay1 (lay3 (lay_str (by decide +kernel)) l (t.lay h0))
  | _, _, .if1 _ l t => lay1 (lay4 (lay_str (by decide +kernel)) l (t.lay h0) lay_nil)
  | _, _, .if2 _ l t => lay1 (lay4 (lay_str (by decide +kernel)) l lay_nil (t.lay h0))
theorem body_nil (k : Str) (r : Nat) : bodyN k r (.tuple []) = some 0 := by cases r <;> rfl
theorem bods_if {ps : List PyData} : bodsOf (.tuple (.str "if" :: ps)) = ps.drop 1 := by
  show (if ("if" : Str) = "if" ∨ ("if" : Str) = "while" then ps.drop 1 else []) = _
  rw [if_pos (.inl rfl)]
theorem bods_while {ps : List PyData} : bodsOf (.tuple (.str "while" :: ps)) = ps.drop 1 := by
  show (if ("while" : Str) = "if" ∨ ("while" : Str) = "while" then ps.drop 1 else []) = _
  rw [if_pos (.inr rfl)]
theorem body_one (k : Str) (r : Nat) (s : PyData) : bodyN k (r + 1) (.tuple [s]) = stN k r s := by
  rw [bodyN_tup]
  simp only [List.map_cons, List.map_nil, sumO, addO_zero]
theorem nest_body (k : Str) {d0 : PyData} : ∀ {n : Nat} {d : PyData} (r : Nat), Nest d0 n d → bodyN k r d = if n ≤ r then addO (some n) (bodyN k (r - n) d0) else none
  | 0, _, r, .zero => by rw [if_pos (Nat.zero_le r), zero_addO, Nat.sub_zero]
  | n + 1, _, 0, h => by
    rw [if_neg (by omega)]
    cases h <;> rfl
  | n + 1, _, r + 1, h => by
    have fin : ∀ body, Nest d0 n body → addO (some 1) (bodyN k r body) = if n + 1 ≤ r + 1 then addO (some (n + 1)) (bodyN k (r + 1 - (n + 1)) d0) else none := fun body hb => by
      rw [nest_body k r hb]
      by_cases c : n ≤ r
      · rw [if_pos c, if_pos (by omega), ← addO_assoc]
        congr 1
        · show some (1 + n) = some (n + 1)
          congr 1; omega
        · congr 1; omega
      · rw [if_neg c, if_neg (by omega), addO_none]
    cases h with
    | wh hc l hb =>
      rw [body_one]
      rename_i c0 bd
      have e : isOut (.tuple (.str "while" :: [c0, bd])) k = true := out_while.trans hc
      unfold stN
      rw [if_pos e, bods_while]
      simp only [List.drop_succ_cons, List.drop_zero, List.map_cons, List.map_nil, sumO, addO_zero]
      exact fin _ hb
    | if1 hc l hb =>
      rw [body_one]
      rename_i c0 bd
      have e : isOut (.tuple (.str "if" :: [c0, bd, .tuple []])) k = true := out_if.trans hc
      unfold stN
      rw [if_pos e, bods_if]
      simp only [List.drop_succ_cons, List.drop_zero, List.map_cons, List.map_nil, sumO, addO_zero, body_nil]
      exact fin _ hb
    | if2 hc l hb =>
      rw [body_one]
      rename_i c0 bd
      have e : isOut (.tuple (.str "if" :: [c0, .tuple [], bd])) k = true := out_if.trans hc
      unfold stN
      rw [if_pos e, bods_if]
      simp only [List.drop_succ_cons, List.drop_zero, List.map_cons, List.map_nil, sumO, addO_zero, body_nil, zero_addO]
      exact fin _ hb
def spNested (K : PySem.W.Frag) : Sp := fun vs H Q _ => ∃ (b : Addr) (n : Nat) (v0 : V) (d0 : PyData), vs = [.ref b, .int (n : Nat), v0] ∧ Bag H b ∧ n ≤ 1000 ∧ Da K b H v0 d0 ∧ ∀ H' v d, Fr b H H' → Bag H' b → Da K b H' v d → Nest d0 n d → Q v H'
def spEdge (K : PySem.W.Frag) : Sp := fun vs H Q _ => ∃ (b : Addr), vs = [.ref b] ∧ Bag H b ∧ ∀ H' t v d g, Fr b H H' → Bag H' b → H' t = some (.tup [v, .bl g]) → Da K b H' v d → (∀ k, isOut d k = g) → bodsOf d = [] → Lay d → Q (.ref t) H'
theorem out_wait (k : Str) (p : PyData) : isOut (.tuple [.str "wait", p]) k = intIn p 1 longest := by
  rw [out_else (by decide +kernel) (by decide +kernel), plain_some (roles_wait k)]
  simp [allParts, part_steps]
theorem out_set (k : Str) (v p : PyData) : isOut (.tuple [.str "set", v, p]) k = (inS v vars && intIn p 0 15) := by
  rw [out_else (by decide +kernel) (by decide +kernel), plain_some (roles_set k)]
  simp [allParts, part_variable, part_value]
theorem out_add (k : Str) (v p : PyData) : isOut (.tuple [.str "add", v, p]) k = (inS v vars && isTerm p) := by
  rw [out_else (by decide +kernel) (by decide +kernel), plain_some (roles_add k)]
  simp [allParts, part_variable, part_term]
theorem bods_else {z : Str} {ps : List PyData} (h1 : ¬ z = "if") (h2 : ¬ z = "while") : bodsOf (.tuple (.str z :: ps)) = [] := by
  show (if z = "if" ∨ z = "while" then ps.drop 1 else []) = _
  rw [if_neg (by rintro (e | e); exact h1 e; exact h2 e)]
section
variable {P : Program} {w : World} {K : PySem.W.Frag} {mg : Str → Option Value} {base : Heap}
theorem scNested : FnScope ["_law_bag_here", "_law_deep", "_law_inner", "_law_body", "_law_turn", "_law_condition_here", "_law_way"] ["_law_bag_here", "_law_deep", "_law_inner"] (defScope sNested) := ⟨rfl, rfl, rfl, by decide +kernel, rfl, by decide +kernel, by decide +kernel⟩
theorem ok_nested {f : Addr} {fd : FuncData} (F : Fun K "_law_nested" "_law_nested" sNested f fd) (T2 : G2 mg) (CD : Cal P w K mg base 1 "_law_draw" ["_law_bag_here", "_law_many"] spDraw) (CC : Cal P w K mg base 3 "_law_condition" ["_law_bag_here"] (spCondL K)) :
    FnOk P w K mg base CX0 4 f fd ["_law_bag_here", "_law_deep", "_law_inner"] (spNested K) := by
  refine F.ok scNested (fun vs H Q E h => ?_) (fun cdv A outer s H vs Q E hr h => ?_)
  · obtain ⟨b, n, v0, d0, rfl, _⟩ := h
    rfl
  obtain ⟨b, n, v0, d0, rfl, hb, hn, hd0, q⟩ := h
  have hr1 : Room 1 _ := hr.mono (by decide)
  refine ⟨_, pss_cons (ps_set (i := 3) scNested.nd rfl (.inl rfl) (pv 2))
    (pss_cons (ps_for PassesOwn.never rfl (pi_range1 (by rfl) T2.range (pa_cons (pv 1) pa_nil)) (pg_name (i := 4) scNested.nd rfl (.inl rfl))
      (pss_cons (ps_set (i := 5) scNested.nd rfl (.inl rfl) (pe_call CC.G hr rfl CC.m CC.kp CC.b .nil pass0 (pa_cons (pv 0) pa_nil)))
      (pss_cons (ps_set (i := 6) scNested.nd rfl (.inl rfl) (pe_call CD.G hr1 rfl CD.m CD.kp CD.b .nil pass0 (pa_cons (pv 0) (pa_cons pe_int pa_nil))))
      (pss_one (ps_set (i := 3) scNested.nd rfl (.inl rfl) (pe_tup (pa_cons (pe_ix ix_list (pe_lst (pa_cons (pe_tup (pa_cons pe_str (pa_cons (pv 5) (pa_cons (pv 3) pa_nil))))
        (pa_cons (pe_tup (pa_cons pe_str (pa_cons (pv 5) (pa_cons (pv 3) (pa_cons (pe_tup pa_nil) pa_nil))))) (pa_cons (pe_tup (pa_cons pe_str (pa_cons (pv 5) (pa_cons (pe_tup pa_nil) (pa_cons (pv 3) pa_nil))))) pa_nil)))) (pv 6) (fun _ _ => rfl)) pa_nil)))))))
    (pss_one (ps_ret (pv 3)))), ?_⟩
  refine ⟨_, rfl, _, rfl, _, rfl, (by omega), (by omega), for_range (lo := 0) (n := ((n : Nat) : Int).toNat) (fun i σ H' => ∃ (v : V) (d : PyData) (s4 s5 s6 : Option V), σ = [some (.ref b), some (.int (n : Nat)), some v0, some v, s4, s5, s6] ∧ Fr b H H' ∧ Bag H' b ∧ Da K b H' v d ∧ Nest d0 i d)
    ⟨v0, d0, none, none, none, rfl, Fr.refl _ _, hb, hd0, .zero⟩ ?_ ?_⟩
  · rintro i σ H1 hi ⟨v, d, s4, s5, s6, rfl, f1, b1, hd, hN⟩
    refine ⟨_, rfl, b, rfl, b1, fun H2 v2 d2 f2 b2 hd2 hc2 l2 => ⟨_, rfl, b, 3, rfl, b2, by decide, by decide, fun H3 r f3 b3 r0 r1 => ?_⟩⟩
    have hv3 : Da K b H3 v d := hd.fr (f2.trans f3)
    have hc3 : Da K b H3 v2 d2 := hd2.fr f3
    refine ⟨_, rfl, _, rfl, (by show 3 ≤ sizeLine; decide), fun t1 n1 => ?_⟩
    have b4 := b3.keep (same_new n1 (.tup [.str "while", v2, v]))
    have g4 : Fr b H3 (upd H3 t1 (.tup [.str "while", v2, v])) := Fr.of (same_new n1 _)
    have e4 : Da K b (upd H3 t1 (.tup [.str "while", v2, v])) (.ref t1) (.tuple [.str "while", d2, d]) := da_tup (b3.ne n1).symm upd_same (.cons (.str _) (.cons (hc3.fr g4) (.cons (hv3.fr g4) .nil)))
    generalize upd H3 t1 (.tup [.str "while", v2, v]) = H4 at b4 g4 e4 ⊢
    refine ⟨_, rfl, _, rfl, (by show 0 ≤ sizeLine; decide), fun z2 nz2 => ?_⟩
    have b5 := b4.keep (same_new nz2 (.tup []))
    have g5 : Fr b H4 (upd H4 z2 (.tup [])) := Fr.of (same_new nz2 _)
    have e5 : Da K b (upd H4 z2 (.tup [])) (.ref z2) (.tuple []) := da_tup (b4.ne nz2).symm upd_same .nil
    generalize upd H4 z2 (.tup []) = H5 at b5 g5 e5 ⊢
    refine ⟨(by show 4 ≤ sizeLine; decide), fun t2 n2 => ?_⟩
    have b6 := b5.keep (same_new n2 (.tup [.str "if", v2, v, .ref z2]))
    have g6 : Fr b H5 (upd H5 t2 (.tup [.str "if", v2, v, .ref z2])) := Fr.of (same_new n2 _)
    have e6 : Da K b (upd H5 t2 (.tup [.str "if", v2, v, .ref z2])) (.ref t2) (.tuple [.str "if", d2, d, .tuple []]) := da_tup (b5.ne n2).symm upd_same (.cons (.str _) (.cons (hc3.fr (g4.trans (g5.trans g6))) (.cons (hv3.fr (g4.trans (g5.trans g6))) (.cons (e5.fr g6) .nil))))
    generalize upd H5 t2 (.tup [.str "if", v2, v, .ref z2]) = H6 at b6 g6 e6 ⊢
    refine ⟨_, rfl, (by show 0 ≤ sizeLine; decide), fun z3 nz3 => ?_⟩
    have b7 := b6.keep (same_new nz3 (.tup []))
    have g7 : Fr b H6 (upd H6 z3 (.tup [])) := Fr.of (same_new nz3 _)
    have e7 : Da K b (upd H6 z3 (.tup [])) (.ref z3) (.tuple []) := da_tup (b6.ne nz3).symm upd_same .nil
    generalize upd H6 z3 (.tup []) = H7 at b7 g7 e7 ⊢
    refine ⟨_, rfl, (by show 4 ≤ sizeLine; decide), fun t3 n3 => ?_⟩
    have b8 := b7.keep (same_new n3 (.tup [.str "if", v2, .ref z3, v]))
    have g8 : Fr b H7 (upd H7 t3 (.tup [.str "if", v2, .ref z3, v])) := Fr.of (same_new n3 _)
    have g48 := g4.trans (g5.trans (g6.trans (g7.trans g8)))
    have e8 : Da K b (upd H7 t3 (.tup [.str "if", v2, .ref z3, v])) (.ref t3) (.tuple [.str "if", d2, .tuple [], d]) := da_tup (b7.ne n3).symm upd_same (.cons (.str _) (.cons (hc3.fr g48) (.cons (e7.fr g8) (.cons (hv3.fr g48) .nil))))
    generalize upd H7 t3 (.tup [.str "if", v2, .ref z3, v]) = H8 at b8 g8 g48 e8 ⊢
    refine ⟨(by show 3 ≤ sizeLine; decide), fun l nl => ?_⟩
    have b9 := b8.keep (same_new nl (.lst [.ref t1, .ref t2, .ref t3]))
    have g9 : Fr b H8 (upd H8 l (.lst [.ref t1, .ref t2, .ref t3])) := Fr.of (same_new nl _)
    have hl : (upd H8 l (.lst [.ref t1, .ref t2, .ref t3])) l = some (.lst [.ref t1, .ref t2, .ref t3]) := upd_same
    generalize upd H8 l (.lst [.ref t1, .ref t2, .ref t3]) = H9 at b9 g9 hl ⊢
    obtain ⟨x, hx, hc⟩ := at3 (x := V.ref t1) (y := V.ref t2) (z := V.ref t3) r0 r1
    refine ⟨_, rfl, l, _, _, _, rfl, rfl, SqL.of hl, hx, (by show 1 ≤ sizeLine; decide), fun t nt => ?_⟩
    have ga : Fr b H9 (upd H9 t (.tup [x])) := Fr.of (same_new nt _)
    have fr : Fr b H (upd H9 t (.tup [x])) := f1.trans (f2.trans (f3.trans (g48.trans (g9.trans ga))))
    have key : ∀ S, Da K b H9 x S → Nest d0 (i + 1) (.tuple [S]) → ∃ (v : V) (d : PyData) (s4 s5 s6 : Option V), ([some (.ref b), some (.int (n : Nat)), some v0, some (.ref t), some (.int (0 + (i : Nat))), some v2, some (.int r)] : L2.St) = [some (.ref b), some (.int (n : Nat)), some v0, some v, s4, s5, s6] ∧ Fr b H (upd H9 t (.tup [x])) ∧ Bag (upd H9 t (.tup [x])) b ∧ Da K b (upd H9 t (.tup [x])) v d ∧ Nest d0 (i + 1) d :=
      fun S hS hN' => ⟨.ref t, .tuple [S], _, _, _, rfl, fr, b9.keep (same_new nt _), da_tup (b9.ne nt).symm upd_same (.cons (hS.fr ga) .nil), hN'⟩
    rcases hc with rfl | rfl | rfl
    · exact key _ (e4.fr (g5.trans (g6.trans (g7.trans (g8.trans g9))))) (.wh hc2 l2 hN)
    · exact key _ (e6.fr (g7.trans (g8.trans g9))) (.if1 hc2 l2 hN)
    · exact key _ (e8.fr g9) (.if2 hc2 l2 hN)
  · rintro σ H1 ⟨v, d, s4, s5, s6, rfl, f1, b1, hd, hN⟩
    exact ⟨_, rfl, q _ _ _ f1 b1 hd (by simpa using hN)⟩
theorem scEdge : FnScope ["_law_bag_here", "_law_way", "_law_off"] ["_law_bag_here"] (defScope sEdge) := ⟨rfl, rfl, rfl, by decide +kernel, rfl, by decide +kernel, by decide +kernel⟩
theorem ok_edge {f : Addr} {fd : FuncData} (F : Fun K "_law_edge" "_law_edge" sEdge f fd) (CD : Cal P w K mg base 1 "_law_draw" ["_law_bag_here", "_law_many"] spDraw) : FnOk P w K mg base CX0 2 f fd ["_law_bag_here"] (spEdge K) := by
  refine F.ok scEdge (fun vs H Q E h => ?_) (fun cdv A outer s H vs Q E hr h => ?_)
  · obtain ⟨b, rfl, _⟩ := h
    rfl
  obtain ⟨b, rfl, hb, q⟩ := h
  refine ⟨_, pss_cons (ps_set (i := 1) scEdge.nd rfl (.inl rfl) (pe_call CD.G hr rfl CD.m CD.kp CD.b .nil pass0 (pa_cons (pv 0) (pa_cons pe_int pa_nil))))
    (pss_cons (ps_set (i := 2) scEdge.nd rfl (.inl rfl) (pe_call CD.G hr rfl CD.m CD.kp CD.b .nil pass0 (pa_cons (pv 0) (pa_cons pe_int pa_nil))))
    (pss_cons (ps_if (pt_cmpR op_eq (pv 1) pe_int (nomark _)) (pss_one (ps_ret (pe_ix ix_list (pe_lst
        (pa_cons (pe_tup (pa_cons (pe_tup (pa_cons pe_str (pa_cons (pe_op op_add (pe_op op_sub (pe_op op_pow pe_int pe_int) pe_int) (pv 2)) pa_nil))) (pa_cons (pe_cmpR op_lt (pv 2) pe_int (nomark _)) pa_nil)))
        (pa_cons (pe_tup (pa_cons (pe_tup (pa_cons pe_str (pa_cons (pv 2) pa_nil))) (pa_cons (pe_cmpR op_gt (pv 2) pe_int (nomark _)) pa_nil))) pa_nil)))
        (pe_call CD.G hr rfl CD.m CD.kp CD.b .nil pass0 (pa_cons (pv 0) (pa_cons pe_int pa_nil))) (fun _ _ => rfl)))) pss_nil)
    (pss_cons (ps_if (pt_cmpR op_eq (pv 1) pe_int (nomark _)) (pss_one (ps_ret (pe_tup (pa_cons (pe_tup (pa_cons pe_str (pa_cons (pe_ix ix_str pe_str (pe_call CD.G hr rfl CD.m CD.kp CD.b .nil pass0 (pa_cons (pv 0) (pa_cons pe_int pa_nil))) (fun _ _ => rfl)) (pa_cons (pe_op op_add pe_int (pv 2)) pa_nil)))) (pa_cons (pe_cmpR op_lt (pv 2) pe_int (nomark _)) pa_nil))))) pss_nil)
    (pss_one (ps_ret (pe_tup (pa_cons (pe_tup (pa_cons pe_str (pa_cons (pe_ix ix_str pe_str (pe_call CD.G hr rfl CD.m CD.kp CD.b .nil pass0 (pa_cons (pv 0) (pa_cons pe_int pa_nil))) (fun _ _ => rfl)) (pa_cons (pe_op op_add pe_int (pv 2)) pa_nil)))) (pa_cons (pe_cmpR op_lt (pv 2) pe_int (nomark _)) pa_nil)))))))), ?_⟩
  refine ⟨_, rfl, b, 3, rfl, hb, by decide, by decide, fun H1 wy f1 b1 w0 w1 => ⟨_, rfl, b, 3, rfl, b1, by decide, by decide, fun H2 off f2 b2 o0 o1 => ?_⟩⟩
  have f12 := f1.trans f2
  have e30 : longest = 1000000000000000000000000000000 := rfl
  refine ⟨_, rfl, rfl, _, rfl, ite2 (fun c => ?_) (fun c => ?_)⟩
  · refine ⟨_, _, rfl, rfl, ⟨by decide, by decide, by decide⟩, _, _, rfl, rfl, _, rfl, _, _, rfl, rfl, (by show 2 ≤ sizeLine; decide), fun t1 n1 => ?_⟩
    rw [pow30]
    have b4 := b2.keep (same_new n1 (.tup [.str "wait", .int (longest - 1 + off)]))
    have g4 : Fr b H2 (upd H2 t1 (.tup [.str "wait", .int (longest - 1 + off)])) := Fr.of (same_new n1 _)
    have e4 : Da K b (upd H2 t1 (.tup [.str "wait", .int (longest - 1 + off)])) (.ref t1) (.tuple [.str "wait", .int (longest - 1 + off)]) := da_tup (b2.ne n1).symm upd_same (.cons (.str _) (.cons (.int _) .nil))
    generalize upd H2 t1 (.tup [.str "wait", .int (longest - 1 + off)]) = H4 at b4 g4 e4 ⊢
    refine ⟨_, rfl, _, _, rfl, rfl, (by show 2 ≤ sizeLine; decide), fun p1 m1 => ?_⟩
    have b5 := b4.keep (same_new m1 (.tup [.ref t1, .bl (decide (off < 2))]))
    have g5 : Fr b H4 (upd H4 p1 (.tup [.ref t1, .bl (decide (off < 2))])) := Fr.of (same_new m1 _)
    have e5 : (upd H4 p1 (.tup [.ref t1, .bl (decide (off < 2))])) p1 = some (.tup [.ref t1, .bl (decide (off < 2))]) := upd_same
    have np1 : p1 ≠ b := (b4.ne m1).symm
    generalize upd H4 p1 (.tup [.ref t1, .bl (decide (off < 2))]) = H5 at b5 g5 e5 ⊢
    refine ⟨_, rfl, (by show 2 ≤ sizeLine; decide), fun t2 n2 => ?_⟩
    have b6 := b5.keep (same_new n2 (.tup [.str "wait", .int off]))
    have g6 : Fr b H5 (upd H5 t2 (.tup [.str "wait", .int off])) := Fr.of (same_new n2 _)
    have e6 : Da K b (upd H5 t2 (.tup [.str "wait", .int off])) (.ref t2) (.tuple [.str "wait", .int off]) := da_tup (b5.ne n2).symm upd_same (.cons (.str _) (.cons (.int _) .nil))
    generalize upd H5 t2 (.tup [.str "wait", .int off]) = H6 at b6 g6 e6 ⊢
    refine ⟨_, rfl, _, _, rfl, rfl, (by show 2 ≤ sizeLine; decide), fun p2 m2 => ?_⟩
    have b7 := b6.keep (same_new m2 (.tup [.ref t2, .bl (decide ((0 : Int) < off))]))
    have g7 : Fr b H6 (upd H6 p2 (.tup [.ref t2, .bl (decide ((0 : Int) < off))])) := Fr.of (same_new m2 _)
    have e7 : (upd H6 p2 (.tup [.ref t2, .bl (decide ((0 : Int) < off))])) p2 = some (.tup [.ref t2, .bl (decide ((0 : Int) < off))]) := upd_same
    have np2 : p2 ≠ b := (b6.ne m2).symm
    generalize upd H6 p2 (.tup [.ref t2, .bl (decide ((0 : Int) < off))]) = H7 at b7 g7 e7 ⊢
    refine ⟨(by show 2 ≤ sizeLine; decide), fun l nl => ?_⟩
    have b8 := b7.keep (same_new nl (.lst [.ref p1, .ref p2]))
    have g8 : Fr b H7 (upd H7 l (.lst [.ref p1, .ref p2])) := Fr.of (same_new nl _)
    have e8 : (upd H7 l (.lst [.ref p1, .ref p2])) l = some (.lst [.ref p1, .ref p2]) := upd_same
    have nlb : l ≠ b := (b7.ne nl).symm
    generalize upd H7 l (.lst [.ref p1, .ref p2]) = H8 at b8 g8 e8 ⊢
    refine ⟨_, rfl, b, 2, rfl, b8, by decide, by decide, fun H9 r f9 b9 r0 r1 => ?_⟩
    obtain ⟨x, hx, hc⟩ := at2 (x := V.ref p1) (y := V.ref p2) r0 r1
    refine ⟨l, _, _, _, rfl, rfl, SqL.of (f9 l _ nlb e8), hx, ?_⟩
    have fr : Fr b H H9 := f12.trans (g4.trans (g5.trans (g6.trans (g7.trans (g8.trans f9)))))
    rcases hc with rfl | rfl
    · refine q _ _ (.ref t1) (.tuple [.str "wait", .int (longest - 1 + off)]) (decide (off < 2)) fr b9 ((g6.trans (g7.trans (g8.trans f9))) _ _ np1 e5) (e4.fr (g5.trans (g6.trans (g7.trans (g8.trans f9))))) (fun k => ?_) (bods_else (by decide +kernel) (by decide +kernel)) (lay2 (lay_str (by decide +kernel)) (lay_int _))
      rw [out_wait]
      show (decide ((1 : Int) ≤ longest - 1 + off) && decide (longest - 1 + off ≤ longest)) = _
      rw [decide_eq_true (show (1 : Int) ≤ longest - 1 + off by omega), Bool.true_and]
      exact decide_eq_decide.mpr (by omega)
    · refine q _ _ (.ref t2) (.tuple [.str "wait", .int off]) (decide ((0 : Int) < off)) fr b9 ((g8.trans f9) _ _ np2 e7) (e6.fr (g7.trans (g8.trans f9))) (fun k => ?_) (bods_else (by decide +kernel) (by decide +kernel)) (lay2 (lay_str (by decide +kernel)) (lay_int _))
      rw [out_wait]
      show (decide ((1 : Int) ≤ off) && decide (off ≤ longest)) = _
      rw [decide_eq_true (show off ≤ longest by omega), Bool.and_true]
      exact decide_eq_decide.mpr (by omega)
  have rest : ∀ (z : Str) (H3 : Hp) (r : Int) (f3 : Fr b H2 H3) (b3 : Bag H3 b) (c : Nat) (hv : inS (.str ⟨#[c]⟩) vars = true) (ho : PyData.strOk ⟨#[c]⟩ = true) (oz : PyData.strOk z = true) (h1 : ¬ z = "if") (h2 : ¬ z = "while")
      (hz : ∀ k p, isOut (.tuple [.str z, .str ⟨#[c]⟩, .int p]) k = intIn (.int p) 0 15)
      (t1 : Addr) (n1 : H3 t1 = none) (t : Addr) (nt : (upd H3 t1 (.tup [.str z, .str ⟨#[c]⟩, .int (14 + off)])) t = none),
      Q (.ref t) (upd (upd H3 t1 (.tup [.str z, .str ⟨#[c]⟩, .int (14 + off)])) t (.tup [.ref t1, .bl (decide (off < 2))])) := by
    intro z H3 r f3 b3 c hv ho oz h1 h2 hz t1 n1 t nt
    have b4 := b3.keep (same_new n1 (.tup [.str z, .str ⟨#[c]⟩, .int (14 + off)]))
    have g4 : Fr b H3 (upd H3 t1 (.tup [.str z, .str ⟨#[c]⟩, .int (14 + off)])) := Fr.of (same_new n1 _)
    have e4 : Da K b (upd H3 t1 (.tup [.str z, .str ⟨#[c]⟩, .int (14 + off)])) (.ref t1) (.tuple [.str z, .str ⟨#[c]⟩, .int (14 + off)]) := da_tup (b3.ne n1).symm upd_same (.cons (.str _) (.cons (.str _) (.cons (.int _) .nil)))
    have g5 : Fr b _ (upd (upd H3 t1 (.tup [.str z, .str ⟨#[c]⟩, .int (14 + off)])) t (.tup [.ref t1, .bl (decide (off < 2))])) := Fr.of (same_new nt _)
    refine q _ _ (.ref t1) (.tuple [.str z, .str ⟨#[c]⟩, .int (14 + off)]) (decide (off < 2)) (f12.trans (f3.trans (g4.trans g5))) (b4.keep (same_new nt _)) upd_same (e4.fr g5) (fun k => ?_) (bods_else h1 h2) (lay3 (lay_str oz) (lay_str ho) (lay_int _))
    rw [hz]
    show (decide ((0 : Int) ≤ 14 + off) && decide (14 + off ≤ 15)) = _
    rw [decide_eq_true (show (0 : Int) ≤ 14 + off by omega), Bool.true_and]
    exact decide_eq_decide.mpr (by omega)
  refine ⟨_, rfl, rfl, _, rfl, ite2 (fun c => ?_) (fun c => ?_)⟩
  · refine ⟨_, rfl, b, 2, rfl, b2, by decide, by decide, fun H3 r f3 b3 r0 r1 => ?_⟩
    obtain ⟨ch, hc, hv, ho⟩ := ab_at r0 r1
    refine ⟨_, _, _, rfl, rfl, by decide +kernel, hc, _, rfl, _, _, rfl, rfl, (by show 3 ≤ sizeLine; decide), fun t1 n1 => ⟨_, rfl, _, _, rfl, rfl, (by show 2 ≤ sizeLine; decide), fun t nt => ?_⟩⟩
    exact rest "set" H3 r f3 b3 ch hv ho (by decide +kernel) (by decide +kernel) (by decide +kernel) (fun k p => by rw [out_set, hv, Bool.true_and]) t1 n1 t nt
  · refine ⟨_, rfl, b, 2, rfl, b2, by decide, by decide, fun H3 r f3 b3 r0 r1 => ?_⟩
    obtain ⟨ch, hc, hv, ho⟩ := ab_at r0 r1
    refine ⟨_, _, _, rfl, rfl, by decide +kernel, hc, _, rfl, _, _, rfl, rfl, (by show 3 ≤ sizeLine; decide), fun t1 n1 => ⟨_, rfl, _, _, rfl, rfl, (by show 2 ≤ sizeLine; decide), fun t nt => ?_⟩⟩
    exact rest "add" H3 r f3 b3 ch hv ho (by decide +kernel) (by decide +kernel) (by decide +kernel) (fun k p => by rw [out_add, hv, Bool.true_and]; unfold isTerm; rfl) t1 n1 t nt
end
abbrev sLaw : Stmt := top 35
theorem roles_if (k : Str) : rolesZ "if" k = none := by
  unfold rolesZ
  rw [if_neg (by decide +kernel), if_neg (by decide +kernel), if_neg (by decide +kernel)]
  split
  · rw [if_neg (by decide +kernel), if_neg (by decide +kernel)]
  · rw [if_neg (by decide +kernel), if_neg (by decide +kernel)]
theorem roles_while (k : Str) : rolesZ "while" k = none := by
  unfold rolesZ
  rw [if_neg (by decide +kernel), if_neg (by decide +kernel), if_neg (by decide +kernel)]
  split
  · rw [if_neg (by decide +kernel), if_neg (by decide +kernel)]
  · rw [if_neg (by decide +kernel), if_neg (by decide +kernel)]
theorem plain_inv {d : PyData} {k : Str} (h : isPlain d k = true) : ∃ z ps rs, d = .tuple (.str z :: ps) ∧ rolesZ z k = some rs ∧ ps.length = rs.length ∧ allParts ps rs = true := by
  cases hw : wordOf d with
  | none =>
    have e : rolesOf (wordOf d) k = none := by rw [hw]; rfl
    rw [plain_none e] at h
    cases h
  | some z =>
    obtain ⟨ps, rfl⟩ := word_inv hw
    cases hz : rolesZ z k with
    | none =>
      have e : rolesOf (wordOf (.tuple (.str z :: ps))) k = none := hz
      rw [plain_none e] at h
      cases h
    | some rs =>
      rw [plain_some hz, Bool.and_eq_true] at h
      exact ⟨z, ps, rs, rfl, hz, of_decide_eq_true h.1, h.2⟩
theorem plain_st {d : PyData} {k : Str} (h : isPlain d k = true) : isOut d k = true ∧ bodsOf d = [] := by
  obtain ⟨z, ps, rs, rfl, hz, _⟩ := plain_inv h
  have n1 : ¬ z = "if" := fun e => by rw [e, roles_if] at hz; cases hz
  have n2 : ¬ z = "while" := fun e => by rw [e, roles_while] at hz; cases hz
  exact ⟨(out_else n1 n2).trans h, bods_else n1 n2⟩
theorem stN_plain {d : PyData} {k : Str} {r : Nat} (h : isPlain d k = true) : stN k r d = some 1 := by
  obtain ⟨h1, h2⟩ := plain_st h
  unfold stN
  rw [if_pos h1, h2]
  rfl
theorem sum_plain {k : Str} {r : Nat} : ∀ {ds : List PyData}, (∀ d ∈ ds, isPlain d k = true) → sumO (ds.map (stN k r)) = some ds.length
  | [], _ => rfl
  | d :: t, h => by
    simp only [List.map_cons, sumO]
    rw [stN_plain (h d (by simp)), sum_plain fun x m => h x (List.mem_cons_of_mem _ m)]
    simp only [addO, List.length_cons]
    congr 1
    omega
theorem nest_succ {d0 d : PyData} {n : Nat} (h : Nest d0 (n + 1) d) : ∃ S, d = .tuple [S] := by
  cases h
  · exact ⟨_, rfl⟩
  · exact ⟨_, rfl⟩
  · exact ⟨_, rfl⟩
def Inner (k : Str) (d0 : PyData) (li : Nat) : Prop := (d0 = .tuple [] ∧ li = 0) ∨ ∃ s, d0 = .tuple [s] ∧ isPlain s k = true ∧ li = 1
theorem inner_body {k : Str} {d0 : PyData} {li : Nat} (h : Inner k d0 li) (r : Nat) : bodyN k r d0 = if li ≤ r then some li else none := by
  rcases h with ⟨rfl, rfl⟩ | ⟨s, rfl, hs, rfl⟩
  · rw [body_nil, if_pos (Nat.zero_le _)]
  · cases r with
    | zero => rfl
    | succ r => rw [body_one, stN_plain hs, if_pos (by omega)]
theorem whole_k02 {k : Str} {d0 S : PyData} {n li : Nat} {a c : List PyData} (ha : ∀ d ∈ a, isPlain d k = true) (hc : ∀ d ∈ c, isPlain d k = true) (hN : Nest d0 (n + 1) (.tuple [S])) (hi : Inner k d0 li) :
    bodyN k 4 (.tuple (a ++ [S] ++ c)) = if n + 1 + li ≤ 4 then some (a.length + c.length + (n + 1) + li) else none := by
  rw [bodyN_tup, List.map_append, List.map_append, sumO_append, sumO_append, sum_plain ha, sum_plain hc]
  simp only [List.map_cons, List.map_nil, sumO, addO_zero]
  rw [← body_one, nest_body k 4 hN]
  by_cases c1 : n + 1 ≤ 4
  · rw [if_pos c1, inner_body hi]
    by_cases c2 : li ≤ 4 - (n + 1)
    · rw [if_pos c2, if_pos (by omega)]
      simp only [addO]
      congr 1
      omega
    · rw [if_neg c2, if_neg (by omega)]
      rfl
  · rw [if_neg c1, if_neg (by omega)]
    rfl
theorem kinds_in {k : Str} (h : k = "teller" ∨ k = "collector") : inS (.str k) kinds = true := by
  rcases h with rfl | rfl <;> decide +kernel
theorem strOk_kind {k : Str} (h : k = "teller" ∨ k = "collector") : PyData.strOk k = true := by
  rcases h with rfl | rfl <;> decide +kernel
theorem prog_k02 {k : Str} {d0 S : PyData} {n li many : Nat} {a c : List PyData} (hk : k = "teller" ∨ k = "collector") (ha : ∀ d ∈ a, isPlain d k = true) (hc : ∀ d ∈ c, isPlain d k = true) (hN : Nest d0 (n + 1) (.tuple [S])) (hi : Inner k d0 li) (hm : a.length + c.length + (n + 1) + li = many) :
    isProg (.tuple [.str k, .tuple (a ++ [S] ++ c)]) = (decide (many ≤ 24) && decide (n + 1 + li ≤ 4)) := by
  show (inS (.str k) kinds && okN 0 (bodyN k 4 (.tuple (a ++ [S] ++ c)))) = _
  rw [kinds_in hk, Bool.true_and, whole_k02 ha hc hN hi]
  by_cases c1 : n + 1 + li ≤ 4
  · rw [if_pos c1, decide_eq_true c1, Bool.and_true, hm]
    show decide (0 + many ≤ 24) = _
    rw [Nat.zero_add]
  · rw [if_neg c1, decide_eq_false c1, Bool.and_false]
    rfl
theorem prog_edge {k : Str} {e d : PyData} {n : Nat} {g : Bool} (hk : k = "teller" ∨ k = "collector") (hn : n ≤ 3) (hN : Nest (.tuple [e]) n d) (hg : isOut e k = g) (hb : bodsOf e = []) : isProg (.tuple [.str k, d]) = g := by
  show (inS (.str k) kinds && okN 0 (bodyN k 4 d)) = _
  rw [kinds_in hk, Bool.true_and, nest_body k 4 hN, if_pos (by omega)]
  obtain ⟨r, hr⟩ : ∃ r, 4 - n = r + 1 := ⟨3 - n, by omega⟩
  rw [hr, body_one]
  unfold stN
  cases g with
  | false => rw [if_neg (by rw [hg]; decide)]; rfl
  | true =>
    rw [if_pos hg, hb]
    show decide (0 + (n + (1 + 0)) ≤ 24) = true
    exact decide_eq_true (by omega)
/-! ### data without lists -/
mutual
def noL : PyData → Bool
  | .list _ => false
  | .tuple xs => noLAll xs
  | .none | .bool _ | .int _ | .str _ | .dict _ => true
def noLAll : List PyData → Bool
  | [] => true
  | x :: xs => noL x && noLAll xs
end
mutual
theorem dp_keepL {K : PySem.W.Frag} {H H' : Hp} {D : Addr} {ys : List V} (e : ∀ a o, a ≠ D → H a = some o → H' a = some o) (hD : H D = some (.lst ys)) : ∀ (d : PyData) (v : V), noL d = true → Dp K H v d → Dp K H' v d
  | .none, _, _, h => by cases h; exact .non
  | .bool b, _, _, h => by cases h; exact .bl b
  | .int i, _, _, h => by cases h; exact .int i
  | .str x, _, _, h => by cases h; exact .str x
  | .list ds, _, n, h => by simp [noL] at n
  | .tuple ds, _, n, h => by
    cases h with
    | tup hs ha =>
      refine .tup ?_ (dpAll_keepL e hD ds _ (by simpa [noL] using n) ha)
      rcases hs with (h | ⟨o, h⟩) | h
      · exact .inl (.inl (e _ _ (ne_of h hD (by intro z; cases z)) h))
      · exact .inl (.inr ⟨o, e _ _ (ne_of h hD (by intro z; cases z)) h⟩)
      · exact .inr h
  | .dict _, _, _, h => by cases h
theorem dpAll_keepL {K : PySem.W.Frag} {H H' : Hp} {D : Addr} {ys : List V} (e : ∀ a o, a ≠ D → H a = some o → H' a = some o) (hD : H D = some (.lst ys)) : ∀ (ds : List PyData) (vs : List V), noLAll ds = true → DpAll K H vs ds → DpAll K H' vs ds
  | [], _, _, h => by cases h; exact .nil
  | d :: ds, _, n, h => by
    simp only [noLAll, Bool.and_eq_true] at n
    cases h with
    | cons hd ht => exact .cons (dp_keepL e hD d _ n.1 hd) (dpAll_keepL e hD ds _ n.2 ht)
end
theorem part_noL {p : PyData} {r : Str} (h : isPart p r = true) : noL p = true := by
  cases p with
  | list xs => unfold isPart at h; repeat' split at h
               all_goals simp [inS, isTerm, intIn] at h
  | tuple xs => unfold isPart at h; repeat' split at h
                all_goals simp [inS, isTerm, intIn] at h
  | _ => rfl
theorem parts_noL : ∀ {ps : List PyData} {rs : List Str}, ps.length = rs.length → allParts ps rs = true → noLAll ps = true
  | [], _, _, _ => rfl
  | p :: ps, [], l, _ => by simp at l
  | p :: ps, r :: rs, l, h => by
    have h' : isPart p r = true ∧ allParts ps rs = true := by
      simpa [allParts] using h
    simp only [noLAll, Bool.and_eq_true]
    exact ⟨part_noL h'.1, parts_noL (by simpa using l) h'.2⟩
theorem plain_noL {d : PyData} {k : Str} (h : isPlain d k = true) : noL d = true := by
  obtain ⟨z, ps, rs, rfl, hz, hl, hp⟩ := plain_inv h
  simp only [noL, noLAll, Bool.true_and]
  exact parts_noL hl hp
theorem all_noL {k : Str} : ∀ {ds : List PyData}, (∀ d ∈ ds, isPlain d k = true ∧ Lay d) → noLAll ds = true
  | [], _ => rfl
  | d :: t, h => by
    simp only [noLAll, Bool.and_eq_true]
    exact ⟨plain_noL (h d (by simp)).1, all_noL fun x m => h x (List.mem_cons_of_mem _ m)⟩
theorem dpAll_append {K : PySem.W.Frag} {H : Hp} : ∀ {xs ys : List V} {ds es : List PyData}, DpAll K H xs ds → DpAll K H ys es → DpAll K H (xs ++ ys) (ds ++ es)
  | _, _, _, _, .nil, h => h
  | _, _, _, _, .cons a t, h => .cons a (dpAll_append t h)
theorem dpAll_take {K : PySem.W.Frag} {H : Hp} : ∀ (n : Nat) {xs : List V} {ds : List PyData}, DpAll K H xs ds → DpAll K H (xs.take n) (ds.take n)
  | 0, _, _, _ => .nil
  | n + 1, _, _, .nil => .nil
  | n + 1, _, _, .cons a t => .cons a (dpAll_take n t)
theorem cut_lo (xs : List V) (n : Nat) : cutV xs none (some (n : Int)) = xs.take n := by
  unfold cutV
  rw [HT.sIx_nat, HT.sIx_none, List.drop_zero, Nat.sub_zero, List.take_eq_take_iff]
  omega
theorem cut_hi (xs : List V) (n : Nat) : cutV xs (some (n : Int)) none = xs.drop n := by
  unfold cutV
  rw [HT.sIx_nat, HT.sIx_none]
  by_cases h : n ≤ xs.length
  · rw [Nat.min_eq_left h, List.take_of_length_le (by rw [List.length_drop]; omega)]
  · rw [Nat.min_eq_right (by omega), List.drop_of_length_le (Nat.le_refl _), List.drop_of_length_le (by omega)]
    simp
section
variable {X : Cx}
def rCatH (K : PySem.W.Frag) (bg : Addr) : R2 := fun x y H Q => ∃ a b xs ys, x = .ref a ∧ y = .ref b ∧ SqT K (hide bg H) a xs ∧ SqT K (hide bg H) b ys ∧ xs.length + ys.length ≤ sizeLine ∧ Bag H bg ∧ ∀ w H', Same H H' → SqT K (hide bg H') w (xs ++ ys) → Q (.ref w) H'
theorem op_catH (bg : Addr) : OpR X (binaryOp .Add) (rCatH X.K bg) := by
  intro pins s σ H x y v u Q I rx ry h
  obtain ⟨a, b, xs, ys, rfl, rfl, ha, hb, hz, hB, q⟩ := h
  refine op_catA pins s σ H _ _ v u Q I rx ry ⟨a, b, xs, ys, rfl, rfl, Same.tup (hide_same _ _) ha, Same.tup (hide_same _ _) hb, hz, fun e => ?_, fun _ e => ?_, fun _ _ p np => ?_⟩
  · exact q b H (Same.refl H) (by rw [e]; exact hb)
  · exact q a H (Same.refl H) (by rw [e, List.append_nil]; exact ha)
  · exact q p _ (same_new np _) (SqT.of (hide_get (hB.ne np).symm upd_same))
end
def spLaw (K : PySem.W.Frag) : Sp := fun vs H Q _ => ∃ (a : Addr) (ns : List Int), vs = [.ref a] ∧ SqL K H a (ns.map V.int) ∧ ns.length ≤ 63 ∧ ∀ H', Q (.bl true) H'
def nL : List Str := ["_law_script", "_law_k", "_law_bag_here", "_law_kind_here", "_law_deep", "_law_inner", "_law_body", "_law_many", "_law_ahead", "_law_flat", "_law_whole", "_law_due", "_law_found", "_law_edge_here", "_law_good", "_law_turn"]
def rCatE (K : PySem.W.Frag) : R2 := fun x y H Q => ∃ bg, rCatH K bg x y H Q
theorem op_catE {X : Cx} : OpR X (binaryOp .Add) (rCatE X.K) := by
  intro pins s σ H x y v u Q I rx ry h
  obtain ⟨bg, h⟩ := h
  exact op_catH bg pins s σ H x y v u Q I rx ry h
theorem and_one {c e : Bool} {tb : TE} {σ : L2.St} {H : Hp} {Q : VK} (h : ∀ Q' : VK, Q' (.bl e) H → tb σ H Q') (q : Q (.bl (c && e)) H) : if c = true then tb σ H Q else Q (.bl false) H := by
  cases c with
  | true => exact iteT (h _ q)
  | false => exact iteF q
theorem Bag.upd {H : Hp} {b D : Addr} {o : HO} (h : Bag H b) (n : D ≠ b) : Bag (upd H D o) b := by
  obtain ⟨c, s, e, r⟩ := h
  exact ⟨c, s, by rw [upd_ne n.symm]; exact e, r⟩
theorem hide_upd {b D : Addr} {H : Hp} {o : HO} : ∀ a u, a ≠ D → hide b H a = some u → hide b (L2.upd H D o) a = some u := fun a u n h => by
  unfold hide at h ⊢
  split at h
  · cases h
  · rename_i nb
    rw [if_neg nb, upd_ne n]
    exact h
theorem fr_upd {b D : Addr} {H H' : Hp} (f : Fr b H H') (n : H D = none) (o : HO) : Fr b H (upd H' D o) := fun x u nx h => by
  rw [upd_ne (ne_of_none h n)]
  exact f _ _ nx h
section
variable {P : Program} {w : World} {K : PySem.W.Frag} {mg : Str → Option Value} {base : Heap}
theorem scLaw : FnScope ["_law_script", "_law_k", "_law_bag_here", "_law_kind_here", "_law_deep", "_law_inner", "_law_body", "_law_many", "_law_ahead", "_law_flat", "_law_whole", "_law_due", "_law_found", "_law_edge_here", "_law_good", "_law_turn"] ["_law_script"] (defScope sLaw) := ⟨rfl, rfl, rfl, by decide +kernel, rfl, by decide +kernel, by decide +kernel⟩
theorem ok_law {f : Addr} {fd : FuncData} (F : Fun K "law" "law" sLaw f fd) (T : Gs K mg) (T2 : G2 mg)
    (CB : Cal P w K mg base 1 "_law_bag" ["_law_script", "_law_k"] (spBag K)) (CD : Cal P w K mg base 1 "_law_draw" ["_law_bag_here", "_law_many"] spDraw) (CK : Cal P w K mg base 2 "_law_kind" ["_law_bag_here"] spKind)
    (CS : Cal P w K mg base 4 "_law_simple" ["_law_bag_here", "_law_kind_here"] (spSimple K)) (CN : Cal P w K mg base 4 "_law_nested" ["_law_bag_here", "_law_deep", "_law_inner"] (spNested K)) (CE : Cal P w K mg base 2 "_law_edge" ["_law_bag_here"] (spEdge K))
    (CP : Cal P w K mg base 7 "is_program" ["thing"] (spProg K)) : FnOk P w K mg base CX0 8 f fd ["_law_script"] (spLaw K) := by
  refine F.ok scLaw (fun vs H Q E h => ?_) (fun cdv A outer s H vs Q E hr h => ?_)
  · obtain ⟨a, ns, rfl, _⟩ := h
    rfl
  obtain ⟨a, ns, rfl, hS, h63, q⟩ := h
  have hr1 : Room 1 _ := hr.mono (by decide)
  have hr2 : Room 2 _ := hr.mono (by decide)
  have hr4 : Room 4 _ := hr.mono (by decide)
  refine ⟨_, pss_cons (ps_for PassesOwn.never rfl (pi_range1 (by rfl) T2.range (pa_cons (pe_callB (call_max2 rfl) (by rfl) T2.max (by decide +kernel) (pa_cons pe_int (pa_cons (pe_callB (call_min2 rfl) (by rfl) T2.min (by decide +kernel) (pa_cons pe_int (pa_cons (pe_callB call_len_seq (by rfl) T.len PySem.boot_len (pa_cons (pv 0) pa_nil)) pa_nil))) pa_nil))) pa_nil)) (pg_name (i := 1) scLaw.nd rfl (.inl rfl))
      (pss_cons (ps_set (i := 2) scLaw.nd rfl (.inr rfl) (pe_call CB.G hr1 rfl CB.m CB.kp CB.b .nil pass0 (pa_cons (pv 0) (pa_cons (pv 1) pa_nil))))
      (pss_cons (ps_set (i := 3) scLaw.nd rfl (.inr rfl) (pe_call CK.G hr2 rfl CK.m CK.kp CK.b .nil pass0 (pa_cons (pv 2) pa_nil)))
      (pss_cons (ps_set (i := 4) scLaw.nd rfl (.inl rfl) (pe_op op_add pe_int (pe_call CD.G hr1 rfl CD.m CD.kp CD.b .nil pass0 (pa_cons (pv 2) (pa_cons pe_int pa_nil)))))
      (pss_cons (ps_set (i := 5) scLaw.nd rfl (.inl rfl) (pe_ix ix_list (pe_lst (pa_cons (pe_tup pa_nil) (pa_cons (pe_tup (pa_cons (pe_call CS.G hr4 rfl CS.m CS.kp CS.b .nil pass0 (pa_cons (pv 2) (pa_cons (pv 3) pa_nil))) pa_nil)) pa_nil))) (pe_call CD.G hr1 rfl CD.m CD.kp CD.b .nil pass0 (pa_cons (pv 2) (pa_cons pe_int pa_nil))) (fun _ _ => rfl)))
      (pss_cons (ps_set (i := 6) scLaw.nd rfl (.inl rfl) (pe_call CN.G hr4 rfl CN.m CN.kp CN.b .nil pass0 (pa_cons (pv 2) (pa_cons (pv 4) (pa_cons (pv 5) pa_nil)))))
      (pss_cons (ps_set (i := 7) scLaw.nd rfl (.inl rfl) (pe_op op_add pe_int (pe_call CD.G hr1 rfl CD.m CD.kp CD.b .nil pass0 (pa_cons (pv 2) (pa_cons pe_int pa_nil)))))
      (pss_cons (ps_set (i := 8) scLaw.nd rfl (.inl rfl) (pe_call CD.G hr1 rfl CD.m CD.kp CD.b .nil pass0 (pa_cons (pv 2) (pa_cons (pv 7) pa_nil))))
      (pss_cons (ps_setLc (i := 9) (own := [("_law_turn", 15)]) (g := gName 15) (tt := tYes) rfl scLaw.nd rfl rfl (sw_true rfl rfl rfl (by decide +kernel))
          (pi_range1 (by rfl) T2.range (pa_cons (pe_op op_sub (pe_op op_sub (pv 7) (pv 4)) (pe_callB call_len_seq (by rfl) T.len PySem.boot_len (pa_cons (pv 5) pa_nil))) pa_nil))
          (blkOk_by (N := ["_law_script", "_law_k", "_law_bag_here", "_law_kind_here", "_law_deep", "_law_inner", "_law_body", "_law_many", "_law_ahead", "_law_flat", "_law_whole", "_law_due", "_law_found", "_law_edge_here", "_law_good", "_law_turn"]) (sc := defScope sLaw) (by decide +kernel))
          (fun _ _ _ _ _ => pg_name (i := 15) scLaw.nd rfl (.inl rfl)) (fun _ _ _ _ _ => pts_nil)
          (fun _ _ _ _ _ => pe_call CS.G hr4 rfl CS.m CS.kp CS.b .nil pass0 (pa_cons (pv 2) (pa_cons (pv 3) pa_nil))))
      (pss_cons (ps_set (i := 10) scLaw.nd rfl (.inl rfl) (pe_tup (pa_cons (pv 3) (pa_cons (pe_op op_catE (pe_op op_catE
            (pe_callTy call_tuple_of (by rfl) T.tup (by decide +kernel) (pa_cons (pe_slice sl_list (pv 9) po_none (po_some (pv 8))) pa_nil)) (pv 6))
            (pe_callTy call_tuple_of (by rfl) T.tup (by decide +kernel) (pa_cons (pe_slice sl_list (pv 9) (po_some (pv 8)) po_none) pa_nil))) pa_nil))))
      (pss_cons (ps_set (i := 11) scLaw.nd rfl (.inl rfl) (pe_and (pe_cmpR op_le (pv 7) pe_int (nomark _)) (pe_one (pe_cmpR op_le (pe_op op_add (pv 4) (pe_callB call_len_seq (by rfl) T.len PySem.boot_len (pa_cons (pv 5) pa_nil))) pe_int (nomark _)))))
      (pss_cons (ps_set (i := 12) scLaw.nd rfl (.inl rfl) (pe_call CP.G hr rfl CP.m CP.kp CP.b .nil pass0 (pa_cons (pv 10) pa_nil)))
      (pss_cons (ps_if (PW.pt (pw_or (pt_not (pt_val (pe_callB call_isi (by rfl) T.isi (by decide +kernel) (pa_cons (pv 12) (pa_cons (pe_bltn (v := .ty "bool") (by rfl) T.bool (by decide +kernel) rfl) pa_nil)))))
          (pw_or1 (pt_cmpR op_ne (pv 12) (pv 11) (nomark _))))) (pss_one (ps_ret pe_bl)) pss_nil)
      (pss_cons (ps_asg (pe_call CE.G hr2 rfl CE.m CE.kp CE.b .nil pass0 (pa_cons (pv 2) pa_nil)) (pg_tup (by rfl) (pgs_cons (pg_name (i := 13) scLaw.nd rfl (.inl rfl)) (pgs_cons (pg_name (i := 14) scLaw.nd rfl (.inl rfl)) pgs_nil))))
      (pss_one (ps_if (pt_cmpR op_ne (pe_call CP.G hr rfl CP.m CP.kp CP.b .nil pass0 (pa_cons (pe_tup (pa_cons (pv 3) (pa_cons (pe_call CN.G hr4 rfl CN.m CN.kp CN.b .nil pass0 (pa_cons (pv 2) (pa_cons (pe_call CD.G hr1 rfl CD.m CD.kp CD.b .nil pass0 (pa_cons (pv 2) (pa_cons pe_int pa_nil))) (pa_cons (pe_tup (pa_cons (pv 13) pa_nil)) pa_nil)))) pa_nil))) pa_nil)) (pv 14) (nomark _)) (pss_one (ps_ret pe_bl)) pss_nil))))))))))))))))
    (pss_one (ps_ret (pe_cmpR (op_eqD hr.units) (pe_lst (pa_cons (pe_gint rfl T.mL) (pa_cons (pe_gint rfl T.mD) (pa_cons (pe_gint rfl T.mS) pa_nil)))) (pe_lst (pa_cons (pe_op op_pow pe_int pe_int) (pa_cons pe_int (pa_cons pe_int pa_nil)))) (nomark _)))), ?_⟩
  refine ⟨_, rfl, a, _, rfl, .inl hS, _, _, rfl, _, _, rfl, _, rfl, ?_, ?_, ?_⟩
  · split <;> split <;> omega
  · split <;> split <;> omega
  rw [show (ns.map V.int).length = ns.length from List.length_map _]
  have h12 : (if (if ((ns.length : Nat) : Int) < 12 then ((ns.length : Nat) : Int) else 12) > 2 then (if ((ns.length : Nat) : Int) < 12 then ((ns.length : Nat) : Int) else 12) else 2).toNat ≤ 12 := by
    split <;> split <;> omega
  generalize (if (if ((ns.length : Nat) : Int) < 12 then ((ns.length : Nat) : Int) else 12) > 2 then (if ((ns.length : Nat) : Int) < 12 then ((ns.length : Nat) : Int) else 12) else 2).toNat = turns at h12 ⊢
  refine for_range (lo := 0) (n := turns) (fun i σ H' => ∃ (s1 s2 s3 s4 s5 s6 s7 s8 s9 s10 s11 s12 s13 s14 : Option V), σ = [some (.ref a), s1, s2, s3, s4, s5, s6, s7, s8, s9, s10, s11, s12, s13, s14, none] ∧ Same H H')
    ⟨none, none, none, none, none, none, none, none, none, none, none, none, none, none, rfl, Same.refl H⟩ ?_ ?_
  · rintro i σ H1 hi ⟨s1, s2, s3, s4, s5, s6, s7, s8, s9, s10, s11, s12, s13, s14, rfl, sH1⟩
    refine ⟨_, rfl, _, rfl, a, ns, i, (by rw [Int.zero_add]; rfl), sH1.seq hS, h63, by omega, fun H2 b sH2 nb bag2 => ?_⟩
    have sHb : ∀ H', Fr b H2 H' → Same H H' := fun H' f x o hx => f x o (fun e => by rw [e] at hx; have := sH1 _ _ hx; rw [nb] at this; cases this) (sH2 _ _ (sH1 _ _ hx))
    refine ⟨_, rfl, b, rfl, bag2, fun H3 k f3 bag3 hk => ?_⟩
    refine ⟨_, rfl, b, 6, rfl, bag3, by decide, by decide, fun H4 r4 f4 bag4 r40 r41 => ⟨_, _, rfl, rfl, ?_⟩⟩
    obtain ⟨n, rfl⟩ : ∃ n : Nat, r4 = n := ⟨r4.toNat, by omega⟩
    have hn6 : n < 6 := by omega
    refine ⟨(by show 0 ≤ sizeLine; decide), fun z nz => ?_⟩
    have bag5 := bag4.keep (same_new nz (.tup []))
    have g5 : Fr b H4 (upd H4 z (.tup [])) := Fr.of (same_new nz _)
    have e5 : Da K b (upd H4 z (.tup [])) (.ref z) (.tuple []) := da_tup (bag4.ne nz).symm upd_same .nil
    generalize upd H4 z (.tup []) = H5 at bag5 g5 e5 ⊢
    refine ⟨_, rfl, _, rfl, b, k, rfl, bag5, hk, fun H6 v6 d6 f6 bag6 hd6 hp6 hl6 => ⟨(by show 1 ≤ sizeLine; decide), fun t nt => ?_⟩⟩
    have bag7 := bag6.keep (same_new nt (.tup [v6]))
    have g7 : Fr b H6 (upd H6 t (.tup [v6])) := Fr.of (same_new nt _)
    have e7 : Da K b (upd H6 t (.tup [v6])) (.ref t) (.tuple [d6]) := da_tup (bag6.ne nt).symm upd_same (.cons (hd6.fr g7) .nil)
    generalize upd H6 t (.tup [v6]) = H7 at bag7 g7 e7 ⊢
    refine ⟨(by show 2 ≤ sizeLine; decide), fun l nl => ?_⟩
    have bag8 := bag7.keep (same_new nl (.lst [.ref z, .ref t]))
    have g8 : Fr b H7 (upd H7 l (.lst [.ref z, .ref t])) := Fr.of (same_new nl _)
    have e8 : (upd H7 l (.lst [.ref z, .ref t])) l = some (.lst [.ref z, .ref t]) := upd_same
    have nlb : l ≠ b := (bag7.ne nl).symm
    generalize upd H7 l (.lst [.ref z, .ref t]) = H8 at bag8 g8 e8 ⊢
    refine ⟨_, rfl, b, 2, rfl, bag8, by decide, by decide, fun H9 r9 f9 bag9 r90 r91 => ?_⟩
    obtain ⟨vi, hx, hc⟩ := at2 (x := V.ref z) (y := V.ref t) r90 r91
    refine ⟨l, _, _, _, rfl, rfl, SqL.of (f9 l _ nlb e8), hx, ?_⟩
    have hin : ∃ di li, Da K b H9 vi di ∧ Lay di ∧ Inner k di li := by
      rcases hc with rfl | rfl
      · exact ⟨_, 0, e5.fr (f6.trans (g7.trans (g8.trans f9))), lay_nil, .inl ⟨rfl, rfl⟩⟩
      · exact ⟨_, 1, e7.fr (g8.trans f9), lay1 hl6, .inr ⟨d6, rfl, hp6, rfl⟩⟩
    obtain ⟨di, li, hdi, ldi, hin⟩ := hin
    have fr9 : Fr b H2 H9 := f3.trans (f4.trans (g5.trans (f6.trans (g7.trans (g8.trans f9)))))
    have en : (1 : Int) + (n : Nat) = ((n + 1 : Nat) : Int) := by omega
    refine ⟨_, rfl, _, rfl, _, rfl, b, n + 1, vi, di, (by show [V.ref b, V.int (1 + (n : Nat)), vi] = _; rw [en]), bag9, by omega, hdi, fun H10 vb db f10 bag10 hdb hN => ?_⟩
    refine ⟨_, rfl, b, 8, rfl, bag10, by decide, by decide, fun H11 r11 f11 bag11 r110 r111 => ⟨_, _, rfl, rfl, ?_⟩⟩
    obtain ⟨m, rfl⟩ : ∃ m : Nat, r11 = m := ⟨r11.toNat, by omega⟩
    refine ⟨_, rfl, _, rfl, b, _, rfl, bag11, by omega, by omega, fun H12 r12 f12 bag12 r120 r121 => ?_⟩
    obtain ⟨ah, rfl⟩ : ∃ ah : Nat, r12 = ah := ⟨r12.toNat, by omega⟩
    have li1 : li ≤ 1 := by rcases hin with ⟨_, rfl⟩ | ⟨_, _, _, rfl⟩ <;> omega
    have hi12 : Da K b H12 vi di := hdi.fr (f10.trans (f11.trans f12))
    obtain ⟨ai, xi, rfl, hxi, hlen⟩ : ∃ ai xi, vi = .ref ai ∧ SqT K (hide b H12) ai xi ∧ xi.length = li := by
      rcases hin with ⟨rfl, rfl⟩ | ⟨s, rfl, _, rfl⟩
      · obtain ⟨ai, xi, e, h1, h2⟩ := dp_tup_inv hi12
        exact ⟨ai, xi, e, h1, dpAll_len h2⟩
      · obtain ⟨ai, xi, e, h1, h2⟩ := dp_tup_inv hi12
        exact ⟨ai, xi, e, h1, dpAll_len h2⟩
    refine ⟨_, rfl, _, rfl, _, _, rfl, rfl, _, rfl, ai, xi, rfl, .inr (Same.tup (hide_same _ _) hxi), _, _, rfl, rfl, _, rfl, by omega, by omega, fun D nD => ?_⟩
    have nDb : D ≠ b := (bag12.ne nD).symm
    refine lc_range (lo := 0) (n := _) (fun j H' => Fr b H12 H' ∧ Bag H' b ∧ ∃ xs ds, H' D = some (.lst xs) ∧ DpAll K (hide b H') xs ds ∧ xs.length = j ∧ ∀ d ∈ ds, isPlain d k = true ∧ Lay d)
      ⟨fr_upd (Fr.refl _ _) nD _, bag12.keep (same_new nD _), [], [], upd_same, .nil, rfl, by simp⟩ ?_ ?_
    · rintro j H13 hj ⟨g13, bag13, xs, ds, eD, hds, hxl, hpl⟩
      refine ⟨rfl, ?_⟩
      refine ⟨_, rfl, _, rfl, b, k, rfl, bag13, hk, fun H14 v14 d14 f14 bag14 hd14 hp14 hl14 => ⟨xs, f14 D _ nDb eD, ?_, fr_upd (g13.trans f14) nD _, bag14.upd nDb, xs ++ [v14], ds ++ [d14], upd_same, ?_, ?_, ?_⟩⟩
      · exact Nat.lt_of_le_of_lt (by omega : _ ≤ 1000) (by decide)
      · have eD14 : hide b H14 D = some (.lst xs) := hide_get nDb (f14 D _ nDb eD)
        exact dpAll_append (dpAll_keepL hide_upd eD14 _ _ (all_noL hpl) (dpAll_mono (hide_mono f14) _ _ hds)) (.cons (dp_keepL hide_upd eD14 _ _ (plain_noL hp14) hd14) .nil)
      · rw [List.length_append, hxl]; rfl
      · intro d md
        rcases List.mem_append.mp md with md | md
        · exact hpl d md
        · rw [List.mem_singleton.mp md]
          exact ⟨hp14, hl14⟩
    · rintro H13 ⟨g13, bag13, xs, ds, eD, hds, hxl, hpl⟩
      obtain ⟨S, rfl⟩ := nest_succ hN
      have hdb13 : Da K b H13 vb (.tuple [S]) := hdb.fr (f11.trans (f12.trans g13))
      have layS : Lay (.tuple [S]) := hN.lay ldi
      obtain ⟨ab, xb, rfl, hab, hxb⟩ := dp_tup_inv hdb13
      have xb1 : xb.length = 1 := dpAll_len hxb
      refine ⟨_, rfl, _, rfl, _, rfl, _, rfl, D, _, rfl, SqL.of eD, fun p1 np1 => ?_⟩
      rw [cut_lo]
      have sA : Same H13 (upd H13 p1 (.lst (xs.take ah))) := same_new np1 _
      have eA : (upd H13 p1 (.lst (xs.take ah))) p1 = some (.lst (xs.take ah)) := upd_same
      generalize upd H13 p1 (.lst (xs.take ah)) = HA at sA eA ⊢
      refine ⟨p1, _, rfl, .inl ⟨SqL.of eA, fun t1 nt1 => ?_⟩⟩
      have bagA := bag13.keep sA
      have sB : Same H13 (upd HA t1 (.tup (xs.take ah))) := sA.trans (same_new nt1 _)
      have eB : SqT K (hide b (upd HA t1 (.tup (xs.take ah)))) t1 (xs.take ah) := SqT.of (hide_get (bagA.ne nt1).symm upd_same)
      generalize upd HA t1 (.tup (xs.take ah)) = HB at sB eB ⊢
      have bagB := bag13.keep sB
      have xl27 : xs.length ≤ 27 := by omega
      have lx1 : (xs.take ah).length ≤ xs.length := by rw [List.length_take]; omega
      refine ⟨_, rfl, b, t1, ab, _, _, rfl, rfl, eB, Same.tup (hide_mono (Fr.of sB)) hab, ?_, bagB, fun w1 HC sC hw1 => ?_⟩
      · exact Nat.le_of_lt (Nat.lt_of_le_of_lt (by omega : _ ≤ 1000) (by decide))
      have sC' := sB.trans sC
      refine ⟨_, rfl, _, rfl, _, rfl, D, _, rfl, SqL.of (sC' _ _ eD), fun p2 np2 => ?_⟩
      rw [cut_hi]
      have sE : Same HC (upd HC p2 (.lst (xs.drop ah))) := same_new np2 _
      have eE : (upd HC p2 (.lst (xs.drop ah))) p2 = some (.lst (xs.drop ah)) := upd_same
      generalize upd HC p2 (.lst (xs.drop ah)) = HE at sE eE ⊢
      have bagE := bag13.keep (sC'.trans sE)
      refine ⟨p2, _, rfl, .inl ⟨SqL.of eE, fun t2 nt2 => ?_⟩⟩
      have sF : Same HC (upd HE t2 (.tup (xs.drop ah))) := sE.trans (same_new nt2 _)
      have eF : SqT K (hide b (upd HE t2 (.tup (xs.drop ah)))) t2 (xs.drop ah) := SqT.of (hide_get (bagE.ne nt2).symm upd_same)
      generalize upd HE t2 (.tup (xs.drop ah)) = HF at sF eF ⊢
      have bagF := bag13.keep (sC'.trans sF)
      have lx2 : (xs.drop ah).length ≤ xs.length := by rw [List.length_drop]; omega
      refine ⟨b, w1, t2, _, _, rfl, rfl, Same.tup (hide_mono (Fr.of sF)) hw1, eF, ?_, bagF, fun w2 HG sG hw2 => ?_⟩
      · rw [List.length_append]
        exact Nat.le_of_lt (Nat.lt_of_le_of_lt (by omega : _ ≤ 1000) (by decide))
      have sG' : Same H13 HG := sC'.trans (sF.trans sG)
      have bagG := bag13.keep sG'
      have hdsG : DpAll K (hide b HG) xs ds := dpAll_mono (hide_mono (Fr.of sG')) _ _ hds
      have hxbG : DpAll K (hide b HG) xb [S] := dpAll_mono (hide_mono (Fr.of sG')) _ _ hxb
      have hW : Da K b HG (.ref w2) (.tuple ((ds.take ah ++ [S]) ++ ds.drop ah)) := .tup hw2 (dpAll_append (dpAll_append (dpAll_take ah hdsG) hxbG) (dpAll_drop ah hdsG))
      refine ⟨(by show 2 ≤ sizeLine; decide), fun wh nwh => ?_⟩
      have sI : Same HG (upd HG wh (.tup [.str k, .ref w2])) := same_new nwh _
      have eI : Da K b (upd HG wh (.tup [.str k, .ref w2])) (.ref wh) (.tuple [.str k, .tuple ((ds.take ah ++ [S]) ++ ds.drop ah)]) := da_tup (bagG.ne nwh).symm upd_same (.cons (.str _) (.cons (hW.fr (Fr.of sI)) .nil))
      generalize upd HG wh (.tup [.str k, .ref w2]) = HI at sI eI ⊢
      have sI' : Same H13 HI := sG'.trans sI
      have bagI := bag13.keep sI'
      have dsl : ds.length = xs.length := (dpAll_len hds).symm
      have hpa : ∀ d ∈ ds.take ah, isPlain d k = true := fun d md => (hpl d (List.mem_of_mem_take md)).1
      have hpc : ∀ d ∈ ds.drop ah, isPlain d k = true := fun d md => (hpl d (List.mem_of_mem_drop md)).1
      have hprog := prog_k02 (many := 20 + m) hk hpa hpc hN hin (by rw [List.length_take, List.length_drop]; omega)
      have layW : Lay (.tuple [.str k, .tuple ((ds.take ah ++ [S]) ++ ds.drop ah)]) := by
        refine lay2 (lay_str (strOk_kind hk)) (lay_tuple fun d md => ?_)
        rcases List.mem_append.mp md with md | md
        · rcases List.mem_append.mp md with md | md
          · exact (hpl d (List.mem_of_mem_take md)).2
          · rw [List.mem_singleton.mp md]
            exact lay_mem (lay_tup layS) _ (by simp)
        · exact (hpl d (List.mem_of_mem_drop md)).2
      refine ⟨_, rfl, _, _, rfl, rfl, _, rfl, ?_⟩
      refine and_one (e := decide ((1 : Int) + (n : Nat) + (xi.length : Nat) ≤ 4)) (fun Q' q' => ⟨_, rfl, _, rfl, ai, xi, rfl, .inr (Same.tup ((hide_mono (g13.trans (Fr.of sI'))).trans (hide_same _ _)) hxi), _, _, rfl, rfl, _, _, rfl, rfl, q'⟩) ?_
      refine ⟨_, rfl, .ref wh, _, rfl, eI.dp, layW, fun HJ sJ => ?_⟩
      have sJ' : Same H13 HJ := sI'.trans sJ
      have bagJ := bag13.keep sJ'
      refine ⟨_, rfl, _, .ty "bool", _, _, _, rfl, .ty _, dp_ty (.bl _), kit_isT (.bool _) (by simp) (fun _ e => nomatch e), _, rfl, ?_⟩
      refine ite2 (fun c => absurd c (by simp [isT])) (fun _ => ?_)
      refine ⟨_, rfl, _, rfl, rfl, _, rfl, ?_⟩
      refine iteNS ?_ ?_
      · rw [hprog]
        congr 1
        congr 1
        · exact decide_eq_decide.mpr (by omega)
        · exact decide_eq_decide.mpr (by omega)
      refine ⟨_, rfl, b, rfl, bagJ, fun HK te ve de g fK bagK ete hde hog hbe lde => ?_⟩
      refine ⟨te, _, rfl, SqT.of ete, rfl, _, _, rfl, _, _, rfl, rfl, ?_⟩
      refine ⟨_, rfl, _, rfl, _, rfl, b, 4, rfl, bagK, by decide, by decide, fun HL r18 fL bagL r180 r181 => ?_⟩
      obtain ⟨n2, rfl⟩ : ∃ n2 : Nat, r18 = n2 := ⟨r18.toNat, by omega⟩
      refine ⟨_, rfl, (by show 1 ≤ sizeLine; decide), fun tt ntt => ?_⟩
      have gM : Fr b HL (upd HL tt (.tup [ve])) := Fr.of (same_new ntt _)
      have bagM := bagL.keep (same_new ntt (.tup [ve]))
      have eM : Da K b (upd HL tt (.tup [ve])) (.ref tt) (.tuple [de]) := da_tup (bagL.ne ntt).symm upd_same (.cons (hde.fr (fL.trans gM)) .nil)
      generalize upd HL tt (.tup [ve]) = HM at gM bagM eM ⊢
      refine ⟨b, n2, .ref tt, .tuple [de], rfl, bagM, by omega, eM, fun HN vn dn fN bagN hdn hNn => ⟨(by show 2 ≤ sizeLine; decide), fun w3 nw3 => ?_⟩⟩
      have gO : Fr b HN (upd HN w3 (.tup [.str k, vn])) := Fr.of (same_new nw3 _)
      have eO : Da K b (upd HN w3 (.tup [.str k, vn])) (.ref w3) (.tuple [.str k, dn]) := da_tup (bagN.ne nw3).symm upd_same (.cons (.str _) (.cons (hdn.fr gO) .nil))
      generalize upd HN w3 (.tup [.str k, vn]) = HO' at gO eO ⊢
      refine ⟨.ref w3, _, rfl, eO.dp, lay2 (lay_str (strOk_kind hk)) (hNn.lay (lay1 lde)), fun HP sP => ⟨_, rfl, rfl, _, rfl, ?_⟩⟩
      refine iteNS ?_ ?_
      · rw [prog_edge hk (by omega) hNn (hog k) hbe]
      exact ⟨_, _, _, _, _, _, _, _, _, _, _, _, _, _, rfl, sHb _ (fr9.trans (f10.trans (f11.trans (f12.trans (g13.trans ((Fr.of sJ').trans (fK.trans (fL.trans (gM.trans (fN.trans (gO.trans (Fr.of sP))))))))))))⟩
  · rintro σ H1 ⟨s1, s2, s3, s4, s5, s6, s7, s8, s9, s10, s11, s12, s13, s14, rfl, sH1⟩
    refine ⟨(by show 3 ≤ sizeLine; decide), fun p np => ⟨_, _, rfl, rfl, ⟨by decide, by decide, by decide⟩, (by show 3 ≤ sizeLine; decide), fun p2 np2 => ?_⟩⟩
    rw [show (fun i j : Int => V.int (i ^ j.toNat)) 10 30 = V.int longest from congrArg V.int pow30]
    have e1 : (upd (upd H1 p (.lst [.int longest, .int 4, .int 24])) p2 (.lst [.int longest, .int 4, .int 24])) p = some (.lst [.int longest, .int 4, .int 24]) := by
      rw [upd_ne (ne_of_none upd_same np2), upd_same]
    refine ⟨.list [.int longest, .int 4, .int 24], .list [.int longest, .int 4, .int 24], .lst (SqL.of e1) (.cons (.int _) (.cons (.int _) (.cons (.int _) .nil))), .lst (SqL.of upd_same) (.cons (.int _) (.cons (.int _) (.cons (.int _) .nil))), by decide +kernel, by decide +kernel, ?_⟩
    rw [show PyData.eqv (.list [.int longest, .int 4, .int 24]) (.list [.int longest, .int 4, .int 24]) = true by decide +kernel]
    exact q _
end
theorem sqt_of {K : PySem.W.Frag} {a : Addr} {od : Option Addr} {sl : Array (Option Value)} {n : Nat} {its : Array Value} {xs : List V} (h : K.lookup a = some ⟨.type "tuple", od, .seq its n, sl⟩) (hz : its.size ≤ sizeLine) (r : Vals xs its.toList) : ∀ H, SqT K H a xs := fun H => .inr ⟨_, its, n, h, rfl, rfl, hz, r⟩
theorem all_mk {l : PySem.W.OpenLaw} {w : World} {K : PySem.W.Frag} {h : Heap} {mg : Str → Option Value} {fa : Addr} (X : K.In h) (G : h.Ns mainGlobals mg) (hfa : mg "law" = some (.ref fa))
    {fFrom : Addr} {odFrom anFrom : Option Addr} {slFrom : Array (Option Value)} {ocFrom kVFrom dcFrom pmFrom cdFrom ctFrom : Value}
    {fInt : Addr} {odInt anInt : Option Addr} {slInt : Array (Option Value)} {ocInt kVInt dcInt pmInt cdInt ctInt : Value}
    {fTerm : Addr} {odTerm anTerm : Option Addr} {slTerm : Array (Option Value)} {ocTerm kVTerm dcTerm pmTerm cdTerm ctTerm : Value}
    {fCond : Addr} {odCond anCond : Option Addr} {slCond : Array (Option Value)} {ocCond kVCond dcCond pmCond cdCond ctCond : Value}
    {fPart : Addr} {odPart anPart : Option Addr} {slPart : Array (Option Value)} {ocPart kVPart dcPart pmPart cdPart ctPart : Value}
    {fWord : Addr} {odWord anWord : Option Addr} {slWord : Array (Option Value)} {ocWord kVWord dcWord pmWord cdWord ctWord : Value}
    {fRoles : Addr} {odRoles anRoles : Option Addr} {slRoles : Array (Option Value)} {ocRoles kVRoles dcRoles pmRoles cdRoles ctRoles : Value}
    {fPlain : Addr} {odPlain anPlain : Option Addr} {slPlain : Array (Option Value)} {ocPlain kVPlain dcPlain pmPlain cdPlain ctPlain : Value}
    {fOut : Addr} {odOut anOut : Option Addr} {slOut : Array (Option Value)} {ocOut kVOut dcOut pmOut cdOut ctOut : Value}
    {fBodies : Addr} {odBodies anBodies : Option Addr} {slBodies : Array (Option Value)} {ocBodies kVBodies dcBodies pmBodies cdBodies ctBodies : Value}
    {fProg : Addr} {odProg anProg : Option Addr} {slProg : Array (Option Value)} {ocProg kVProg dcProg pmProg cdProg ctProg : Value}
    {fBag : Addr} {odBag anBag : Option Addr} {slBag : Array (Option Value)} {ocBag kVBag dcBag pmBag cdBag ctBag : Value}
    {fDraw : Addr} {odDraw anDraw : Option Addr} {slDraw : Array (Option Value)} {ocDraw kVDraw dcDraw pmDraw cdDraw ctDraw : Value}
    {fLarge : Addr} {odLarge anLarge : Option Addr} {slLarge : Array (Option Value)} {ocLarge kVLarge dcLarge pmLarge cdLarge ctLarge : Value}
    {fSteps : Addr} {odSteps anSteps : Option Addr} {slSteps : Array (Option Value)} {ocSteps kVSteps dcSteps pmSteps cdSteps ctSteps : Value}
    {fTermL : Addr} {odTermL anTermL : Option Addr} {slTermL : Array (Option Value)} {ocTermL kVTermL dcTermL pmTermL cdTermL ctTermL : Value}
    {fCondL : Addr} {odCondL anCondL : Option Addr} {slCondL : Array (Option Value)} {ocCondL kVCondL dcCondL pmCondL cdCondL ctCondL : Value}
    {fSimple : Addr} {odSimple anSimple : Option Addr} {slSimple : Array (Option Value)} {ocSimple kVSimple dcSimple pmSimple cdSimple ctSimple : Value}
    {fKind : Addr} {odKind anKind : Option Addr} {slKind : Array (Option Value)} {ocKind kVKind dcKind pmKind cdKind ctKind : Value}
    {fNested : Addr} {odNested anNested : Option Addr} {slNested : Array (Option Value)} {ocNested kVNested dcNested pmNested cdNested ctNested : Value}
    {fEdge : Addr} {odEdge anEdge : Option Addr} {slEdge : Array (Option Value)} {ocEdge kVEdge dcEdge pmEdge cdEdge ctEdge : Value}
    {fLaw : Addr} {odLaw anLaw : Option Addr} {slLaw : Array (Option Value)} {ocLaw kVLaw dcLaw pmLaw cdLaw ctLaw : Value}
    {tG : Tok}
    {tL : Tok}
    {tS : Tok}
    {tD : Tok}
    {aV : Addr} {odV : Option Addr} {slV : Array (Option Value)} {nV : Nat} {tV0 tV1 : Tok}
    {aC : Addr} {odC : Option Addr} {slC : Array (Option Value)} {nC : Nat} {tC0 tC1 tC2 : Tok}
    {aA : Addr} {odA : Option Addr} {slA : Array (Option Value)} {nA : Nat} {tA0 tA1 tA2 : Tok}
    {aK : Addr} {odK : Option Addr} {slK : Array (Option Value)} {nK : Nat} {tK0 tK1 : Tok}
    {aB : Addr} {nB : Nat} {hB0 hB1 : Int} {tB0 tB1 tB2 tB3 : Tok}
    {aSh : Addr} {nSh : Nat} {hSh0 hSh1 hSh2 : Int} {tSh0 tSh1 tSh2 : Tok}
    {aSh0 : Addr} {odSh0 : Option Addr} {slSh0 : Array (Option Value)} {nSh0 : Nat} {tSh00 tSh01 : Tok}
    {aSh1 : Addr} {odSh1 : Option Addr} {slSh1 : Array (Option Value)} {nSh1 : Nat} {tSh10 tSh11 : Tok}
    {aSh2 : Addr} {odSh2 : Option Addr} {slSh2 : Array (Option Value)} {nSh2 : Nat} {tSh20 : Tok}
    {aTe : Addr} {nTe : Nat} {hTe0 hTe1 : Int} {tTe0 tTe1 : Tok}
    {aTe0 : Addr} {odTe0 : Option Addr} {slTe0 : Array (Option Value)} {nTe0 : Nat} {tTe00 tTe01 tTe02 : Tok}
    {aTe1 : Addr} {odTe1 : Option Addr} {slTe1 : Array (Option Value)} {nTe1 : Nat} {tTe10 : Tok}
    {aCo : Addr} {nCo : Nat} {hCo0 hCo1 : Int} {tCo0 tCo1 : Tok}
    {aCo0 : Addr} {odCo0 : Option Addr} {slCo0 : Array (Option Value)} {nCo0 : Nat} {tCo00 : Tok}
    {aCo1 : Addr} {odCo1 : Option Addr} {slCo1 : Array (Option Value)} {nCo1 : Nat} {tCo10 : Tok}
    (aFrom : PySem.W.nsIn K mainGlobals "is_integer_from" = some (some (.ref fFrom)))
    (lFrom : K.lookup fFrom = some ⟨ocFrom, odFrom, .func (PySem.W.fnOf "is_integer_from" "is_integer_from" (defArgs sFrom) (defBody sFrom) (defScope sFrom) .none kVFrom dcFrom pmFrom anFrom cdFrom ctFrom), slFrom⟩)
    (cFrom : PySem.W.codeIn K cdFrom "is_integer_from" = true)
    (kFrom : PySem.W.keepIn K (.ref fFrom) = true)
    (aInt : PySem.W.nsIn K mainGlobals "is_integer_from_to" = some (some (.ref fInt)))
    (lInt : K.lookup fInt = some ⟨ocInt, odInt, .func (PySem.W.fnOf "is_integer_from_to" "is_integer_from_to" (defArgs sInt) (defBody sInt) (defScope sInt) .none kVInt dcInt pmInt anInt cdInt ctInt), slInt⟩)
    (cInt : PySem.W.codeIn K cdInt "is_integer_from_to" = true)
    (kInt : PySem.W.keepIn K (.ref fInt) = true)
    (aTerm : PySem.W.nsIn K mainGlobals "is_term" = some (some (.ref fTerm)))
    (lTerm : K.lookup fTerm = some ⟨ocTerm, odTerm, .func (PySem.W.fnOf "is_term" "is_term" (defArgs sTerm) (defBody sTerm) (defScope sTerm) .none kVTerm dcTerm pmTerm anTerm cdTerm ctTerm), slTerm⟩)
    (cTerm : PySem.W.codeIn K cdTerm "is_term" = true)
    (kTerm : PySem.W.keepIn K (.ref fTerm) = true)
    (aCond : PySem.W.nsIn K mainGlobals "is_condition" = some (some (.ref fCond)))
    (lCond : K.lookup fCond = some ⟨ocCond, odCond, .func (PySem.W.fnOf "is_condition" "is_condition" (defArgs sCond) (defBody sCond) (defScope sCond) .none kVCond dcCond pmCond anCond cdCond ctCond), slCond⟩)
    (cCond : PySem.W.codeIn K cdCond "is_condition" = true)
    (kCond : PySem.W.keepIn K (.ref fCond) = true)
    (aPart : PySem.W.nsIn K mainGlobals "is_part" = some (some (.ref fPart)))
    (lPart : K.lookup fPart = some ⟨ocPart, odPart, .func (PySem.W.fnOf "is_part" "is_part" (defArgs sPart) (defBody sPart) (defScope sPart) .none kVPart dcPart pmPart anPart cdPart ctPart), slPart⟩)
    (cPart : PySem.W.codeIn K cdPart "is_part" = true)
    (kPart : PySem.W.keepIn K (.ref fPart) = true)
    (aWord : PySem.W.nsIn K mainGlobals "word_of" = some (some (.ref fWord)))
    (lWord : K.lookup fWord = some ⟨ocWord, odWord, .func (PySem.W.fnOf "word_of" "word_of" (defArgs sWord) (defBody sWord) (defScope sWord) .none kVWord dcWord pmWord anWord cdWord ctWord), slWord⟩)
    (cWord : PySem.W.codeIn K cdWord "word_of" = true)
    (kWord : PySem.W.keepIn K (.ref fWord) = true)
    (aRoles : PySem.W.nsIn K mainGlobals "roles_of" = some (some (.ref fRoles)))
    (lRoles : K.lookup fRoles = some ⟨ocRoles, odRoles, .func (PySem.W.fnOf "roles_of" "roles_of" (defArgs sRoles) (defBody sRoles) (defScope sRoles) .none kVRoles dcRoles pmRoles anRoles cdRoles ctRoles), slRoles⟩)
    (cRoles : PySem.W.codeIn K cdRoles "roles_of" = true)
    (kRoles : PySem.W.keepIn K (.ref fRoles) = true)
    (aPlain : PySem.W.nsIn K mainGlobals "is_plain_statement" = some (some (.ref fPlain)))
    (lPlain : K.lookup fPlain = some ⟨ocPlain, odPlain, .func (PySem.W.fnOf "is_plain_statement" "is_plain_statement" (defArgs sPlain) (defBody sPlain) (defScope sPlain) .none kVPlain dcPlain pmPlain anPlain cdPlain ctPlain), slPlain⟩)
    (cPlain : PySem.W.codeIn K cdPlain "is_plain_statement" = true)
    (kPlain : PySem.W.keepIn K (.ref fPlain) = true)
    (aOut : PySem.W.nsIn K mainGlobals "is_outside_of_statement" = some (some (.ref fOut)))
    (lOut : K.lookup fOut = some ⟨ocOut, odOut, .func (PySem.W.fnOf "is_outside_of_statement" "is_outside_of_statement" (defArgs sOut) (defBody sOut) (defScope sOut) .none kVOut dcOut pmOut anOut cdOut ctOut), slOut⟩)
    (cOut : PySem.W.codeIn K cdOut "is_outside_of_statement" = true)
    (kOut : PySem.W.keepIn K (.ref fOut) = true)
    (aBodies : PySem.W.nsIn K mainGlobals "bodies_of" = some (some (.ref fBodies)))
    (lBodies : K.lookup fBodies = some ⟨ocBodies, odBodies, .func (PySem.W.fnOf "bodies_of" "bodies_of" (defArgs sBodies) (defBody sBodies) (defScope sBodies) .none kVBodies dcBodies pmBodies anBodies cdBodies ctBodies), slBodies⟩)
    (cBodies : PySem.W.codeIn K cdBodies "bodies_of" = true)
    (kBodies : PySem.W.keepIn K (.ref fBodies) = true)
    (aProg : PySem.W.nsIn K mainGlobals "is_program" = some (some (.ref fProg)))
    (lProg : K.lookup fProg = some ⟨ocProg, odProg, .func (PySem.W.fnOf "is_program" "is_program" (defArgs sProg) (defBody sProg) (defScope sProg) .none kVProg dcProg pmProg anProg cdProg ctProg), slProg⟩)
    (cProg : PySem.W.codeIn K cdProg "is_program" = true)
    (kProg : PySem.W.keepIn K (.ref fProg) = true)
    (aBag : PySem.W.nsIn K mainGlobals "_law_bag" = some (some (.ref fBag)))
    (lBag : K.lookup fBag = some ⟨ocBag, odBag, .func (PySem.W.fnOf "_law_bag" "_law_bag" (defArgs sBag) (defBody sBag) (defScope sBag) .none kVBag dcBag pmBag anBag cdBag ctBag), slBag⟩)
    (cBag : PySem.W.codeIn K cdBag "_law_bag" = true)
    (kBag : PySem.W.keepIn K (.ref fBag) = true)
    (aDraw : PySem.W.nsIn K mainGlobals "_law_draw" = some (some (.ref fDraw)))
    (lDraw : K.lookup fDraw = some ⟨ocDraw, odDraw, .func (PySem.W.fnOf "_law_draw" "_law_draw" (defArgs sDraw) (defBody sDraw) (defScope sDraw) .none kVDraw dcDraw pmDraw anDraw cdDraw ctDraw), slDraw⟩)
    (cDraw : PySem.W.codeIn K cdDraw "_law_draw" = true)
    (kDraw : PySem.W.keepIn K (.ref fDraw) = true)
    (aLarge : PySem.W.nsIn K mainGlobals "_law_large" = some (some (.ref fLarge)))
    (lLarge : K.lookup fLarge = some ⟨ocLarge, odLarge, .func (PySem.W.fnOf "_law_large" "_law_large" (defArgs sLarge) (defBody sLarge) (defScope sLarge) .none kVLarge dcLarge pmLarge anLarge cdLarge ctLarge), slLarge⟩)
    (cLarge : PySem.W.codeIn K cdLarge "_law_large" = true)
    (kLarge : PySem.W.keepIn K (.ref fLarge) = true)
    (aSteps : PySem.W.nsIn K mainGlobals "_law_steps" = some (some (.ref fSteps)))
    (lSteps : K.lookup fSteps = some ⟨ocSteps, odSteps, .func (PySem.W.fnOf "_law_steps" "_law_steps" (defArgs sSteps) (defBody sSteps) (defScope sSteps) .none kVSteps dcSteps pmSteps anSteps cdSteps ctSteps), slSteps⟩)
    (cSteps : PySem.W.codeIn K cdSteps "_law_steps" = true)
    (kSteps : PySem.W.keepIn K (.ref fSteps) = true)
    (aTermL : PySem.W.nsIn K mainGlobals "_law_term" = some (some (.ref fTermL)))
    (lTermL : K.lookup fTermL = some ⟨ocTermL, odTermL, .func (PySem.W.fnOf "_law_term" "_law_term" (defArgs sTermL) (defBody sTermL) (defScope sTermL) .none kVTermL dcTermL pmTermL anTermL cdTermL ctTermL), slTermL⟩)
    (cTermL : PySem.W.codeIn K cdTermL "_law_term" = true)
    (kTermL : PySem.W.keepIn K (.ref fTermL) = true)
    (aCondL : PySem.W.nsIn K mainGlobals "_law_condition" = some (some (.ref fCondL)))
    (lCondL : K.lookup fCondL = some ⟨ocCondL, odCondL, .func (PySem.W.fnOf "_law_condition" "_law_condition" (defArgs sCondL) (defBody sCondL) (defScope sCondL) .none kVCondL dcCondL pmCondL anCondL cdCondL ctCondL), slCondL⟩)
    (cCondL : PySem.W.codeIn K cdCondL "_law_condition" = true)
    (kCondL : PySem.W.keepIn K (.ref fCondL) = true)
    (aSimple : PySem.W.nsIn K mainGlobals "_law_simple" = some (some (.ref fSimple)))
    (lSimple : K.lookup fSimple = some ⟨ocSimple, odSimple, .func (PySem.W.fnOf "_law_simple" "_law_simple" (defArgs sSimple) (defBody sSimple) (defScope sSimple) .none kVSimple dcSimple pmSimple anSimple cdSimple ctSimple), slSimple⟩)
    (cSimple : PySem.W.codeIn K cdSimple "_law_simple" = true)
    (kSimple : PySem.W.keepIn K (.ref fSimple) = true)
    (aKind : PySem.W.nsIn K mainGlobals "_law_kind" = some (some (.ref fKind)))
    (lKind : K.lookup fKind = some ⟨ocKind, odKind, .func (PySem.W.fnOf "_law_kind" "_law_kind" (defArgs sKind) (defBody sKind) (defScope sKind) .none kVKind dcKind pmKind anKind cdKind ctKind), slKind⟩)
    (cKind : PySem.W.codeIn K cdKind "_law_kind" = true)
    (kKind : PySem.W.keepIn K (.ref fKind) = true)
    (aNested : PySem.W.nsIn K mainGlobals "_law_nested" = some (some (.ref fNested)))
    (lNested : K.lookup fNested = some ⟨ocNested, odNested, .func (PySem.W.fnOf "_law_nested" "_law_nested" (defArgs sNested) (defBody sNested) (defScope sNested) .none kVNested dcNested pmNested anNested cdNested ctNested), slNested⟩)
    (cNested : PySem.W.codeIn K cdNested "_law_nested" = true)
    (kNested : PySem.W.keepIn K (.ref fNested) = true)
    (aEdge : PySem.W.nsIn K mainGlobals "_law_edge" = some (some (.ref fEdge)))
    (lEdge : K.lookup fEdge = some ⟨ocEdge, odEdge, .func (PySem.W.fnOf "_law_edge" "_law_edge" (defArgs sEdge) (defBody sEdge) (defScope sEdge) .none kVEdge dcEdge pmEdge anEdge cdEdge ctEdge), slEdge⟩)
    (cEdge : PySem.W.codeIn K cdEdge "_law_edge" = true)
    (kEdge : PySem.W.keepIn K (.ref fEdge) = true)
    (aLaw : PySem.W.nsIn K mainGlobals "law" = some (some (.ref fLaw)))
    (lLaw : K.lookup fLaw = some ⟨ocLaw, odLaw, .func (PySem.W.fnOf "law" "law" (defArgs sLaw) (defBody sLaw) (defScope sLaw) .none kVLaw dcLaw pmLaw anLaw cdLaw ctLaw), slLaw⟩)
    (cLaw : PySem.W.codeIn K cdLaw "law" = true)
    (kLaw : PySem.W.keepIn K (.ref fLaw) = true)
    (zisinstance : PySem.W.nsIn K mainGlobals "isinstance" = some none)
    (zint : PySem.W.nsIn K mainGlobals "int" = some none)
    (zbool : PySem.W.nsIn K mainGlobals "bool" = some none)
    (zstr : PySem.W.nsIn K mainGlobals "str" = some none)
    (ztuple : PySem.W.nsIn K mainGlobals "tuple" = some none)
    (zlen : PySem.W.nsIn K mainGlobals "len" = some none)
    (zzip : PySem.W.nsIn K mainGlobals "zip" = some none)
    (zall : PySem.W.nsIn K mainGlobals "all" = some none)
    (zabs : PySem.W.nsIn K mainGlobals "abs" = some none)
    (zmax : PySem.W.nsIn K mainGlobals "max" = some none)
    (zmin : PySem.W.nsIn K mainGlobals "min" = some none)
    (zrange : PySem.W.nsIn K mainGlobals "range" = some none)
    (gG : PySem.W.nsIn K mainGlobals "GREATEST_VALUE" = some (some (.int 15 tG)))
    (gL : PySem.W.nsIn K mainGlobals "LONGEST_WAIT" = some (some (.int longest tL)))
    (gS : PySem.W.nsIn K mainGlobals "MOST_STATEMENTS" = some (some (.int 24 tS)))
    (gD : PySem.W.nsIn K mainGlobals "MOST_DEPTH" = some (some (.int 4 tD)))
    (mV : PySem.W.nsIn K mainGlobals "VARIABLES" = some (some (.ref aV)))
    (qV : K.lookup aV = some ⟨.type "tuple", odV, .seq #[.str "a" tV0, .str "b" tV1] nV, slV⟩)
    (mC : PySem.W.nsIn K mainGlobals "CONDITION_SIGNS" = some (some (.ref aC)))
    (qC : K.lookup aC = some ⟨.type "tuple", odC, .seq #[.str "==" tC0, .str "!=" tC1, .str "<" tC2] nC, slC⟩)
    (mA : PySem.W.nsIn K mainGlobals "ASK_SIGNS" = some (some (.ref aA)))
    (qA : K.lookup aA = some ⟨.type "tuple", odA, .seq #[.str "+" tA0, .str "-" tA1, .str "=" tA2] nA, slA⟩)
    (mK : PySem.W.nsIn K mainGlobals "KINDS" = some (some (.ref aK)))
    (qK : K.lookup aK = some ⟨.type "tuple", odK, .seq #[.str "teller" tK0, .str "collector" tK1] nK, slK⟩)
    (mB : PySem.W.nsIn K mainGlobals "BODIES" = some (some (.ref aB)))
    (qB : K.lookup aB = some ⟨.type "dict", none, .dict #[⟨hB0, .str "if" tB0, .int 2 tB2⟩, ⟨hB1, .str "while" tB1, .int 1 tB3⟩] nB, #[]⟩)
    (yB : PySem.W.KeysLit w.params (#[⟨hB0, .str "if" tB0, .int 2 tB2⟩, ⟨hB1, .str "while" tB1, .int 1 tB3⟩] : Array DictEntry).toList)
    (wB : (aB == sysModules) = false)
    (mSh : PySem.W.nsIn K mainGlobals "SHARED_ROLES" = some (some (.ref aSh)))
    (qSh : K.lookup aSh = some ⟨.type "dict", none, .dict #[⟨hSh0, .str "set" tSh0, .ref aSh0⟩, ⟨hSh1, .str "add" tSh1, .ref aSh1⟩, ⟨hSh2, .str "wait" tSh2, .ref aSh2⟩] nSh, #[]⟩)
    (ySh : PySem.W.KeysLit w.params (#[⟨hSh0, .str "set" tSh0, .ref aSh0⟩, ⟨hSh1, .str "add" tSh1, .ref aSh1⟩, ⟨hSh2, .str "wait" tSh2, .ref aSh2⟩] : Array DictEntry).toList)
    (wSh : (aSh == sysModules) = false)
    (qSh0 : K.lookup aSh0 = some ⟨.type "tuple", odSh0, .seq #[.str "variable" tSh00, .str "value" tSh01] nSh0, slSh0⟩)
    (qSh1 : K.lookup aSh1 = some ⟨.type "tuple", odSh1, .seq #[.str "variable" tSh10, .str "term" tSh11] nSh1, slSh1⟩)
    (qSh2 : K.lookup aSh2 = some ⟨.type "tuple", odSh2, .seq #[.str "steps" tSh20] nSh2, slSh2⟩)
    (mTe : PySem.W.nsIn K mainGlobals "TELLER_ROLES" = some (some (.ref aTe)))
    (qTe : K.lookup aTe = some ⟨.type "dict", none, .dict #[⟨hTe0, .str "ask" tTe0, .ref aTe0⟩, ⟨hTe1, .str "answer" tTe1, .ref aTe1⟩] nTe, #[]⟩)
    (yTe : PySem.W.KeysLit w.params (#[⟨hTe0, .str "ask" tTe0, .ref aTe0⟩, ⟨hTe1, .str "answer" tTe1, .ref aTe1⟩] : Array DictEntry).toList)
    (wTe : (aTe == sysModules) = false)
    (qTe0 : K.lookup aTe0 = some ⟨.type "tuple", odTe0, .seq #[.str "sign" tTe00, .str "term" tTe01, .str "variable" tTe02] nTe0, slTe0⟩)
    (qTe1 : K.lookup aTe1 = some ⟨.type "tuple", odTe1, .seq #[.str "answer" tTe10] nTe1, slTe1⟩)
    (mCo : PySem.W.nsIn K mainGlobals "COLLECTOR_ROLES" = some (some (.ref aCo)))
    (qCo : K.lookup aCo = some ⟨.type "dict", none, .dict #[⟨hCo0, .str "grow" tCo0, .ref aCo0⟩, ⟨hCo1, .str "list" tCo1, .ref aCo1⟩] nCo, #[]⟩)
    (yCo : PySem.W.KeysLit w.params (#[⟨hCo0, .str "grow" tCo0, .ref aCo0⟩, ⟨hCo1, .str "list" tCo1, .ref aCo1⟩] : Array DictEntry).toList)
    (wCo : (aCo == sysModules) = false)
    (qCo0 : K.lookup aCo0 = some ⟨.type "tuple", odCo0, .seq #[.str "term" tCo00] nCo0, slCo0⟩)
    (qCo1 : K.lookup aCo1 = some ⟨.type "tuple", odCo1, .seq #[.str "term" tCo10] nCo1, slCo1⟩)
    : ∃ fd : FuncData, (∀ (s : Shared) (v : Value), BindsTo s fd ⟨[v], []⟩ [("_law_script", v)]) ∧ ∀ base : Heap, K.In base → base.Ns mainGlobals mg → FnOk l.prog w K mg base CX0 8 fa fd ["_law_script"] (spLaw K) := by
  have e := hfa.symm.trans (PySem.W.mg_of X G aLaw)
  cases e
  have FFrom := fun_mk (st := sFrom) lFrom cFrom kFrom
  have bFrom := FFrom.binds (ps := ["thing", "least"]) fun _ _ _ _ _ _ us hl => match us, hl with | [_, _], _ => rfl
  have FInt := fun_mk (st := sInt) lInt cInt kInt
  have bInt := FInt.binds (ps := ["thing", "least", "greatest"]) fun _ _ _ _ _ _ us hl => match us, hl with | [_, _, _], _ => rfl
  have FTerm := fun_mk (st := sTerm) lTerm cTerm kTerm
  have bTerm := FTerm.binds (ps := ["thing"]) fun _ _ _ _ _ _ us hl => match us, hl with | [_], _ => rfl
  have FCond := fun_mk (st := sCond) lCond cCond kCond
  have bCond := FCond.binds (ps := ["thing"]) fun _ _ _ _ _ _ us hl => match us, hl with | [_], _ => rfl
  have FPart := fun_mk (st := sPart) lPart cPart kPart
  have bPart := FPart.binds (ps := ["thing", "role"]) fun _ _ _ _ _ _ us hl => match us, hl with | [_, _], _ => rfl
  have FWord := fun_mk (st := sWord) lWord cWord kWord
  have bWord := FWord.binds (ps := ["thing"]) fun _ _ _ _ _ _ us hl => match us, hl with | [_], _ => rfl
  have FRoles := fun_mk (st := sRoles) lRoles cRoles kRoles
  have bRoles := FRoles.binds (ps := ["word", "kind"]) fun _ _ _ _ _ _ us hl => match us, hl with | [_, _], _ => rfl
  have FPlain := fun_mk (st := sPlain) lPlain cPlain kPlain
  have bPlain := FPlain.binds (ps := ["thing", "kind"]) fun _ _ _ _ _ _ us hl => match us, hl with | [_, _], _ => rfl
  have FOut := fun_mk (st := sOut) lOut cOut kOut
  have bOut := FOut.binds (ps := ["thing", "kind"]) fun _ _ _ _ _ _ us hl => match us, hl with | [_, _], _ => rfl
  have FBodies := fun_mk (st := sBodies) lBodies cBodies kBodies
  have bBodies := FBodies.binds (ps := ["statement"]) fun _ _ _ _ _ _ us hl => match us, hl with | [_], _ => rfl
  have FProg := fun_mk (st := sProg) lProg cProg kProg
  have bProg := FProg.binds (ps := ["thing"]) fun _ _ _ _ _ _ us hl => match us, hl with | [_], _ => rfl
  have FBag := fun_mk (st := sBag) lBag cBag kBag
  have bBag := FBag.binds (ps := ["_law_script", "_law_k"]) fun _ _ _ _ _ _ us hl => match us, hl with | [_, _], _ => rfl
  have FDraw := fun_mk (st := sDraw) lDraw cDraw kDraw
  have bDraw := FDraw.binds (ps := ["_law_bag_here", "_law_many"]) fun _ _ _ _ _ _ us hl => match us, hl with | [_, _], _ => rfl
  have FLarge := fun_mk (st := sLarge) lLarge cLarge kLarge
  have bLarge := FLarge.binds (ps := ["_law_bag_here", "_law_many"]) fun _ _ _ _ _ _ us hl => match us, hl with | [_, _], _ => rfl
  have FSteps := fun_mk (st := sSteps) lSteps cSteps kSteps
  have bSteps := FSteps.binds (ps := ["_law_bag_here"]) fun _ _ _ _ _ _ us hl => match us, hl with | [_], _ => rfl
  have FTermL := fun_mk (st := sTermL) lTermL cTermL kTermL
  have bTermL := FTermL.binds (ps := ["_law_bag_here"]) fun _ _ _ _ _ _ us hl => match us, hl with | [_], _ => rfl
  have FCondL := fun_mk (st := sCondL) lCondL cCondL kCondL
  have bCondL := FCondL.binds (ps := ["_law_bag_here"]) fun _ _ _ _ _ _ us hl => match us, hl with | [_], _ => rfl
  have FSimple := fun_mk (st := sSimple) lSimple cSimple kSimple
  have bSimple := FSimple.binds (ps := ["_law_bag_here", "_law_kind_here"]) fun _ _ _ _ _ _ us hl => match us, hl with | [_, _], _ => rfl
  have FKind := fun_mk (st := sKind) lKind cKind kKind
  have bKind := FKind.binds (ps := ["_law_bag_here"]) fun _ _ _ _ _ _ us hl => match us, hl with | [_], _ => rfl
  have FNested := fun_mk (st := sNested) lNested cNested kNested
  have bNested := FNested.binds (ps := ["_law_bag_here", "_law_deep", "_law_inner"]) fun _ _ _ _ _ _ us hl => match us, hl with | [_, _, _], _ => rfl
  have FEdge := fun_mk (st := sEdge) lEdge cEdge kEdge
  have bEdge := FEdge.binds (ps := ["_law_bag_here"]) fun _ _ _ _ _ _ us hl => match us, hl with | [_], _ => rfl
  have FLaw := fun_mk (st := sLaw) lLaw cLaw kLaw
  let T : Gs K mg := ⟨PySem.W.mg_none_of X G zisinstance, PySem.W.mg_none_of X G zint, PySem.W.mg_none_of X G zbool, PySem.W.mg_none_of X G zstr, PySem.W.mg_none_of X G ztuple, PySem.W.mg_none_of X G zlen, PySem.W.mg_none_of X G zzip, PySem.W.mg_none_of X G zall,
    aV, PySem.W.mg_of X G mV, sqt_of qV (by show 2 ≤ sizeLine; decide) (.cons ⟨_, rfl⟩ (.cons ⟨_, rfl⟩ (.nil))), aC, PySem.W.mg_of X G mC, sqt_of qC (by show 3 ≤ sizeLine; decide) (.cons ⟨_, rfl⟩ (.cons ⟨_, rfl⟩ (.cons ⟨_, rfl⟩ (.nil)))), aA, PySem.W.mg_of X G mA, sqt_of qA (by show 3 ≤ sizeLine; decide) (.cons ⟨_, rfl⟩ (.cons ⟨_, rfl⟩ (.cons ⟨_, rfl⟩ (.nil)))), aK, PySem.W.mg_of X G mK, sqt_of qK (by show 2 ≤ sizeLine; decide) (.cons ⟨_, rfl⟩ (.cons ⟨_, rfl⟩ (.nil))),
    tG, PySem.W.mg_of X G gG, tL, PySem.W.mg_of X G gL, tS, PySem.W.mg_of X G gS, tD, PySem.W.mg_of X G gD⟩
  have T2 : G2 mg := ⟨PySem.W.mg_none_of X G zabs, PySem.W.mg_none_of X G zmax, PySem.W.mg_none_of X G zmin, PySem.W.mg_none_of X G zrange⟩
  let D : Gd K w mg := ⟨aB, PySem.W.mg_of X G mB, ⟨⟨_, _, qB, yB, .cons ⟨_, rfl⟩ (.cons ⟨_, rfl⟩ (.nil))⟩, wB⟩,
    aSh, aSh0, aSh1, aSh2, PySem.W.mg_of X G mSh, ⟨⟨_, _, qSh, ySh, .cons rfl (.cons rfl (.cons rfl (.nil)))⟩, wSh⟩, sqt_of qSh0 (by show 2 ≤ sizeLine; decide) (.cons ⟨_, rfl⟩ (.cons ⟨_, rfl⟩ (.nil))), sqt_of qSh1 (by show 2 ≤ sizeLine; decide) (.cons ⟨_, rfl⟩ (.cons ⟨_, rfl⟩ (.nil))), sqt_of qSh2 (by show 1 ≤ sizeLine; decide) (.cons ⟨_, rfl⟩ (.nil)),
    aTe, aTe0, aTe1, PySem.W.mg_of X G mTe, ⟨⟨_, _, qTe, yTe, .cons rfl (.cons rfl (.nil))⟩, wTe⟩, sqt_of qTe0 (by show 3 ≤ sizeLine; decide) (.cons ⟨_, rfl⟩ (.cons ⟨_, rfl⟩ (.cons ⟨_, rfl⟩ (.nil)))), sqt_of qTe1 (by show 1 ≤ sizeLine; decide) (.cons ⟨_, rfl⟩ (.nil)),
    aCo, aCo0, aCo1, PySem.W.mg_of X G mCo, ⟨⟨_, _, qCo, yCo, .cons rfl (.cons rfl (.nil))⟩, wCo⟩, sqt_of qCo0 (by show 1 ≤ sizeLine; decide) (.cons ⟨_, rfl⟩ (.nil)), sqt_of qCo1 (by show 1 ≤ sizeLine; decide) (.cons ⟨_, rfl⟩ (.nil))⟩
  refine ⟨PySem.W.fnOf "law" "law" (defArgs sLaw) (defBody sLaw) (defScope sLaw) .none kVLaw dcLaw pmLaw anLaw cdLaw ctLaw, fun s v => .of_eq rfl, fun base _ _ => ?_⟩
  let CFrom : Cal l.prog w K mg base 1 "is_integer_from" ["thing", "least"] (spFrom K) := ⟨_, _, ok_from FFrom T, bFrom, kFrom, PySem.W.mg_of X G aFrom⟩
  let CInt : Cal l.prog w K mg base 2 "is_integer_from_to" ["thing", "least", "greatest"] (spInt K) := ⟨_, _, ok_int FInt CFrom, bInt, kInt, PySem.W.mg_of X G aInt⟩
  let CTerm : Cal l.prog w K mg base 3 "is_term" ["thing"] (sp1 isTerm K) := ⟨_, _, ok_term FTerm T CInt, bTerm, kTerm, PySem.W.mg_of X G aTerm⟩
  let CCond : Cal l.prog w K mg base 4 "is_condition" ["thing"] (sp1 isCond K) := ⟨_, _, ok_cond FCond T CTerm, bCond, kCond, PySem.W.mg_of X G aCond⟩
  let CPart : Cal l.prog w K mg base 4 "is_part" ["thing", "role"] (spPart K) := ⟨_, _, ok_part FPart T CInt CTerm, bPart, kPart, PySem.W.mg_of X G aPart⟩
  let CWord : Cal l.prog w K mg base 1 "word_of" ["thing"] (spWord K) := ⟨_, _, ok_word FWord T, bWord, kWord, PySem.W.mg_of X G aWord⟩
  let CRoles : Cal l.prog w K mg base 1 "roles_of" ["word", "kind"] (spRoles K) := ⟨_, _, ok_roles FRoles D, bRoles, kRoles, PySem.W.mg_of X G aRoles⟩
  let CPlain : Cal l.prog w K mg base 5 "is_plain_statement" ["thing", "kind"] (sp2 isPlain K) := ⟨_, _, ok_plain FPlain T CWord CRoles CPart, bPlain, kPlain, PySem.W.mg_of X G aPlain⟩
  let COut : Cal l.prog w K mg base 6 "is_outside_of_statement" ["thing", "kind"] (sp2 isOut K) := ⟨_, _, ok_out FOut T D CWord CCond CPlain, bOut, kOut, PySem.W.mg_of X G aOut⟩
  let CBodies : Cal l.prog w K mg base 1 "bodies_of" ["statement"] (spBods K) := ⟨_, _, ok_bodies FBodies T D, bBodies, kBodies, PySem.W.mg_of X G aBodies⟩
  let CProg : Cal l.prog w K mg base 7 "is_program" ["thing"] (spProg K) := ⟨_, _, ok_prog FProg T COut CBodies, bProg, kProg, PySem.W.mg_of X G aProg⟩
  let CBag : Cal l.prog w K mg base 1 "_law_bag" ["_law_script", "_law_k"] (spBag K) := ⟨_, _, ok_bag FBag T T2, bBag, kBag, PySem.W.mg_of X G aBag⟩
  let CDraw : Cal l.prog w K mg base 1 "_law_draw" ["_law_bag_here", "_law_many"] spDraw := ⟨_, _, ok_draw FDraw, bDraw, kDraw, PySem.W.mg_of X G aDraw⟩
  let CLarge : Cal l.prog w K mg base 2 "_law_large" ["_law_bag_here", "_law_many"] spLarge := ⟨_, _, ok_large FLarge CDraw, bLarge, kLarge, PySem.W.mg_of X G aLarge⟩
  let CSteps : Cal l.prog w K mg base 3 "_law_steps" ["_law_bag_here"] spSteps := ⟨_, _, ok_steps FSteps CDraw CLarge, bSteps, kSteps, PySem.W.mg_of X G aSteps⟩
  let CTermL : Cal l.prog w K mg base 2 "_law_term" ["_law_bag_here"] (spTermL K) := ⟨_, _, ok_termL FTermL CDraw, bTermL, kTermL, PySem.W.mg_of X G aTermL⟩
  let CCondL : Cal l.prog w K mg base 3 "_law_condition" ["_law_bag_here"] (spCondL K) := ⟨_, _, ok_condL FCondL CDraw CTermL, bCondL, kCondL, PySem.W.mg_of X G aCondL⟩
  let CSimple : Cal l.prog w K mg base 4 "_law_simple" ["_law_bag_here", "_law_kind_here"] (spSimple K) := ⟨_, _, ok_simple FSimple CDraw CTermL CSteps, bSimple, kSimple, PySem.W.mg_of X G aSimple⟩
  let CKind : Cal l.prog w K mg base 2 "_law_kind" ["_law_bag_here"] spKind := ⟨_, _, ok_kind FKind CDraw, bKind, kKind, PySem.W.mg_of X G aKind⟩
  let CNested : Cal l.prog w K mg base 4 "_law_nested" ["_law_bag_here", "_law_deep", "_law_inner"] (spNested K) := ⟨_, _, ok_nested FNested T2 CDraw CCondL, bNested, kNested, PySem.W.mg_of X G aNested⟩
  let CEdge : Cal l.prog w K mg base 2 "_law_edge" ["_law_bag_here"] (spEdge K) := ⟨_, _, ok_edge FEdge CDraw, bEdge, kEdge, PySem.W.mg_of X G aEdge⟩
  exact ok_law FLaw T T2 CBag CDraw CKind CSimple CNested CEdge CProg
theorem walk {l : PySem.W.OpenLaw} {q : Program} {loose : List Str} {XP : (Str → Option Value) → Heap → Prop} {YP : World → Heap → Prop} {d : DefRec} {K : Params → PySem.W.Frag} (hn : l.most = some 63) (hdf : d.params.defaults = [])
    (hY : ∀ (w : World) (h : Heap), YP w h → (K w.params).In h)
    (F : ∀ (w : World) (mg : Str → Option Value) (fa : Addr) (h : Heap), (K w.params).In h → h.Ns mainGlobals mg → mg d.name = some (.ref fa) →
      ∃ fd : FuncData, (∀ (s : Shared) (u : Value), BindsTo s fd ⟨[u], []⟩ [("_law_script", u)]) ∧ ∀ base : Heap, (K w.params).In base → base.Ns mainGlobals mg → FnOk l.prog w (K w.params) mg base CX0 8 fa fd ["_law_script"] (spLaw (K w.params))) :
    PySem.W.WalkO q loose XP YP l.row.toRowW d [] (fun f vs => PySem.call f vs) :=
  L2.walk_of (n := 63) (k := 8) (x := "_law_script") (CX := fun _ => CX0) (sp := fun w => spLaw (K w.params)) hn (by decide) hdf ⟨rfl, by decide, by decide⟩ hY F (fun _ _ a ns hl _ hS => ⟨a, ns, rfl, hS, hl, fun _ => rfl⟩) fun _ _ _ _ _ z => z
end My
open PySem PySem.W PyProof.Rows
set_option maxRecDepth 100000 in
set_option maxHeartbeats 0 in
theorem PySem.Challenge.cw_neithertells_k02_programs_at_their_bound_holds : PySem.Challenge.rw_neithertells_k02_programs_at_their_bound.Holds := by
  w_on; o_law; k_head; (case hw => w_witness2)
  k_fill
  refine My.walk (l := PySem.Challenge.rw_neithertells_k02_programs_at_their_bound) rfl rfl (fun w h Y => PySem.W.kIn_of Y) ?F
  case F =>
    intro w mg fa h KX G hmg
    refine' My.all_mk KX G hmg ?aFrom ?lFrom ?cFrom ?kFrom ?aInt ?lInt ?cInt ?kInt ?aTerm ?lTerm ?cTerm ?kTerm ?aCond ?lCond ?cCond ?kCond ?aPart ?lPart ?cPart ?kPart ?aWord ?lWord ?cWord ?kWord ?aRoles ?lRoles ?cRoles ?kRoles ?aPlain ?lPlain ?cPlain ?kPlain ?aOut ?lOut ?cOut ?kOut ?aBodies ?lBodies ?cBodies ?kBodies ?aProg ?lProg ?cProg ?kProg ?aBag ?lBag ?cBag ?kBag ?aDraw ?lDraw ?cDraw ?kDraw ?aLarge ?lLarge ?cLarge ?kLarge ?aSteps ?lSteps ?cSteps ?kSteps ?aTermL ?lTermL ?cTermL ?kTermL ?aCondL ?lCondL ?cCondL ?kCondL ?aSimple ?lSimple ?cSimple ?kSimple ?aKind ?lKind ?cKind ?kKind ?aNested ?lNested ?cNested ?kNested ?aEdge ?lEdge ?cEdge ?kEdge ?aLaw ?lLaw ?cLaw ?kLaw ?zisinstance ?zint ?zbool ?zstr ?ztuple ?zlen ?zzip ?zall ?zabs ?zmax ?zmin ?zrange ?gG ?gL ?gS ?gD ?mV ?qV ?mC ?qC ?mA ?qA ?mK ?qK ?mB ?qB ?yB ?wB ?mSh ?qSh ?ySh ?wSh ?qSh0 ?qSh1 ?qSh2 ?mTe ?qTe ?yTe ?wTe ?qTe0 ?qTe1 ?mCo ?qCo ?yCo ?wCo ?qCo0 ?qCo1
    (case aFrom => k_is)
    (case lFrom => k_is)
    (case cFrom => k_is)
    (case kFrom => k_is)
    (case aInt => k_is)
    (case lInt => k_is)
    (case cInt => k_is)
    (case kInt => k_is)
    (case aTerm => k_is)
    (case lTerm => k_is)
    (case cTerm => k_is)
    (case kTerm => k_is)
    (case aCond => k_is)
    (case lCond => k_is)
    (case cCond => k_is)
    (case kCond => k_is)
    (case aPart => k_is)
    (case lPart => k_is)
    (case cPart => k_is)
    (case kPart => k_is)
    (case aWord => k_is)
    (case lWord => k_is)
    (case cWord => k_is)
    (case kWord => k_is)
    (case aRoles => k_is)
    (case lRoles => k_is)
    (case cRoles => k_is)
    (case kRoles => k_is)
    (case aPlain => k_is)
    (case lPlain => k_is)
    (case cPlain => k_is)
    (case kPlain => k_is)
    (case aOut => k_is)
    (case lOut => k_is)
    (case cOut => k_is)
    (case kOut => k_is)
    (case aBodies => k_is)
    (case lBodies => k_is)
    (case cBodies => k_is)
    (case kBodies => k_is)
    (case aProg => k_is)
    (case lProg => k_is)
    (case cProg => k_is)
    (case kProg => k_is)
    (case aBag => k_is)
    (case lBag => k_is)
    (case cBag => k_is)
    (case kBag => k_is)
    (case aDraw => k_is)
    (case lDraw => k_is)
    (case cDraw => k_is)
    (case kDraw => k_is)
    (case aLarge => k_is)
    (case lLarge => k_is)
    (case cLarge => k_is)
    (case kLarge => k_is)
    (case aSteps => k_is)
    (case lSteps => k_is)
    (case cSteps => k_is)
    (case kSteps => k_is)
    (case aTermL => k_is)
    (case lTermL => k_is)
    (case cTermL => k_is)
    (case kTermL => k_is)
    (case aCondL => k_is)
    (case lCondL => k_is)
    (case cCondL => k_is)
    (case kCondL => k_is)
    (case aSimple => k_is)
    (case lSimple => k_is)
    (case cSimple => k_is)
    (case kSimple => k_is)
    (case aKind => k_is)
    (case lKind => k_is)
    (case cKind => k_is)
    (case kKind => k_is)
    (case aNested => k_is)
    (case lNested => k_is)
    (case cNested => k_is)
    (case kNested => k_is)
    (case aEdge => k_is)
    (case lEdge => k_is)
    (case cEdge => k_is)
    (case kEdge => k_is)
    (case aLaw => k_is)
    (case lLaw => k_is)
    (case cLaw => k_is)
    (case kLaw => k_is)
    (case zisinstance => k_is)
    (case zint => k_is)
    (case zbool => k_is)
    (case zstr => k_is)
    (case ztuple => k_is)
    (case zlen => k_is)
    (case zzip => k_is)
    (case zall => k_is)
    (case zabs => k_is)
    (case zmax => k_is)
    (case zmin => k_is)
    (case zrange => k_is)
    (case gG => k_is)
    (case gL => k_is)
    (case gS => k_is)
    (case gD => k_is)
    (case mV => k_is)
    (case qV => k_is)
    (case mC => k_is)
    (case qC => k_is)
    (case mA => k_is)
    (case qA => k_is)
    (case mK => k_is)
    (case qK => k_is)
    (case mB => k_is)
    (case qB => k_is)
    (case yB => first | k_is | (simp [PySem.W.KeysLit]))
    (case wB => first | rfl | decide | k_is)
    (case mSh => k_is)
    (case qSh => k_is)
    (case ySh => first | k_is | (simp [PySem.W.KeysLit]))
    (case wSh => first | rfl | decide | k_is)
    (case qSh0 => k_is)
    (case qSh1 => k_is)
    (case qSh2 => k_is)
    (case mTe => k_is)
    (case qTe => k_is)
    (case yTe => first | k_is | (simp [PySem.W.KeysLit]))
    (case wTe => first | rfl | decide | k_is)
    (case qTe0 => k_is)
    (case qTe1 => k_is)
    (case mCo => k_is)
    (case qCo => k_is)
    (case yCo => first | k_is | (simp [PySem.W.KeysLit]))
    (case wCo => first | rfl | decide | k_is)
    (case qCo0 => k_is)
    (case qCo1 => k_is)


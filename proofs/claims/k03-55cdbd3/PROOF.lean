import PyProof.Rows.All
import Wide.All
import OpenK.AllK
import Wide.FinOn
import HandS.ForMost
import HandS.IsInst
import HandS.Zip
import HandS.More
import HandS.TupAny
import HandS.TupLe
import HandS.Wide
import HandS.NoneIn
import HandS.Deep
import HandS.Star
import HandS.FStr
import HandS.RaiseMore
import PyProof.Rows.StrJoinMade
import HandS.ForExc
import HandS.ExcIs
import PySem.Challenge.RW_neithertells_k03_texts_shown
set_option Elab.async false
set_option linter.all false
set_option maxRecDepth 100000
set_option maxHeartbeats 8000000
namespace My
open PySem L2
def top (i : Nat) : Stmt := PySem.Challenge.pw_neithertells_k03_texts_shown.main.body.getD i (.Pass ⟨0, 0, 0, 0⟩)
abbrev sFrom : Stmt := top 21
abbrev sInt : Stmt := top 22
abbrev sTerm : Stmt := top 23
abbrev sCond : Stmt := top 24
abbrev sPart : Stmt := top 25
abbrev sWord : Stmt := top 26
abbrev sRoles : Stmt := top 27
abbrev sPlain : Stmt := top 28
abbrev sOut : Stmt := top 29
abbrev sBodies : Stmt := top 30
abbrev sProg : Stmt := top 31

/-! ### the mathematics of programs -/
def inS (d : PyData) (zs : List Str) : Bool := match d with | .str z => zs.any (· == z) | _ => false
def intIn (d : PyData) (lo hi : Int) : Bool := match d with | .int i => decide (lo ≤ i) && decide (i ≤ hi) | _ => false
def intFrom (d : PyData) (lo : Int) : Bool := match d with | .int i => decide (lo ≤ i) | _ => false
def vars : List Str := ["a", "b"]
def signs : List Str := ["==", "!=", "<"]
def asks : List Str := ["+", "-", "="]
def kinds : List Str := ["teller", "collector"]
def isTerm (d : PyData) : Bool := inS d vars || intIn d 0 15
def isCond (d : PyData) : Bool := match d with
  | .tuple [x, y, z] => inS x vars && inS y signs && isTerm z
  | _ => false
def longest : Int := 1000000000000000000000000000000
def isPart (d : PyData) (r : Str) : Bool :=
  if r = "variable" then inS d vars else if r = "term" then isTerm d else if r = "sign" then inS d asks else if r = "steps" then intIn d 1 longest
  else if r = "answer" then intIn d 0 1 else intIn d 0 15

/-! ### rules -/
section
variable {X : Cx}
theorem depth_strs (zs : List Str) : PyData.depthAll (zs.map PyData.str) = 0 := by
  induction zs with
  | nil => rfl
  | cons z r ih => simp only [List.map_cons, PyData.depthAll, PyData.depth, ih]; rfl
theorem lay_strs : ∀ (zs : List Str), zs.all PyData.strOk = true → PyData.canLayAll0 (zs.map PyData.str) = true
  | [], _ => by simp [PyData.canLayAll0]
  | z :: r, h => by
    simp only [List.all_cons, Bool.and_eq_true] at h
    simp only [List.map_cons, PyData.canLayAll0, PyData.canLay0, Bool.and_eq_true]
    exact ⟨h.1, lay_strs r h.2⟩
theorem any_strs (d : PyData) : ∀ (zs : List Str), ((zs.map PyData.str).any fun y => PyData.eqv y d) = inS d zs
  | [] => by cases d <;> rfl
  | z :: r => by
    have ih := any_strs d r
    rw [List.map_cons, List.any_cons, ih]
    cases d <;> simp [inS, PyData.eqv]
theorem dp_strs {K : PySem.W.Frag} {H : Hp} : ∀ zs : List Str, DpAll K H (zs.map V.str) (zs.map PyData.str)
  | [] => .nil
  | z :: r => .cons (.str z) (dp_strs r)
def rInS (K : PySem.W.Frag) (neg : Bool) : R2 := fun x y H Q => ∃ (d : PyData) (zs : List Str) (p : Addr), y = .ref p ∧ Dp K H x d ∧ d.canLay0 = true ∧ SqT K H p (zs.map V.str) ∧ zs.all PyData.strOk = true ∧
  Q (.bl (if neg then !inS d zs else inS d zs)) H
theorem op_inS (hu : X.A.units + 65 < cLine) : OpR X (compareOp .In) (rInS X.K false) := by
  intro pins s σ H x y v u Q I rx ry h
  obtain ⟨d, zs, p, rfl, hd, ld, hz, oz, q⟩ := h
  obtain ⟨as, r1⟩ := Dp.reads I d x v hd rx
  obtain ⟨bs, r2⟩ := Dp.reads I (.tuple (zs.map PyData.str)) (.ref p) u (.tup hz (dp_strs zs)) ry
  refine SeqAt.in_tuple_reads r2 r1 (lay_strs zs oz) ld ?_ ⟨.bl _, H, I, rfl, ?_⟩
  · rw [depth_strs]
    have := Nat.min_le_left 0 d.depth
    omega
  · rw [any_strs]; exact q
theorem op_notInS (hu : X.A.units + 65 < cLine) : OpR X (compareOp .NotIn) (rInS X.K true) := by
  intro pins s σ H x y v u Q I rx ry h
  obtain ⟨d, zs, p, rfl, hd, ld, hz, oz, q⟩ := h
  obtain ⟨as, r1⟩ := Dp.reads I d x v hd rx
  obtain ⟨bs, r2⟩ := Dp.reads I (.tuple (zs.map PyData.str)) (.ref p) u (.tup hz (dp_strs zs)) ry
  refine SeqAt.notIn_tuple_reads r2 r1 (lay_strs zs oz) ld ?_ ⟨.bl _, H, I, rfl, ?_⟩
  · rw [depth_strs]
    have := Nat.min_le_left 0 d.depth
    omega
  · rw [any_strs]; exact q
end
section
variable {X : Cx}
theorem pe_gref {x : Str} {a : Addr} {pos : Pos} (hg : Gl X x) (hm : X.mg x = some (.ref a)) (hd : (x == ("__debug__" : Str)) = false := by decide) : PE X (.Name x pos) (tC (.ref a)) := pe_glob hg hm rfl hd
theorem pe_gint {x : Str} {i : Int} {t : Tok} {pos : Pos} (hg : Gl X x) (hm : X.mg x = some (.int i t)) (hd : (x == ("__debug__" : Str)) = false := by decide) : PE X (.Name x pos) (tC (.int i)) := pe_glob hg hm ⟨t, rfl⟩ hd
end
/-- the name of the type -/
def tyN : PyData → String
  | .none => "NoneType"
  | .bool _ => "bool"
  | .int _ => "int"
  | .str _ => "str"
  | .list _ => "list"
  | .tuple _ => "tuple"
  | .dict _ => "dict"
theorem dp_ty {K : PySem.W.Frag} {H : Hp} {v : V} {d : PyData} (h : Dp K H v d) : TyX K H v (.type (tyN d)) := by
  cases h with
  | non => exact .base .non
  | bl b => exact .base (.bl b)
  | int i => exact .base (.int i)
  | str x => exact .base (.str x)
  | lst hs _ =>
    rcases hs with (h | ⟨o, h⟩) | ⟨o, its, n, hk, hc, _⟩
    · exact .base (.lst h)
    · exact .base (.frz h)
    · exact .kList hk hc
  | tup hs _ =>
    rcases hs with (h | ⟨o, h⟩) | ⟨o, its, n, hk, hc, _⟩
    · exact .base (.tup h)
    · exact .fTuple h
    · exact .kTuple hk hc
def isT (d : PyData) (T : String) : Bool := match d with
  | .bool _ => T == "bool" || T == "int"
  | _ => tyN d == T
theorem kit_isT {K : PySem.W.Frag} (d : PyData) {T : String} (h : T = "int" ∨ T = "bool" ∨ T = "str" ∨ T = "tuple" ∨ T = "list") (nd : ∀ k, d ≠ .dict k) : PySem.W.kitOne K (.type (tyN d)) (.type T) = some (isT d T) := by
  refine kit_ty ?_
  rcases h with rfl | rfl | rfl | rfl | rfl <;> cases d <;> first | (exact absurd rfl (nd _)) | (simp only [tyN, isT]; decide +kernel)

/-! ### what the module's names hold -/
structure Gs (K : PySem.W.Frag) (mg : Str → Option Value) where
  isi : mg "isinstance" = none
  int : mg "int" = none
  bool : mg "bool" = none
  str : mg "str" = none
  tup : mg "tuple" = none
  len : mg "len" = none
  zip : mg "zip" = none
  all : mg "all" = none
  aV : Addr
  mV : mg "VARIABLES" = some (.ref aV)
  kV : ∀ H, SqT K H aV (vars.map V.str)
  aC : Addr
  mC : mg "CONDITION_SIGNS" = some (.ref aC)
  kC : ∀ H, SqT K H aC (signs.map V.str)
  aA : Addr
  mA : mg "ASK_SIGNS" = some (.ref aA)
  kA : ∀ H, SqT K H aA (asks.map V.str)
  aK : Addr
  mK : mg "KINDS" = some (.ref aK)
  kK : ∀ H, SqT K H aK (kinds.map V.str)
  tG : Tok
  mG : mg "GREATEST_VALUE" = some (.int 15 tG)
  tL : Tok
  mL : mg "LONGEST_WAIT" = some (.int longest tL)
  tS : Tok
  mS : mg "MOST_STATEMENTS" = some (.int 24 tS)
  tD : Tok
  mD : mg "MOST_DEPTH" = some (.int 4 tD)

/-! ### promises -/
abbrev Lay (d : PyData) : Prop := d.canLay0 = true
def spInt (K : PySem.W.Frag) : Sp := fun vs H Q _ => ∃ (v : V) (d : PyData) (lo hi : Int), vs = [v, .int lo, .int hi] ∧ Dp K H v d ∧ Q (.bl (intIn d lo hi)) H
def spFrom (K : PySem.W.Frag) : Sp := fun vs H Q _ => ∃ (v : V) (d : PyData) (lo : Int), vs = [v, .int lo] ∧ Dp K H v d ∧ Q (.bl (intFrom d lo)) H
def sp1 (f : PyData → Bool) (K : PySem.W.Frag) : Sp := fun vs H Q _ => ∃ (v : V) (d : PyData), vs = [v] ∧ Dp K H v d ∧ Lay d ∧ Q (.bl (f d)) H
theorem dp_nd {K : PySem.W.Frag} {H : Hp} {v : V} {d : PyData} (h : Dp K H v d) : ∀ k, d ≠ .dict k := by
  intro k e
  subst e
  cases h
section
variable {P : Program} {w : World} {K : PySem.W.Frag} {mg : Str → Option Value} {base : Heap}
theorem scFrom : FnScope ["thing", "least"] ["thing", "least"] (defScope sFrom) := ⟨rfl, rfl, rfl, by decide +kernel, rfl, by decide +kernel, by decide +kernel⟩
theorem ok_from {f : Addr} {fd : FuncData} (F : Fun K "is_integer_from" "is_integer_from" sFrom f fd) (T : Gs K mg) : FnOk P w K mg base CX0 1 f fd ["thing", "least"] (spFrom K) := by
  refine F.ok scFrom (fun vs H Q E h => ?_) (fun cdv A outer s H vs Q E hr h => ?_)
  · obtain ⟨v, d, lo, rfl, _⟩ := h
    rfl
  obtain ⟨v, d, lo, rfl, hd, q⟩ := h
  refine ⟨_, pss_one (ps_ret (pe_and (pe_callB call_isi (by rfl) T.isi (by decide +kernel) (pa_cons (pv 0) (pa_cons (pe_bltn (v := .ty "int") (by rfl) T.int (by decide +kernel) rfl) pa_nil)))
    (pe_and (pe_not (pe_callB call_isi (by rfl) T.isi (by decide +kernel) (pa_cons (pv 0) (pa_cons (pe_bltn (v := .ty "bool") (by rfl) T.bool (by decide +kernel) rfl) pa_nil))))
      (pe_one (pe_cmpR op_le (pv 1) (pv 0) (by rfl)))))), ?_⟩
  refine ⟨_, rfl, v, .ty "int", _, _, _, rfl, .ty _, dp_ty hd, kit_isT d (by simp) (dp_nd hd), _, rfl, ?_⟩
  cases hd with
  | int i =>
    refine ite2 (fun _ => ?_) (fun c => absurd (by rfl) c)
    refine ⟨_, rfl, _, .ty "bool", _, _, _, rfl, .ty _, dp_ty (.int i), kit_isT (.int i) (by simp) (fun _ e => nomatch e), _, rfl, _, rfl, ?_⟩
    refine ite2 (fun _ => ?_) (fun c => absurd (by rfl) c)
    exact ⟨_, rfl, _, rfl, _, _, rfl, rfl, q⟩
  | bl b =>
    refine ite2 (fun _ => ?_) (fun c => absurd (by rfl) c)
    refine ⟨_, rfl, _, .ty "bool", _, _, _, rfl, .ty _, dp_ty (.bl b), kit_isT (.bool b) (by simp) (fun _ e => nomatch e), _, rfl, _, rfl, ?_⟩
    exact ite2 (fun c => absurd (show false = true from c) (by decide)) (fun _ => q)
  | non => exact ite2 (fun c => absurd (show false = true from c) (by decide)) (fun _ => q)
  | str x => exact ite2 (fun c => absurd (show false = true from c) (by decide)) (fun _ => q)
  | lst _ _ => exact ite2 (fun c => absurd (show false = true from c) (by decide)) (fun _ => q)
  | tup _ _ => exact ite2 (fun c => absurd (show false = true from c) (by decide)) (fun _ => q)
structure Cal (P : Program) (w : World) (K : PySem.W.Frag) (mg : Str → Option Value) (base : Heap) (k : Nat) (x : Str) (ps : List Str) (sp : Sp) where
  f : Addr
  fd : FuncData
  G : FnOk P w K mg base CX0 k f fd ps sp
  b : Binds K fd ps []
  kp : PySem.W.keepIn K (.ref f) = true
  m : mg x = some (.ref f)
theorem scInt : FnScope ["thing", "least", "greatest"] ["thing", "least", "greatest"] (defScope sInt) := ⟨rfl, rfl, rfl, by decide +kernel, rfl, by decide +kernel, by decide +kernel⟩
theorem ok_int {f : Addr} {fd : FuncData} (F : Fun K "is_integer_from_to" "is_integer_from_to" sInt f fd) (CF : Cal P w K mg base 1 "is_integer_from" ["thing", "least"] (spFrom K)) : FnOk P w K mg base CX0 2 f fd ["thing", "least", "greatest"] (spInt K) := by
  refine F.ok scInt (fun vs H Q E h => ?_) (fun cdv A outer s H vs Q E hr h => ?_)
  · obtain ⟨v, d, lo, hi, rfl, _⟩ := h
    rfl
  obtain ⟨v, d, lo, hi, rfl, hd, q⟩ := h
  refine ⟨_, pss_one (ps_ret (pe_and (pe_call CF.G hr rfl CF.m CF.kp CF.b .nil pass0 (pa_cons (pv 0) (pa_cons (pv 1) pa_nil))) (pe_one (pe_cmpR op_le (pv 0) (pv 2) (by rfl))))), ?_⟩
  refine ⟨_, rfl, _, rfl, v, d, lo, rfl, hd, _, rfl, ?_⟩
  cases hd with
  | int i =>
    by_cases h1 : lo ≤ i
    · have e : intIn (.int i) lo hi = decide (i ≤ hi) := by simp [intIn, h1]
      rw [e] at q
      refine ite2 (fun _ => ⟨_, rfl, _, rfl, _, _, rfl, rfl, q⟩) (fun c => absurd (show decide (lo ≤ i) = true from decide_eq_true h1) c)
    · have e : intIn (.int i) lo hi = false := by simp [intIn, h1]
      rw [e] at q
      have e2 : intFrom (.int i) lo = false := decide_eq_false h1
      rw [e2]
      exact iteF q
  | bl b => exact ite2 (fun c => absurd (show false = true from c) (by decide)) (fun _ => q)
  | non => exact ite2 (fun c => absurd (show false = true from c) (by decide)) (fun _ => q)
  | str x => exact ite2 (fun c => absurd (show false = true from c) (by decide)) (fun _ => q)
  | lst _ _ => exact ite2 (fun c => absurd (show false = true from c) (by decide)) (fun _ => q)
  | tup _ _ => exact ite2 (fun c => absurd (show false = true from c) (by decide)) (fun _ => q)
end
theorem hu65 {k : Nat} {A : Around} (hr : Room k A) : A.units + 65 < cLine := by have := hr.un; omega
theorem dp_tup_inv {K : PySem.W.Frag} {H : Hp} {v : V} {ds : List PyData} (h : Dp K H v (.tuple ds)) : ∃ a xs, v = .ref a ∧ SqT K H a xs ∧ DpAll K H xs ds := by
  cases h with
  | tup hs ha => exact ⟨_, _, rfl, hs, ha⟩
theorem dpAll_len {K : PySem.W.Frag} {H : Hp} : ∀ {xs : List V} {ds : List PyData}, DpAll K H xs ds → xs.length = ds.length
  | _, _, .nil => rfl
  | _, _, .cons _ t => by rw [List.length_cons, List.length_cons, dpAll_len t]
theorem dpAll_get {K : PySem.W.Frag} {H : Hp} : ∀ {xs : List V} {ds : List PyData} {i : Nat} {x : V}, DpAll K H xs ds → xs[i]? = some x → ∃ d, ds[i]? = some d ∧ Dp K H x d
  | _, _, 0, _, .cons h _, e => by
    cases e
    exact ⟨_, rfl, h⟩
  | _, _, i + 1, _, .cons _ t, e => dpAll_get (i := i) t e
theorem lay_mem : ∀ {ds : List PyData}, PyData.canLayAll0 ds = true → ∀ d ∈ ds, Lay d
  | x :: r, h, d, m => by
    simp only [PyData.canLayAll0, Bool.and_eq_true] at h
    rcases List.mem_cons.mp m with e | m
    · rw [e]; exact h.1
    · exact lay_mem h.2 d m
theorem lay_tup {ds : List PyData} (h : Lay (.tuple ds)) : PyData.canLayAll0 ds = true := by
  unfold Lay at h
  simpa only [PyData.canLay0] using h
theorem isT_tup {d : PyData} (h : isT d "tuple" = true) : ∃ ds, d = .tuple ds := by
  cases d with
  | tuple ds => exact ⟨ds, rfl⟩
  | _ => simp [isT, tyN] at h
theorem isT_str {d : PyData} (h : isT d "str" = true) : ∃ z, d = .str z := by
  cases d with
  | str ds => exact ⟨ds, rfl⟩
  | _ => simp [isT, tyN] at h
theorem same_new {H : Hp} {p : Addr} (h : H p = none) (o : HO) : Same H (upd H p o) := fun b u q => by rw [upd_ne (ne_of_none q h)]; exact q
theorem Same.tup {K : PySem.W.Frag} {H H' : Hp} {a : Addr} {xs : List V} (e : Same H H') (h : SqT K H a xs) : SqT K H' a xs := by
  rcases h with (h | ⟨o, h⟩) | h
  · exact .inl (.inl (e _ _ h))
  · exact .inl (.inr ⟨o, e _ _ h⟩)
  · exact .inr h
mutual
theorem dp_mono {K : PySem.W.Frag} {H H' : Hp} (e : Same H H') : ∀ (d : PyData) (v : V), Dp K H v d → Dp K H' v d
  | .none, _, h => by cases h; exact .non
  | .bool b, _, h => by cases h; exact .bl b
  | .int i, _, h => by cases h; exact .int i
  | .str x, _, h => by cases h; exact .str x
  | .list ds, _, h => by
    cases h with
    | lst hs ha => exact .lst (e.seq hs) (dpAll_mono e ds _ ha)
  | .tuple ds, _, h => by
    cases h with
    | tup hs ha => exact .tup (Same.tup e hs) (dpAll_mono e ds _ ha)
  | .dict _, _, h => by cases h
theorem dpAll_mono {K : PySem.W.Frag} {H H' : Hp} (e : Same H H') : ∀ (ds : List PyData) (vs : List V), DpAll K H vs ds → DpAll K H' vs ds
  | [], _, h => by cases h; exact .nil
  | d :: ds, _, h => by
    cases h with
    | cons hd ht => exact .cons (dp_mono e d _ hd) (dpAll_mono e ds _ ht)
end
def wordOf : PyData → Option Str
  | .tuple (.str z :: _) => some z
  | _ => none
def wV : Option Str → V
  | some z => .str z
  | none => .non
def spPart (K : PySem.W.Frag) : Sp := fun vs H Q _ => ∃ (v : V) (d : PyData) (r : Str), vs = [v, .str r] ∧ Dp K H v d ∧ Lay d ∧ Q (.bl (isPart d r)) H
def spWord (K : PySem.W.Frag) : Sp := fun vs H Q _ => ∃ (v : V) (d : PyData), vs = [v] ∧ Dp K H v d ∧ Q (wV (wordOf d)) H
section
variable {P : Program} {w : World} {K : PySem.W.Frag} {mg : Str → Option Value} {base : Heap}
theorem scTerm : FnScope ["thing"] ["thing"] (defScope sTerm) := ⟨rfl, rfl, rfl, by decide +kernel, rfl, by decide +kernel, by decide +kernel⟩
theorem ok_term {f : Addr} {fd : FuncData} (F : Fun K "is_term" "is_term" sTerm f fd) (T : Gs K mg) (CI : Cal P w K mg base 2 "is_integer_from_to" ["thing", "least", "greatest"] (spInt K)) :
    FnOk P w K mg base CX0 3 f fd ["thing"] (sp1 isTerm K) := by
  refine F.ok scTerm (fun vs H Q E h => ?_) (fun cdv A outer s H vs Q E hr h => ?_)
  · obtain ⟨v, d, rfl, _⟩ := h
    rfl
  obtain ⟨v, d, rfl, hd, ld, q⟩ := h
  refine ⟨_, pss_one (ps_ret (pe_or (pe_cmpR (op_inS (hu65 hr)) (pv 0) (pe_gref rfl T.mV) (by rfl)) (pe_one (pe_call CI.G hr rfl CI.m CI.kp CI.b .nil pass0 (pa_cons (pv 0) (pa_cons pe_int (pa_cons (pe_gint rfl T.mG) pa_nil))))))), ?_⟩
  refine ⟨_, rfl, d, vars, T.aV, rfl, hd, ld, T.kV _, by decide +kernel, _, rfl, ?_⟩
  refine ite2 (fun c => ?_) (fun c => ?_)
  · have e : isTerm d = true := by unfold isTerm; rw [show inS d vars = true from c]; rfl
    rw [e] at q
    exact q
  · refine ⟨_, rfl, v, d, 0, 15, rfl, hd, ?_⟩
    have e : isTerm d = intIn d 0 15 := by unfold isTerm; rw [show inS d vars = false from Bool.eq_false_iff.mpr c]; rfl
    rw [e] at q
    exact q
theorem scCond : FnScope ["thing", "variable", "sign", "term"] ["thing"] (defScope sCond) := ⟨rfl, rfl, rfl, by decide +kernel, rfl, by decide +kernel, by decide +kernel⟩
theorem ok_cond {f : Addr} {fd : FuncData} (F : Fun K "is_condition" "is_condition" sCond f fd) (T : Gs K mg) (CT : Cal P w K mg base 3 "is_term" ["thing"] (sp1 isTerm K)) :
    FnOk P w K mg base CX0 4 f fd ["thing"] (sp1 isCond K) := by
  refine F.ok scCond (fun vs H Q E h => ?_) (fun cdv A outer s H vs Q E hr h => ?_)
  · obtain ⟨v, d, rfl, _⟩ := h
    rfl
  obtain ⟨v, d, rfl, hd, ld, q⟩ := h
  refine ⟨_, pss_cons (ps_if (PW.pt (pw_or (pt_not (pt_val (pe_callB call_isi (by rfl) T.isi (by decide +kernel) (pa_cons (pv 0) (pa_cons (pe_bltn (v := .ty "tuple") (by rfl) T.tup (by decide +kernel) rfl) pa_nil)))))
      (pw_or1 (pt_cmpR op_ne (pe_callB call_len_seq (by rfl) T.len PySem.boot_len (pa_cons (pv 0) pa_nil)) pe_int (nomark _))))) (pss_one (ps_ret pe_bl)) pss_nil)
    (pss_cons (ps_asg (pv 0) (pg_tup (by rfl) (pgs_cons (pg_name (i := 1) scCond.nd rfl (.inl rfl)) (pgs_cons (pg_name (i := 2) scCond.nd rfl (.inl rfl)) (pgs_cons (pg_name (i := 3) scCond.nd rfl (.inl rfl)) pgs_nil)))))
    (pss_one (ps_ret (pe_and (pe_cmpR (op_inS (hu65 hr)) (pv 1) (pe_gref rfl T.mV) (by rfl)) (pe_and (pe_cmpR (op_inS (hu65 hr)) (pv 2) (pe_gref rfl T.mC) (by rfl))
      (pe_one (pe_call CT.G hr rfl CT.m CT.kp CT.b .nil pass0 (pa_cons (pv 3) pa_nil)))))))), ?_⟩
  refine ⟨_, rfl, v, .ty "tuple", _, _, _, rfl, .ty _, dp_ty hd, kit_isT d (by simp) (dp_nd hd), _, rfl, ?_⟩
  cases ht : isT d "tuple" with
  | false =>
    refine iteT (iteT ?_)
    have e : isCond d = false := by cases d <;> first | rfl | (simp [isT, tyN] at ht)
    rw [e] at q
    exact q
  | true =>
    obtain ⟨ds, rfl⟩ := isT_tup ht
    obtain ⟨a, xs, rfl, hs, ha⟩ := dp_tup_inv hd
    have hl := dpAll_len ha
    refine iteF ⟨_, rfl, a, xs, rfl, .inr hs, rfl, _, rfl, ?_⟩
    by_cases h3 : ds.length = 3
    · have c : V.int ((xs.length : Nat) : Int) = V.int 3 := by rw [hl, h3]; rfl
      refine iteNS c ?_
      cases ha with
      | nil => cases h3
      | cons h0 t1 =>
        cases t1 with
        | nil => cases h3
        | cons h1 t2 =>
          cases t2 with
          | nil => cases h3
          | cons h2 t3 =>
            cases t3 with
            | cons _ _ => simp at h3
            | nil =>
              rename_i x0 d0 x1 d1 x2 d2
              have lm := lay_mem (lay_tup ld)
              refine ⟨_, rfl, a, _, rfl, hs, rfl, _, _, rfl, _, _, rfl, _, _, rfl, rfl, ?_⟩
              refine ⟨_, rfl, d0, vars, T.aV, rfl, h0, lm _ (by simp), T.kV _, by decide +kernel, _, rfl, ?_⟩
              have e : isCond (.tuple [d0, d1, d2]) = (inS d0 vars && inS d1 signs && isTerm d2) := rfl
              rw [e] at q
              cases c1 : inS d0 vars with
              | false => rw [c1] at q; exact iteF q
              | true =>
                refine iteT ⟨_, rfl, d1, signs, T.aC, rfl, h1, lm _ (by simp), T.kC _, by decide +kernel, _, rfl, ?_⟩
                cases c2 : inS d1 signs with
                | false => rw [c1, c2] at q; exact iteF q
                | true =>
                  rw [c1, c2] at q
                  exact iteT ⟨_, rfl, _, d2, rfl, h2, lm _ (by simp), q⟩
    · refine ite2 (fun _ => ?_) (fun c => absurd ?_ c)
      · have e : isCond (.tuple ds) = false := by
          match ds, h3 with
          | [], _ => rfl
          | [_], _ => rfl
          | [_, _], _ => rfl
          | [_, _, _], h => exact absurd rfl h
          | _ :: _ :: _ :: _ :: _, _ => rfl
        rw [e] at q
        exact q
      · rw [Bool.not_eq_true', decide_eq_false_iff_not]
        intro z
        have z' : ((xs.length : Nat) : Int) = 3 := by injection z
        omega
end
section
variable {P : Program} {w : World} {K : PySem.W.Frag} {mg : Str → Option Value} {base : Heap}
theorem scPart : FnScope ["thing", "role"] ["thing", "role"] (defScope sPart) := ⟨rfl, rfl, rfl, by decide +kernel, rfl, by decide +kernel, by decide +kernel⟩
theorem ok_part {f : Addr} {fd : FuncData} (F : Fun K "is_part" "is_part" sPart f fd) (T : Gs K mg) (CI : Cal P w K mg base 2 "is_integer_from_to" ["thing", "least", "greatest"] (spInt K)) (CT : Cal P w K mg base 3 "is_term" ["thing"] (sp1 isTerm K)) :
    FnOk P w K mg base CX0 4 f fd ["thing", "role"] (spPart K) := by
  refine F.ok scPart (fun vs H Q E h => ?_) (fun cdv A outer s H vs Q E hr h => ?_)
  · obtain ⟨v, d, r, rfl, _⟩ := h
    rfl
  obtain ⟨v, d, r, rfl, hd, ld, q⟩ := h
  have hr1 : Room 2 _ := hr.mono (by decide)
  refine ⟨_, pss_cons (ps_if (pt_cmpR op_eq (pv 1) pe_str (nomark _)) (pss_one (ps_ret (pe_cmpR (op_inS (hu65 hr)) (pv 0) (pe_gref rfl T.mV) (by rfl)))) pss_nil)
    (pss_cons (ps_if (pt_cmpR op_eq (pv 1) pe_str (nomark _)) (pss_one (ps_ret (pe_call CT.G hr rfl CT.m CT.kp CT.b .nil pass0 (pa_cons (pv 0) pa_nil)))) pss_nil)
    (pss_cons (ps_if (pt_cmpR op_eq (pv 1) pe_str (nomark _)) (pss_one (ps_ret (pe_cmpR (op_inS (hu65 hr)) (pv 0) (pe_gref rfl T.mA) (by rfl)))) pss_nil)
    (pss_cons (ps_if (pt_cmpR op_eq (pv 1) pe_str (nomark _)) (pss_one (ps_ret (pe_call CI.G hr1 rfl CI.m CI.kp CI.b .nil pass0 (pa_cons (pv 0) (pa_cons pe_int (pa_cons (pe_gint rfl T.mL) pa_nil)))))) pss_nil)
    (pss_cons (ps_if (pt_cmpR op_eq (pv 1) pe_str (nomark _)) (pss_one (ps_ret (pe_call CI.G hr1 rfl CI.m CI.kp CI.b .nil pass0 (pa_cons (pv 0) (pa_cons pe_int (pa_cons pe_int pa_nil)))))) pss_nil)
    (pss_one (ps_ret (pe_call CI.G hr1 rfl CI.m CI.kp CI.b .nil pass0 (pa_cons (pv 0) (pa_cons pe_int (pa_cons (pe_gint rfl T.mG) pa_nil)))))))))), ?_⟩
  have ne : ∀ {z : Str}, ¬ decide (V.str r = V.str z) = true → ¬ r = z := fun c e => c (decide_eq_true (by rw [e]))
  have eq : ∀ {z : Str}, decide (V.str r = V.str z) = true → r = z := fun c => by
    have c' := of_decide_eq_true c
    injection c'
  unfold isPart at q
  refine ⟨_, rfl, rfl, _, rfl, ite2 (fun c => ?_) (fun c => ?_)⟩
  · rw [if_pos (eq c)] at q
    exact ⟨_, rfl, d, vars, T.aV, rfl, hd, ld, T.kV _, by decide +kernel, q⟩
  rw [if_neg (ne c)] at q
  refine ⟨_, rfl, rfl, _, rfl, ite2 (fun c => ?_) (fun c => ?_)⟩
  · rw [if_pos (eq c)] at q
    exact ⟨_, rfl, v, d, rfl, hd, ld, q⟩
  rw [if_neg (ne c)] at q
  refine ⟨_, rfl, rfl, _, rfl, ite2 (fun c => ?_) (fun c => ?_)⟩
  · rw [if_pos (eq c)] at q
    exact ⟨_, rfl, d, asks, T.aA, rfl, hd, ld, T.kA _, by decide +kernel, q⟩
  rw [if_neg (ne c)] at q
  refine ⟨_, rfl, rfl, _, rfl, ite2 (fun c => ?_) (fun c => ?_)⟩
  · rw [if_pos (eq c)] at q
    exact ⟨_, rfl, v, d, _, _, rfl, hd, q⟩
  rw [if_neg (ne c)] at q
  refine ⟨_, rfl, rfl, _, rfl, ite2 (fun c => ?_) (fun c => ?_)⟩
  · rw [if_pos (eq c)] at q
    exact ⟨_, rfl, v, d, _, _, rfl, hd, q⟩
  rw [if_neg (ne c)] at q
  exact ⟨_, rfl, v, d, _, _, rfl, hd, q⟩
theorem scWord : FnScope ["thing"] ["thing"] (defScope sWord) := ⟨rfl, rfl, rfl, by decide +kernel, rfl, by decide +kernel, by decide +kernel⟩
theorem ok_word {f : Addr} {fd : FuncData} (F : Fun K "word_of" "word_of" sWord f fd) (T : Gs K mg) : FnOk P w K mg base CX0 1 f fd ["thing"] (spWord K) := by
  refine F.ok scWord (fun vs H Q E h => ?_) (fun cdv A outer s H vs Q E hr h => ?_)
  · obtain ⟨v, d, rfl, _⟩ := h
    rfl
  obtain ⟨v, d, rfl, hd, q⟩ := h
  refine ⟨_, pss_cons (ps_if (PW.pt (pw_and (pt_val (pe_callB call_isi (by rfl) T.isi (by decide +kernel) (pa_cons (pv 0) (pa_cons (pe_bltn (v := .ty "tuple") (by rfl) T.tup (by decide +kernel) rfl) pa_nil))))
      (pw_and (pt_cmpR op_gt (pe_callB call_len_seq (by rfl) T.len PySem.boot_len (pa_cons (pv 0) pa_nil)) pe_int (nomark _))
      (pw_and1 (pt_val (pe_callB call_isi (by rfl) T.isi (by decide +kernel) (pa_cons (pe_ix ix_tup (pv 0) pe_int (fun _ _ => rfl)) (pa_cons (pe_bltn (v := .ty "str") (by rfl) T.str (by decide +kernel) rfl) pa_nil))))))))
      (pss_one (ps_ret (pe_ix ix_tup (pv 0) pe_int (fun _ _ => rfl)))) pss_nil) (pss_one (ps_ret pe_non)), ?_⟩
  refine ⟨_, rfl, v, .ty "tuple", _, _, _, rfl, .ty _, dp_ty hd, kit_isT d (by simp) (dp_nd hd), _, rfl, ?_⟩
  cases ht : isT d "tuple" with
  | false =>
    refine iteF (iteF ?_)
    have e : wordOf d = none := by cases d <;> first | rfl | (simp [isT, tyN] at ht)
    rw [e] at q
    exact q
  | true =>
    obtain ⟨ds, rfl⟩ := isT_tup ht
    obtain ⟨a, xs, rfl, hs, ha⟩ := dp_tup_inv hd
    refine iteT ⟨_, rfl, a, xs, rfl, .inr hs, _, _, rfl, rfl, _, rfl, ?_⟩
    cases ha with
    | nil => exact iteF (iteF q)
    | cons h0 t =>
      rename_i x0 xr d0 dr
      have c : decide ((0 : Int) < (((x0 :: xr).length : Nat) : Int)) = true := decide_eq_true (by rw [List.length_cons]; omega)
      rw [c]
      refine iteT ⟨_, rfl, a, _, _, _, rfl, rfl, hs, atI_nat (j := 0) rfl, x0, .ty "str", _, _, _, rfl, .ty _, dp_ty h0, kit_isT d0 (by simp) (dp_nd h0), _, rfl, ?_⟩
      cases hz : isT d0 "str" with
      | false =>
        refine iteF ?_
        have e : wordOf (.tuple (d0 :: dr)) = none := by cases d0 <;> first | rfl | (simp [isT, tyN] at hz)
        rw [e] at q
        exact q
      | true =>
        obtain ⟨z, rfl⟩ := isT_str hz
        cases h0
        exact iteT ⟨_, rfl, a, _, _, _, rfl, rfl, hs, atI_nat (j := 0) rfl, q⟩
end
end My

namespace My
open PySem L2 PyProof.Rows
/-! ### a written dict with text keys, asked by a text or by None -/
inductive Ents : List DictEntry → List (Str × V) → Prop
  | nil : Ents [] []
  | cons {h : Int} {x : Str} {t : Tok} {u : Value} {v : V} {r : List DictEntry} {rs : List (Str × V)} : RelV v u → Ents r rs → Ents (⟨h, .str x t, u⟩ :: r) ((x, v) :: rs)
def lookT (tab : List (Str × V)) (z : Str) : Option V := (tab.find? fun p => p.1 == z).map (·.2)
theorem ents_find : ∀ {l : List DictEntry} {tab : List (Str × V)}, Ents l tab → ∀ z : Str,
    (∃ (e : DictEntry) (v : V), l.find? (fun d => d.key.isStr z) = some e ∧ lookT tab z = some v ∧ RelV v e.val) ∨ (l.find? (fun d => d.key.isStr z) = none ∧ lookT tab z = none)
  | _, _, .nil, z => .inr ⟨rfl, rfl⟩
  | _, _, .cons (x := x) (h := h) (t := t) (u := u) (v := v) (r := l0) (rs := rs) rv r, z => by
    have ih := ents_find r z
    by_cases c : (x == z) = true
    · refine .inl ⟨⟨h, .str x t, u⟩, v, ?_, ?_, rv⟩
      · rw [List.find?_cons_of_pos]
        exact c
      · unfold lookT
        rw [List.find?_cons_of_pos (by exact c)]
        rfl
    · have c1 : List.find? (fun d : DictEntry => d.key.isStr z) (⟨h, .str x t, u⟩ :: l0) = l0.find? (fun d : DictEntry => d.key.isStr z) := List.find?_cons_of_neg (by exact c)
      have c2 : lookT ((x, v) :: rs) z = lookT rs z := by
        unfold lookT
        rw [List.find?_cons_of_neg (by exact c)]
      rw [c2]
      rcases ih with ⟨e, v', h1, h2, h3⟩ | ⟨h1, h2⟩
      · exact .inl ⟨e, v', c1.trans h1, h2, h3⟩
      · exact .inr ⟨c1.trans h1, h2⟩
structure KTab (K : PySem.W.Frag) (w : World) (d : Addr) (tab : List (Str × V)) : Prop where
  ex : ∃ es n, K.lookup d = some ⟨.type "dict", none, .dict es n, #[]⟩ ∧ PySem.W.KeysLit w.params es.toList ∧ Ents es.toList tab
  low : (d == sysModules) = false
theorem findBy_tab {es : Array DictEntry} {tab : List (Str × V)} (E : Ents es.toList tab) (z : Str) :
    (∃ u v, findBy Value.isStrOf es z = some u ∧ lookT tab z = some v ∧ RelV v u) ∨ (findBy Value.isStrOf es z = none ∧ lookT tab z = none) := by
  obtain ⟨l⟩ := es
  have q : (fun d : DictEntry => Value.isStrOf z d.key) = fun d => d.key.isStr z := funext fun d => (PySem.W.isStr_of z d.key).symm
  unfold findBy
  rw [List.find?_toArray, q]
  rcases ents_find E z with ⟨e, v, h1, h2, h3⟩ | ⟨h1, h2⟩
  · exact .inl ⟨e.val, v, by rw [show List.find? (fun d : DictEntry => d.key.isStr z) l = some e from h1]; rfl, h2, h3⟩
  · exact .inr ⟨by rw [show List.find? (fun d : DictEntry => d.key.isStr z) l = none from h1]; rfl, h2⟩
theorem none_mapK {P : Program} {w : World} {K : PySem.W.Frag} {h : Heap} {a : Addr} {es : Array DictEntry} {n : Nat} (X : K.In h) (hl : K.lookup a = some ⟨.type "dict", none, .dict es n, #[]⟩) (hk : PySem.W.KeysLit w.params es.toList) :
    ∃ f, h.MapOf (noneKind P w) a f ∧ f none = none := by
  refine ⟨fun k => findBy (noneKind P w).is es k, ⟨_, es, n, X _ _ hl, ⟨rfl, rfl, rfl⟩, rfl, fun e he => ?_, fun k => rfl⟩, ?_⟩
  · obtain ⟨x, t, e1, e2⟩ := hk.all e (Array.mem_toList_iff.mpr he)
    refine ⟨some (.inr x), ?_, e2⟩
    rw [e1]
    exact strKind_is P w x t
  · have q : (es.find? fun e => nkIs none e.key) = none := by
      rw [Array.find?_eq_none]
      intro e he hq
      obtain ⟨x, t, e1, _⟩ := hk.all e (Array.mem_toList_iff.mpr he)
      rw [e1] at hq
      exact nomatch (show false = true from hq)
    show (es.find? fun e => nkIs none e.key).map (·.val) = none
    rw [q] <;> rfl
def getT (tab : List (Str × V)) (wd : Option Str) : Option V := wd.bind (lookT tab)
section
variable {X : Cx}
def rInK (K : PySem.W.Frag) (w : World) (neg : Bool) : R2 := fun x y H Q => ∃ (d : Addr) (tab : List (Str × V)) (wd : Option Str), y = .ref d ∧ KTab K w d tab ∧ x = wV wd ∧ Q (.bl (if neg then !(getT tab wd).isSome else (getT tab wd).isSome)) H
theorem op_inK : OpR X (compareOp .In) (rInK X.K X.w false) := by
  intro pins s σ H x y v u Q I rx ry h
  obtain ⟨d, tab, wd, rfl, ⟨⟨es, n, hl, hk, he⟩, low⟩, rfl, q⟩ := h
  cases ry
  cases wd with
  | none =>
    cases rx
    obtain ⟨f, hm, hf⟩ := none_mapK (P := X.prog) (w := X.w) I.kIn hl hk
    refine wpAny_in_of (show (noneKind X.prog X.w).is none .none = true from rfl) low hm ?_
    rw [hf]
    exact ⟨.bl _, H, I.tok _, rfl, q⟩
  | some z =>
    obtain ⟨t, rfl⟩ := rx
    refine wpAny_in_of (PySem.strKind_is X.prog X.w z t) low (PySem.W.mapOf_K (prog := X.prog) I.kIn hl hk) ?_
    rcases findBy_tab he z with ⟨u, v, h1, h2, h3⟩ | ⟨h1, h2⟩
    · rw [h1]
      refine ⟨.bl true, H, I.tok _, rfl, ?_⟩
      have e : (getT tab (some z)).isSome = true := by show (lookT tab z).isSome = true; rw [h2]; rfl
      rw [e] at q
      exact q
    · rw [h1]
      refine ⟨.bl false, H, I.tok _, rfl, ?_⟩
      have e : (getT tab (some z)).isSome = false := by show (lookT tab z).isSome = false; rw [h2]; rfl
      rw [e] at q
      exact q
theorem ktab_ix {K : PySem.W.Frag} {w : World} {d : Addr} {tab : List (Str × V)} {z : Str} {v : V} (T : KTab K w d tab) (h : lookT tab z = some v) : KDct K w d z v := by
  obtain ⟨⟨es, n, hl, hk, he⟩, low⟩ := T
  rcases ents_find he z with ⟨e, v', h1, h2, h3⟩ | ⟨h1, h2⟩
  · rw [h] at h2
    cases h2
    refine ⟨es, n, e.val, hl, hk, ?_, h3⟩
    unfold PySem.W.nsIn
    rw [hl]
    dsimp only
    rw [h1]
  · rw [h] at h2
    cases h2
def tGetK (K : PySem.W.Frag) (w : World) (to : TE) (t : TA) : TE := fun σ H Q => to σ H fun x H1 => ∃ (d : Addr) (tab : List (Str × V)), x = .ref d ∧ KTab K w d tab ∧ t σ H1 fun ys H2 => ∃ wd : Option Str, ys = [wV wd] ∧ Q ((getT tab wd).getD .non) H2
variable {o e : Expr} {es : List Expr} {to : TE} {t : TA} {apos cpos : Pos}
theorem pe_getK (ho : PE X o to) (ha : PA X [e] t)
    (hbase : attributeBase o "get" X.env (eval o X.env) = eval o X.env := by rfl)
    (hfew : ((backTo cpos (starEach [e] X.env)).all (fun x => !x.1) && (backToKw cpos (keywordEach [] X.env)).all (fun x => x.1.isSome)
      && decide ([e].length + ([] : List Keyword).length + (if ([] : List Keyword).isEmpty then 0 else 1) < 30)) = true := by rfl)
    (hline : (apos.endLine == cpos.line) = true := by rfl) (hs : starEach [e] X.env = (false, eval e X.env) :: starEach [] X.env := by rfl) (hplain : (backTo cpos (starEach [] X.env)).any (·.1) = false := by rfl) :
    PE X (.Call (.Attribute o "get" apos) [e] [] cpos) (tGetK X.K X.w to t) := by
  refine ⟨fun pins s σ H Q I h => ?_⟩
  refine wpAny_Call_method_late hbase hfew hline rfl (thn (ho.run pins s σ H _ I h) fun v s1 ⟨x, H1, I1, r1, d, tab, ex, KT, q1⟩ => ?_)
  obtain ⟨⟨es, n, hl, hk, he⟩, low⟩ := KT
  subst ex
  obtain rfl : v = Value.ref d := r1
  have hm0 := PySem.W.mapOf_K (prog := X.prog) (w := X.w) I1.kIn hl hk
  refine ⟨"dict", "dict.get", PySem.F.plainAttrs_dict, PySem.F.slot_dict_get, PySem.F.type_dict_get, hm0.typeIs, fun a e2 => ?_, ?_⟩
  · cases e2
    exact ⟨_, I1.kIn _ _ hl, rfl⟩
  have hA := ha.run cpos pins s1 σ H1 _ I1 q1
  rw [hs] at hA ⊢
  refine Calls.callWith_builtin (by show (false || (backTo cpos (starEach [] X.env)).any (·.1)) = false; rw [hplain] <;> rfl) (Calls.evalArgs_plain ?_)
  refine thn hA fun us s2 ⟨vs, H2, I2, r2, wd, ev, q2⟩ => ?_
  subst ev
  obtain ⟨u, rfl, ru⟩ := Vals.one r2
  have hm := PySem.W.mapOf_K (prog := X.prog) (w := X.w) I2.kIn hl hk
  cases wd with
  | none =>
    cases ru
    obtain ⟨f, hmn, hf⟩ := none_mapK (P := X.prog) (w := X.w) I2.kIn hl hk
    refine call_meetsIn PySem.F.slot_dict_get hm.typeIs PySem.F.entry_dict_get (PySem.F.args_dict_get_2 _ _) (meets_dict_get (noneKind X.prog X.w) d (show (noneKind X.prog X.w).is none .none = true from rfl) low) ⟨f, hmn, ?_⟩
    rw [hf]
    exact ⟨.non, H2, I2.tok _, rfl, q2⟩
  | some z =>
    obtain ⟨t, rfl⟩ := ru
    refine call_meetsIn PySem.F.slot_dict_get hm.typeIs PySem.F.entry_dict_get (PySem.F.args_dict_get_2 _ _) (meets_dict_get (strKind X.prog X.w) d (PySem.strKind_is X.prog X.w z t) low) ⟨_, hm, ?_⟩
    rcases findBy_tab he z with ⟨u, v, h1, h2, h3⟩ | ⟨h1, h2⟩
    · rw [h1]
      have e : getT tab (some z) = some v := h2
      rw [e] at q2
      exact ⟨v, H2, I2.tok _, h3, q2⟩
    · rw [h1]
      have e : getT tab (some z) = none := h2
      rw [e] at q2
      exact ⟨.non, H2, I2.tok _, rfl, q2⟩
end
theorem lookT_eq {x : Str} {v : V} {r : List (Str × V)} : lookT ((x, v) :: r) x = some v := by
  unfold lookT
  rw [List.find?_cons_of_pos (by exact beq_self_eq_true x)]
  rfl
theorem lookT_ne {x z : Str} {v : V} {r : List (Str × V)} (h : ¬ z = x) : lookT ((x, v) :: r) z = lookT r z := by
  unfold lookT
  rw [List.find?_cons_of_neg (by intro c; exact h (eq_of_beq (show (x == z) = true from c)).symm)]
structure Gd (K : PySem.W.Frag) (w : World) (mg : Str → Option Value) where
  aB : Addr
  mB : mg "BODIES" = some (.ref aB)
  tB : KTab K w aB [("if", .int 2), ("while", .int 1)]
  aS : Addr
  r1 : Addr
  r2 : Addr
  r3 : Addr
  mS : mg "SHARED_ROLES" = some (.ref aS)
  tS : KTab K w aS [("set", .ref r1), ("add", .ref r2), ("wait", .ref r3)]
  k1 : ∀ H, SqT K H r1 ((["variable", "value"] : List Str).map V.str)
  k2 : ∀ H, SqT K H r2 ((["variable", "term"] : List Str).map V.str)
  k3 : ∀ H, SqT K H r3 ((["steps"] : List Str).map V.str)
  aT : Addr
  r4 : Addr
  r5 : Addr
  mT : mg "TELLER_ROLES" = some (.ref aT)
  tT : KTab K w aT [("ask", .ref r4), ("answer", .ref r5)]
  k4 : ∀ H, SqT K H r4 ((["sign", "term", "variable"] : List Str).map V.str)
  k5 : ∀ H, SqT K H r5 ((["answer"] : List Str).map V.str)
  aC : Addr
  r6 : Addr
  r7 : Addr
  mC : mg "COLLECTOR_ROLES" = some (.ref aC)
  tC : KTab K w aC [("grow", .ref r6), ("list", .ref r7)]
  k6 : ∀ H, SqT K H r6 ((["term"] : List Str).map V.str)
  k7 : ∀ H, SqT K H r7 ((["term"] : List Str).map V.str)
def rolesZ (z kind : Str) : Option (List Str) :=
  if z = "set" then some ["variable", "value"] else if z = "add" then some ["variable", "term"] else if z = "wait" then some ["steps"]
  else if kind = "teller" then (if z = "ask" then some ["sign", "term", "variable"] else if z = "answer" then some ["answer"] else none)
  else (if z = "grow" then some ["term"] else if z = "list" then some ["term"] else none)
def rolesOf (wd : Option Str) (kind : Str) : Option (List Str) := wd.bind fun z => rolesZ z kind
def allParts (ps : List PyData) (rs : List Str) : Bool := ((ps.zip rs).map fun p => isPart p.1 p.2).all id
def isPlain (d : PyData) (kind : Str) : Bool := match d with
  | .tuple (.str z :: ps) => (match rolesZ z kind with
    | some rs => decide (ps.length = rs.length) && allParts ps rs
    | none => false)
  | _ => false
def cond3 : List PyData → Bool
  | [c, _, _] => isCond c
  | _ => false
def cond2 : List PyData → Bool
  | [c, _] => isCond c
  | _ => false
/-- a statement, whatever its bodies are -/
def isOut (d : PyData) (kind : Str) : Bool := match d with
  | .tuple (.str z :: ps) => if z = "if" then cond3 ps else if z = "while" then cond2 ps else isPlain d kind
  | _ => false
def bodsOf (d : PyData) : List PyData := match d with
  | .tuple (.str z :: ps) => if z = "if" ∨ z = "while" then ps.drop 1 else []
  | _ => []
def spRoles (K : PySem.W.Frag) : Sp := fun vs H Q _ => ∃ (wd : Option Str) (kind : Str), vs = [wV wd, .str kind] ∧ (rolesOf wd kind = none → Q .non H) ∧
  (∀ rs a, rolesOf wd kind = some rs → (∀ H, SqT K H a (rs.map V.str)) → Q (.ref a) H)
def sp2 (f : PyData → Str → Bool) (K : PySem.W.Frag) : Sp := fun vs H Q _ => ∃ (v : V) (d : PyData) (kind : Str), vs = [v, .str kind] ∧ Dp K H v d ∧ Lay d ∧ ∀ H', Same H H' → Q (.bl (f d kind)) H'
section
variable {P : Program} {w : World} {K : PySem.W.Frag} {mg : Str → Option Value} {base : Heap}
theorem scRoles : FnScope ["word", "kind"] ["word", "kind"] (defScope sRoles) := ⟨rfl, rfl, rfl, by decide +kernel, rfl, by decide +kernel, by decide +kernel⟩
theorem ok_roles {f : Addr} {fd : FuncData} (F : Fun K "roles_of" "roles_of" sRoles f fd) (D : Gd K w mg) : FnOk P w K mg base CX0 1 f fd ["word", "kind"] (spRoles K) := by
  refine F.ok scRoles (fun vs H Q E h => ?_) (fun cdv A outer s H vs Q E hr h => ?_)
  · obtain ⟨wd, kind, rfl, _⟩ := h
    rfl
  obtain ⟨wd, kind, rfl, q0, q1⟩ := h
  refine ⟨_, pss_cons (ps_if (pt_cmpR op_inK (pv 0) (pe_gref rfl D.mS) (by rfl)) (pss_one (ps_ret (pe_ix ix_kdict (pe_gref rfl D.mS) (pv 0) (fun _ _ => rfl)))) pss_nil)
    (pss_cons (ps_if (pt_cmpR op_eq (pv 1) pe_str (nomark _)) (pss_one (ps_ret (pe_getK (pe_gref rfl D.mT) (pa_cons (pv 0) pa_nil)))) pss_nil)
    (pss_one (ps_ret (pe_getK (pe_gref rfl D.mC) (pa_cons (pv 0) pa_nil))))), ?_⟩
  refine ⟨_, rfl, D.aS, _, wd, rfl, D.tS, rfl, _, rfl, ?_⟩
  have keq : ∀ {z : Str}, decide (V.str kind = V.str z) = true → kind = z := fun c => by
    have c' := of_decide_eq_true c
    injection c'
  have kne : ∀ {z : Str}, ¬ decide (V.str kind = V.str z) = true → ¬ kind = z := fun c e => c (decide_eq_true (by rw [e]))
  cases wd with
  | none =>
    refine iteF ?_
    refine ⟨_, rfl, rfl, _, rfl, ite2 (fun c => ?_) (fun c => ?_)⟩
    · exact ⟨D.aT, _, rfl, D.tT, _, rfl, none, rfl, q0 rfl⟩
    · exact ⟨D.aC, _, rfl, D.tC, _, rfl, none, rfl, q0 rfl⟩
  | some z =>
    have eG : ∀ tab, getT tab (some z) = lookT tab z := fun _ => rfl
    rw [eG]
    have eR : rolesOf (some z) kind = rolesZ z kind := rfl
    rw [eR] at q0
    have q1' : ∀ rs a, rolesZ z kind = some rs → (∀ H, SqT K H a (rs.map V.str)) → Q (.ref a) H := q1
    unfold rolesZ at q0 q1'
    by_cases c1 : z = "set"
    · subst c1
      rw [lookT_eq]
      exact iteT ⟨_, rfl, D.aS, _, _, rfl, rfl, ktab_ix D.tS lookT_eq, q1' _ _ (if_pos rfl) D.k1⟩
    rw [lookT_ne c1]
    rw [if_neg c1] at q0 q1'
    by_cases c2 : z = "add"
    · subst c2
      rw [lookT_eq]
      exact iteT ⟨_, rfl, D.aS, _, _, rfl, rfl, ktab_ix D.tS (by rw [lookT_ne c1, lookT_eq]), q1' _ _ (if_pos rfl) D.k2⟩
    rw [lookT_ne c2]
    rw [if_neg c2] at q0 q1'
    by_cases c3 : z = "wait"
    · subst c3
      rw [lookT_eq]
      exact iteT ⟨_, rfl, D.aS, _, _, rfl, rfl, ktab_ix D.tS (by rw [lookT_ne c1, lookT_ne c2, lookT_eq]), q1' _ _ (if_pos rfl) D.k3⟩
    rw [lookT_ne c3]
    rw [if_neg c3] at q0 q1'
    refine iteF ?_
    refine ⟨_, rfl, rfl, _, rfl, ite2 (fun c => ?_) (fun c => ?_)⟩
    · rw [if_pos (keq c)] at q0 q1'
      refine ⟨D.aT, _, rfl, D.tT, _, rfl, some z, rfl, ?_⟩
      rw [eG]
      by_cases c4 : z = "ask"
      · subst c4
        rw [lookT_eq]
        exact q1' _ _ (if_pos rfl) D.k4
      rw [lookT_ne c4]
      rw [if_neg c4] at q0 q1'
      by_cases c5 : z = "answer"
      · subst c5
        rw [lookT_eq]
        exact q1' _ _ (if_pos rfl) D.k5
      rw [lookT_ne c5]
      rw [if_neg c5] at q0 q1'
      exact q0 rfl
    · rw [if_neg (kne c)] at q0 q1'
      refine ⟨D.aC, _, rfl, D.tC, _, rfl, some z, rfl, ?_⟩
      rw [eG]
      by_cases c4 : z = "grow"
      · subst c4
        rw [lookT_eq]
        exact q1' _ _ (if_pos rfl) D.k6
      rw [lookT_ne c4]
      rw [if_neg c4] at q0 q1'
      by_cases c5 : z = "list"
      · subst c5
        rw [lookT_eq]
        exact q1' _ _ (if_pos rfl) D.k7
      rw [lookT_ne c5]
      rw [if_neg c5] at q0 q1'
      exact q0 rfl
end
/-! ### a comprehension over zip of two tuples -/
theorem lc_zipT {K : PySem.W.Frag} {a b : Addr} {xs ys : List V} {g : TG} {tt : TT} {te : TE} {vs : List Nat} {σ : L2.St} {H1 : Hp} {D : Addr} {Qd : Hp → Prop} (hl : xs.length = ys.length) (Pv : Nat → Hp → Prop) (h0 : Pv 0 (upd H1 D (.lst []))) (hq : ∀ i H, Pv i H → SqT K H a xs ∧ SqT K H b ys)
    (hs : ∀ i x y T H, xs[i]? = some x → ys[i]? = some y → Pv i H → H T = none → g (.ref T) (wipe σ vs) (upd H T (.tup [x, y])) fun σ2 H2 => wipe σ2 vs = wipe σ vs ∧ tt σ2 H2 fun b H3 =>
      if b = true then te σ2 H3 fun y H4 => ∃ acc, H4 D = some (.lst acc) ∧ acc.length < sizeLine ∧ Pv (i + 1) (upd H4 D (.lst (acc ++ [y]))) else Pv (i + 1) H3) (hd : ∀ H, Pv xs.length H → Qd H) :
    ∃ W : Nat → Nat → Hp → Prop, (∃ m, W 0 m (upd H1 D (.lst []))) ∧ ∀ i m H, W i m H →
      ((RZ.ItzT K a b).stop i H ∧ Qd H) ∨ ((RZ.ItzT K a b).go i H ∧ ∃ Nx : Hp → Prop, (∀ H', Nx H' → ∃ m', m' < m ∧ W (i + 1) m' H') ∧ ∀ x H', (RZ.ItzT K a b).yld i H x H' → g x (wipe σ vs) H' fun σ2 H2 => wipe σ2 vs = wipe σ vs ∧ tt σ2 H2 fun b H3 =>
        if b = true then te σ2 H3 fun y H4 => ∃ acc, H4 D = some (.lst acc) ∧ acc.length < sizeLine ∧ Nx (upd H4 D (.lst (acc ++ [y]))) else Nx H3) := by
  refine ⟨fun i m H => m = xs.length - i ∧ i ≤ xs.length ∧ Pv i H, ⟨xs.length, by simp, Nat.zero_le _, h0⟩, ?_⟩
  rintro i m H ⟨rfl, hi, p⟩
  obtain ⟨q1, q2⟩ := hq i H p
  by_cases hlt : i < xs.length
  · have hlt2 : i < ys.length := by omega
    refine .inr ⟨⟨xs, ys, xs[i], ys[i], q1, q2, by simp [hlt], by simp [hlt2]⟩, Pv (i + 1), fun H' p' => ⟨xs.length - (i + 1), by omega, rfl, hlt, p'⟩, fun v H' y => ?_⟩
    obtain ⟨T, x, y, rfl, hT, rfl, hx, hy⟩ := y
    exact hs i x y T H (hx xs q1) (hy ys q2) p hT
  · have e : i = xs.length := by omega
    subst e
    exact .inl ⟨⟨xs, ys, q1, q2, .inl (Nat.le_refl _)⟩, hd H p⟩
theorem same_upd {H H' : Hp} {D : Addr} (e : Same H H') (n : H D = none) (o : HO) : Same H (upd H' D o) := fun b u q => by
  rw [upd_ne (ne_of_none q n)]
  exact e _ _ q
def partsB (ps : List PyData) (rs : List Str) : List Bool := (ps.zip rs).map fun p => isPart p.1 p.2
theorem word_inv {d : PyData} {z : Str} (h : wordOf d = some z) : ∃ ps, d = .tuple (.str z :: ps) := by
  match d, h with
  | .tuple (.str x :: ps), h => cases h; exact ⟨ps, rfl⟩
theorem plain_none {d : PyData} {kind : Str} (h : rolesOf (wordOf d) kind = none) : isPlain d kind = false := by
  match d, h with
  | .tuple (.str x :: ps), h =>
    have h' : rolesZ x kind = none := h
    show (match rolesZ x kind with | some rs => decide (ps.length = rs.length) && allParts ps rs | none => false) = false
    rw [h']
  | .tuple [], _ => rfl
  | .tuple (.none :: _), _ => rfl
  | .tuple (.bool _ :: _), _ => rfl
  | .tuple (.int _ :: _), _ => rfl
  | .tuple (.list _ :: _), _ => rfl
  | .tuple (.tuple _ :: _), _ => rfl
  | .tuple (.dict _ :: _), _ => rfl
  | .none, _ => rfl
  | .bool _, _ => rfl
  | .int _, _ => rfl
  | .str _, _ => rfl
  | .list _, _ => rfl
  | .dict _, _ => rfl
theorem plain_some {z kind : Str} {ps : List PyData} {rs : List Str} (h : rolesZ z kind = some rs) : isPlain (.tuple (.str z :: ps)) kind = (decide (ps.length = rs.length) && allParts ps rs) := by
  show (match rolesZ z kind with | some rs => decide (ps.length = rs.length) && allParts ps rs | none => false) = _
  rw [h]
theorem roles_short {z kind : Str} {rs : List Str} (h : rolesZ z kind = some rs) : rs.length ≤ 3 := by
  unfold rolesZ at h
  repeat' split at h
  all_goals first | (cases h; decide) | (cases h)
theorem cut1 (x : V) (xs : List V) : cutV (x :: xs) (some 1) none = xs := by
  have e : HT.sIx (x :: xs).length 0 (some 1) = 1 := by
    have := HT.sIx_nat (x :: xs).length 0 1
    rw [show ((1 : Nat) : Int) = 1 from rfl] at this
    rw [this, List.length_cons]
    omega
  unfold cutV
  rw [e, HT.sIx_none]
  simp
theorem not_whole1 (x : V) (xs : List V) : ¬ (HT.sIx (x :: xs).length 0 (some 1) = 0 ∧ HT.sIx (x :: xs).length (x :: xs).length none = (x :: xs).length) := by
  intro h
  have e : HT.sIx (x :: xs).length 0 (some 1) = 1 := by
    have := HT.sIx_nat (x :: xs).length 0 1
    rw [show ((1 : Nat) : Int) = 1 from rfl] at this
    rw [this, List.length_cons]
    omega
  rw [e] at h
  exact absurd h.1 (by decide)
section
variable {P : Program} {w : World} {K : PySem.W.Frag} {mg : Str → Option Value} {base : Heap}
theorem scPlain : FnScope ["thing", "kind", "roles", "part", "role"] ["thing", "kind"] (defScope sPlain) := ⟨rfl, rfl, rfl, by decide +kernel, rfl, by decide +kernel, by decide +kernel⟩
theorem ok_plain {f : Addr} {fd : FuncData} (F : Fun K "is_plain_statement" "is_plain_statement" sPlain f fd) (T : Gs K mg) (CW : Cal P w K mg base 1 "word_of" ["thing"] (spWord K)) (CR : Cal P w K mg base 1 "roles_of" ["word", "kind"] (spRoles K))
    (CP : Cal P w K mg base 4 "is_part" ["thing", "role"] (spPart K)) : FnOk P w K mg base CX0 5 f fd ["thing", "kind"] (sp2 isPlain K) := by
  refine F.ok scPlain (fun vs H Q E h => ?_) (fun cdv A outer s H vs Q E hr h => ?_)
  · obtain ⟨v, d, kind, rfl, _⟩ := h
    rfl
  obtain ⟨v, d, kind, rfl, hd, ld, q⟩ := h
  have hr1 : Room 1 _ := hr.mono (by decide)
  refine ⟨_, pss_cons (ps_set (i := 2) scPlain.nd rfl (.inl rfl) (pe_call CR.G hr1 rfl CR.m CR.kp CR.b .nil pass0 (pa_cons (pe_call CW.G hr1 rfl CW.m CW.kp CW.b .nil pass0 (pa_cons (pv 0) pa_nil)) (pa_cons (pv 1) pa_nil))))
    (pss_cons (ps_if (PW.pt (pw_or (pt_cmpR op_isN (pv 2) pe_non (nomark _)) (pw_or1 (pt_cmpR op_ne (pe_callB call_len_seq (by rfl) T.len PySem.boot_len (pa_cons (pv 0) pa_nil)) (pe_op op_add pe_int (pe_callB call_len_seq (by rfl) T.len PySem.boot_len (pa_cons (pv 2) pa_nil))) (nomark _)))))
      (pss_one (ps_ret pe_bl)) pss_nil)
    (pss_one (ps_ret (pe_callB (cr_all rfl) (by rfl) T.all (by decide +kernel) (pa_cons
      (pe_lc (own := [("part", 3), ("role", 4)]) (g := gTup K 2 (gCons (gName 3) (gCons (gName 4) gNil))) (tt := tYes) rfl scPlain.nd
        (RZ.pi_zipA (by rfl) T.zip (pa_cons (pe_slice sl_tup (pv 0) (po_some pe_int) po_none) (pa_cons (pv 2) pa_nil)))
        (blkOk_by (N := ["thing", "kind", "roles", "part", "role"]) (sc := defScope sPlain) (by decide +kernel))
        (fun _ _ _ _ _ => pg_tup (by rfl) (pgs_cons (pg_name (i := 3) scPlain.nd rfl (.inl rfl)) (pgs_cons (pg_name (i := 4) scPlain.nd rfl (.inl rfl)) pgs_nil)))
        (fun _ _ _ _ _ => pts_nil)
        (fun _ _ _ _ _ => pe_call CP.G hr rfl CP.m CP.kp CP.b .nil pass0 (pa_cons (pv 3) (pa_cons (pv 4) pa_nil)))) pa_nil))))), ?_⟩
  refine ⟨_, rfl, v, d, rfl, hd, _, rfl, wordOf d, kind, rfl, fun hn => ?_, fun rs a hs ka => ?_⟩
  · rw [plain_none hn] at q
    exact ⟨_, rfl, rfl, _, rfl, ite2 (fun _ => iteT (q H (Same.refl H))) (fun c => absurd (decide_eq_true rfl) c)⟩
  · refine ⟨_, rfl, rfl, _, rfl, ite2 (fun c => nomatch (of_decide_eq_true c)) (fun _ => ?_)⟩
    cases hw : wordOf d with
    | none => rw [hw] at hs; cases hs
    | some z =>
      obtain ⟨ps, rfl⟩ := word_inv hw
      have hs' : rolesZ z kind = some rs := by rw [hw] at hs; exact hs
      have h3 := roles_short hs'
      rw [plain_some hs'] at q
      obtain ⟨a0, xs, rfl, h0, ha⟩ := dp_tup_inv hd
      cases ha with
      | cons hz hp =>
        rename_i x0 xr
        have hl := dpAll_len hp
        refine ⟨_, rfl, a0, _, rfl, .inr h0, _, rfl, a, _, rfl, .inr (ka _), _, _, rfl, rfl, rfl, _, rfl, ?_⟩
        by_cases c : ps.length = rs.length
        · have c' : V.int (((x0 :: xr).length : Nat) : Int) = V.int (1 + ((rs.map V.str).length : Nat)) := by
            rw [List.length_cons, List.length_map, hl, c]
            congr 1
            omega
          refine iteNS c' ?_
          rw [decide_eq_true c, Bool.true_and] at q
          refine ⟨_, rfl, _, rfl, a0, _, rfl, h0, not_whole1 _ _, fun p np => ⟨_, rfl, p, a, _, _, rfl, .inr ⟨SqT.of upd_same, ka _, fun D nD => ?_⟩⟩⟩
          rw [cut1] at nD ⊢
          have g1 : Same H (upd H p (.tup xr)) := same_new np _
          refine lc_zipT (K := K) (a := p) (b := a) (xs := xr) (ys := rs.map V.str) (by rw [List.length_map]; omega)
            (fun i H' => Same (upd H p (.tup xr)) H' ∧ H' D = some (.lst (((partsB ps rs).take i).map V.bl))) ⟨same_upd (Same.refl _) nD _, upd_same⟩
            (fun i H' P => ⟨SqT.of (P.1 _ _ upd_same), ka _⟩) ?_ ?_
          · rintro i x y T H' hx hy ⟨s1, eD⟩ nT
            obtain ⟨di, hdi, hxd⟩ := dpAll_get hp hx
            rw [List.getElem?_map] at hy
            cases hri : rs[i]? with
            | none => rw [hri] at hy; cases hy
            | some ri =>
              rw [hri] at hy
              cases hy
              have sT : Same H' (upd H' T (.tup [x, V.str ri])) := same_new nT _
              have nDT : D ≠ T := ne_of_none eD nT
              refine ⟨T, _, rfl, SqT.of upd_same, rfl, _, _, rfl, _, _, rfl, rfl, rfl, ?_⟩
              refine ⟨_, rfl, _, rfl, x, di, ri, rfl, dp_mono (g1.trans (s1.trans sT)) _ _ hxd, ?_, _, sT _ _ eD, ?_, ?_, ?_⟩
              · exact lay_mem (lay_tup ld) _ (List.mem_cons_of_mem _ (List.mem_of_getElem? hdi))
              · rw [List.length_map, List.length_take, partsB, List.length_map, List.length_zip]
                exact Nat.lt_of_le_of_lt (by omega : _ ≤ 1000) (by decide)
              · exact same_upd (s1.trans sT) nD _
              · rw [upd_same]
                congr 2
                have hz : (ps.zip rs)[i]? = some (di, ri) := by rw [List.getElem?_zip_eq_some]; exact ⟨hdi, hri⟩
                have hm : (partsB ps rs)[i]? = some (isPart di ri) := by rw [partsB, List.getElem?_map, hz]; rfl
                have hil : i < (partsB ps rs).length := (List.getElem?_eq_some_iff.mp hm).1
                rw [← List.take_append_getElem hil, List.map_append]
                congr 1
                rw [(List.getElem?_eq_some_iff.mp hm).2]
                rfl
          · rintro H' ⟨s1, eD⟩
            refine ⟨D, partsB ps rs, rfl, SqL.of ?_, q _ (g1.trans s1)⟩
            rw [eD, List.take_of_length_le]
            rw [partsB, List.length_map, List.length_zip]
            omega
        · rw [decide_eq_false c, Bool.false_and] at q
          refine ite2 (fun _ => q H (Same.refl H)) (fun c2 => absurd ?_ c2)
          rw [Bool.not_eq_true', decide_eq_false_iff_not]
          intro z
          have z' : (((x0 :: xr).length : Nat) : Int) = 1 + ((rs.map V.str).length : Nat) := by injection z
          rw [List.length_cons, List.length_map] at z'
          omega
end
theorem out_none {d : PyData} {kind : Str} (h : wordOf d = none) : isOut d kind = isPlain d kind := by
  match d, h with
  | .tuple [], _ => rfl
  | .tuple (.none :: _), _ => rfl
  | .tuple (.bool _ :: _), _ => rfl
  | .tuple (.int _ :: _), _ => rfl
  | .tuple (.list _ :: _), _ => rfl
  | .tuple (.tuple _ :: _), _ => rfl
  | .tuple (.dict _ :: _), _ => rfl
  | .none, _ => rfl
  | .bool _, _ => rfl
  | .int _, _ => rfl
  | .str _, _ => rfl
  | .list _, _ => rfl
  | .dict _, _ => rfl
theorem if_while : ¬ (("while" : Str) = "if") := by decide +kernel
theorem out_if {kind : Str} {ps : List PyData} : isOut (.tuple (.str "if" :: ps)) kind = cond3 ps := by
  simp [isOut]
theorem out_while {kind : Str} {ps : List PyData} : isOut (.tuple (.str "while" :: ps)) kind = cond2 ps := by
  simp [isOut, if_while]
theorem out_else {z kind : Str} {ps : List PyData} (h1 : ¬ z = "if") (h2 : ¬ z = "while") : isOut (.tuple (.str z :: ps)) kind = isPlain (.tuple (.str z :: ps)) kind := by
  show (if z = "if" then _ else if z = "while" then _ else _) = _
  rw [if_neg h1, if_neg h2]
theorem cut2 (xs : List V) : cutV xs (some 2) none = xs.drop 2 := by
  have e := HT.sIx_nat xs.length 0 2
  rw [show ((2 : Nat) : Int) = 2 from rfl] at e
  unfold cutV
  rw [e, HT.sIx_none]
  by_cases h : 2 ≤ xs.length
  · rw [Nat.min_eq_left h, List.take_of_length_le (by rw [List.length_drop]; omega)]
  · rw [Nat.min_eq_right (by omega), List.drop_of_length_le (Nat.le_refl _), List.drop_of_length_le (by omega)]
    simp
theorem not_whole2 {xs : List V} (h : 0 < xs.length) : ¬ (HT.sIx xs.length 0 (some 2) = 0 ∧ HT.sIx xs.length xs.length none = xs.length) := by
  intro c
  have e := HT.sIx_nat xs.length 0 2
  rw [show ((2 : Nat) : Int) = 2 from rfl] at e
  rw [e] at c
  omega
theorem dpAll_drop {K : PySem.W.Frag} {H : Hp} : ∀ (n : Nat) {xs : List V} {ds : List PyData}, DpAll K H xs ds → DpAll K H (xs.drop n) (ds.drop n)
  | 0, _, _, h => h
  | n + 1, _, _, .nil => .nil
  | n + 1, _, _, .cons _ t => dpAll_drop n t
def spBods (K : PySem.W.Frag) : Sp := fun vs H Q _ => ∃ (v : V) (z : Str) (ps : List PyData) (H0 : Hp), vs = [v] ∧ Same H0 H ∧ Dp K H0 v (.tuple (.str z :: ps)) ∧
  ∀ H' b ys, Same H H' → SqT K H' b ys → DpAll K H0 ys (bodsOf (.tuple (.str z :: ps))) → Q (.ref b) H'
section
variable {P : Program} {w : World} {K : PySem.W.Frag} {mg : Str → Option Value} {base : Heap}
theorem scOut : FnScope ["thing", "kind", "word"] ["thing", "kind"] (defScope sOut) := ⟨rfl, rfl, rfl, by decide +kernel, rfl, by decide +kernel, by decide +kernel⟩
theorem ok_out {f : Addr} {fd : FuncData} (F : Fun K "is_outside_of_statement" "is_outside_of_statement" sOut f fd) (T : Gs K mg) (D : Gd K w mg) (CW : Cal P w K mg base 1 "word_of" ["thing"] (spWord K))
    (CC : Cal P w K mg base 4 "is_condition" ["thing"] (sp1 isCond K)) (CP : Cal P w K mg base 5 "is_plain_statement" ["thing", "kind"] (sp2 isPlain K)) : FnOk P w K mg base CX0 6 f fd ["thing", "kind"] (sp2 isOut K) := by
  refine F.ok scOut (fun vs H Q E h => ?_) (fun cdv A outer s H vs Q E hr h => ?_)
  · obtain ⟨v, d, kind, rfl, _⟩ := h
    rfl
  obtain ⟨v, d, kind, rfl, hd, ld, q⟩ := h
  have hr1 : Room 1 _ := hr.mono (by decide)
  have hr3 : Room 4 _ := hr.mono (by decide)
  refine ⟨_, pss_cons (ps_set (i := 2) scOut.nd rfl (.inl rfl) (pe_call CW.G hr1 rfl CW.m CW.kp CW.b .nil pass0 (pa_cons (pv 0) pa_nil)))
    (pss_cons (ps_if (pt_cmpR op_inK (pv 2) (pe_gref rfl D.mB) (by rfl))
      (pss_one (ps_ret (pe_and (pe_cmpR op_eq (pe_callB call_len_seq (by rfl) T.len PySem.boot_len (pa_cons (pv 0) pa_nil)) (pe_op op_add pe_int (pe_ix ix_kdict (pe_gref rfl D.mB) (pv 2) (fun _ _ => rfl))) (nomark _))
        (pe_one (pe_call CC.G hr3 rfl CC.m CC.kp CC.b .nil pass0 (pa_cons (pe_ix ix_tup (pv 0) pe_int (fun _ _ => rfl)) pa_nil)))))) pss_nil)
    (pss_one (ps_ret (pe_call CP.G hr rfl CP.m CP.kp CP.b .nil pass0 (pa_cons (pv 0) (pa_cons (pv 1) pa_nil)))))), ?_⟩
  refine ⟨_, rfl, v, d, rfl, hd, _, rfl, D.aB, _, wordOf d, rfl, D.tB, rfl, _, rfl, ?_⟩
  cases hw : wordOf d with
  | none =>
    rw [out_none hw] at q
    exact iteF ⟨_, rfl, _, rfl, v, d, kind, rfl, hd, ld, q⟩
  | some z =>
    obtain ⟨ps, rfl⟩ := word_inv hw
    have eG : ∀ tab, getT tab (some z) = lookT tab z := fun _ => rfl
    rw [eG]
    obtain ⟨a0, xs, rfl, h0, ha⟩ := dp_tup_inv hd
    have hl := dpAll_len ha
    have lm := lay_mem (lay_tup ld)
    by_cases c1 : z = "if"
    · subst c1
      rw [lookT_eq]
      refine iteT ⟨_, rfl, a0, _, rfl, .inr h0, _, rfl, D.aB, _, _, rfl, rfl, ktab_ix D.tB lookT_eq, _, _, rfl, rfl, rfl, _, rfl, ?_⟩
      rw [out_if] at q
      by_cases c : xs.length = 4
      · rw [decide_eq_true (show V.int ((xs.length : Nat) : Int) = V.int (2 + 2) by rw [c]; rfl)]
        have c3 : ps.length = 3 := by rw [List.length_cons] at hl; omega
        match ps, c3, q, ha, lm with
        | [c0, b1, b2], _, q, .cons hz (.cons hc _), lm =>
          exact iteT ⟨_, rfl, a0, _, _, _, rfl, rfl, h0, atI_nat (j := 1) rfl, _, c0, rfl, hc, lm _ (by simp), q H (Same.refl H)⟩
      · rw [decide_eq_false (show ¬ V.int ((xs.length : Nat) : Int) = V.int (2 + 2) from fun e => c (by injection e; omega))]
        refine iteF ?_
        have c3 : ¬ ps.length = 3 := by rw [List.length_cons] at hl; omega
        match ps, c3, q with
        | [], _, q => exact q H (Same.refl H)
        | [_], _, q => exact q H (Same.refl H)
        | [_, _], _, q => exact q H (Same.refl H)
        | [_, _, _], c3, _ => exact absurd rfl c3
        | _ :: _ :: _ :: _ :: _, _, q => exact q H (Same.refl H)
    rw [lookT_ne c1]
    by_cases c2 : z = "while"
    · subst c2
      rw [lookT_eq]
      refine iteT ⟨_, rfl, a0, _, rfl, .inr h0, _, rfl, D.aB, _, _, rfl, rfl, ktab_ix D.tB (by rw [lookT_ne c1, lookT_eq]), _, _, rfl, rfl, rfl, _, rfl, ?_⟩
      rw [out_while] at q
      by_cases c : xs.length = 3
      · rw [decide_eq_true (show V.int ((xs.length : Nat) : Int) = V.int (2 + 1) by rw [c]; rfl)]
        have c3 : ps.length = 2 := by rw [List.length_cons] at hl; omega
        match ps, c3, q, ha, lm with
        | [c0, b1], _, q, .cons hz (.cons hc _), lm =>
          exact iteT ⟨_, rfl, a0, _, _, _, rfl, rfl, h0, atI_nat (j := 1) rfl, _, c0, rfl, hc, lm _ (by simp), q H (Same.refl H)⟩
      · rw [decide_eq_false (show ¬ V.int ((xs.length : Nat) : Int) = V.int (2 + 1) from fun e => c (by injection e; omega))]
        refine iteF ?_
        have c3 : ¬ ps.length = 2 := by rw [List.length_cons] at hl; omega
        match ps, c3, q with
        | [], _, q => exact q H (Same.refl H)
        | [_], _, q => exact q H (Same.refl H)
        | [_, _], c3, _ => exact absurd rfl c3
        | _ :: _ :: _ :: _, _, q => exact q H (Same.refl H)
    rw [lookT_ne c2]
    rw [out_else c1 c2] at q
    exact iteF ⟨_, rfl, _, rfl, _, _, kind, rfl, hd, ld, q⟩
theorem scBodies : FnScope ["statement"] ["statement"] (defScope sBodies) := ⟨rfl, rfl, rfl, by decide +kernel, rfl, by decide +kernel, by decide +kernel⟩
theorem ok_bodies {f : Addr} {fd : FuncData} (F : Fun K "bodies_of" "bodies_of" sBodies f fd) (T : Gs K mg) (D : Gd K w mg) : FnOk P w K mg base CX0 1 f fd ["statement"] (spBods K) := by
  refine F.ok scBodies (fun vs H Q E h => ?_) (fun cdv A outer s H vs Q E hr h => ?_)
  · obtain ⟨v, z, ps, H0, rfl, _⟩ := h
    rfl
  obtain ⟨v, z, ps, H0, rfl, s0, hd, q⟩ := h
  obtain ⟨a0, xs, rfl, h0', ha⟩ := dp_tup_inv hd
  have h0 : SqT K H a0 xs := Same.tup s0 h0'
  refine ⟨_, pss_one (ps_ret (pe_ifExp (pt_cmpR op_inK (pe_ix ix_tup (pv 0) pe_int (fun _ _ => rfl)) (pe_gref rfl D.mB) (by rfl)) (pe_slice sl_tup (pv 0) (po_some pe_int) po_none) (pe_tup pa_nil))), ?_⟩
  cases ha with
  | cons hz hp =>
    cases hz
    rename_i xr
    have eB : bodsOf (.tuple (.str z :: ps)) = if z = "if" ∨ z = "while" then ps.drop 1 else [] := rfl
    refine ⟨_, rfl, a0, _, _, _, rfl, rfl, h0, atI_nat (j := 0) rfl, D.aB, _, some z, rfl, D.tB, rfl, _, rfl, ?_⟩
    have eG : ∀ tab, getT tab (some z) = lookT tab z := fun _ => rfl
    rw [eG]
    rw [eB] at q
    by_cases c : z = "if" ∨ z = "while"
    · have e : (lookT [(("if" : Str), V.int 2), ("while", V.int 1)] z).isSome = true := by
        rcases c with rfl | rfl
        · rw [lookT_eq]; rfl
        · rw [lookT_ne if_while, lookT_eq]; rfl
      rw [if_pos c] at q
      refine ite2 (fun _ => ?_) (fun c2 => absurd e c2)
      refine ⟨_, rfl, _, rfl, a0, _, rfl, h0, not_whole2 (by rw [List.length_cons]; omega), fun p np => ?_⟩
      rw [cut2]
      exact q _ p _ (same_new np _) (SqT.of upd_same) (dpAll_drop 1 hp)
    · rw [if_neg c] at q
      have e : (lookT [(("if" : Str), V.int 2), ("while", V.int 1)] z).isSome = false := by
        rw [lookT_ne (fun e => c (.inl e)), lookT_ne (fun e => c (.inr e))]
        rfl
      refine ite2 (fun c2 => ?_) (fun _ => ⟨by show 0 ≤ sizeLine; decide, fun p np => ?_⟩)
      · have c3 : (lookT [(("if" : Str), V.int 2), ("while", V.int 1)] z).isSome = true := c2
        rw [e] at c3
        cases c3
      · exact q _ p _ (same_new np _) (SqT.of upd_same) .nil
end
/-! ### counting statements -/
def addO : Option Nat → Option Nat → Option Nat
  | some a, some b => some (a + b)
  | _, _ => none
def sumO : List (Option Nat) → Option Nat
  | [] => some 0
  | x :: r => addO x (sumO r)
theorem addO_none (x : Option Nat) : addO x none = none := by cases x <;> rfl
theorem none_addO (x : Option Nat) : addO none x = none := by cases x <;> rfl
theorem addO_assoc (x y z : Option Nat) : addO (addO x y) z = addO x (addO y z) := by
  cases x <;> cases y <;> cases z <;> simp [addO, Nat.add_assoc]
theorem addO_comm (x y : Option Nat) : addO x y = addO y x := by
  cases x <;> cases y <;> simp [addO, Nat.add_comm]
theorem zero_addO (x : Option Nat) : addO (some 0) x = x := by cases x <;> simp [addO]
theorem addO_zero (x : Option Nat) : addO x (some 0) = x := by cases x <;> simp [addO]
theorem sumO_append (xs ys : List (Option Nat)) : sumO (xs ++ ys) = addO (sumO xs) (sumO ys) := by
  induction xs with
  | nil => exact (zero_addO _).symm
  | cons x r ih => rw [List.cons_append]; simp only [sumO]; rw [ih, addO_assoc]
def bodyN (kind : Str) : Nat → PyData → Option Nat
  | 0, .tuple [] => some 0
  | 0, _ => none
  | r + 1, .tuple ss => sumO (ss.map fun s => if isOut s kind = true then addO (some 1) (sumO ((bodsOf s).map (bodyN kind r))) else none)
  | _ + 1, _ => none
def stN (kind : Str) (r : Nat) (s : PyData) : Option Nat := if isOut s kind = true then addO (some 1) (sumO ((bodsOf s).map (bodyN kind r))) else none
theorem bodyN_tup (kind : Str) (r : Nat) (ss : List PyData) : bodyN kind (r + 1) (.tuple ss) = sumO (ss.map (stN kind r)) := by
  simp only [bodyN]
  rfl
def okN (many : Nat) : Option Nat → Bool
  | some n => decide (many + n ≤ 24)
  | none => false
def isProg (d : PyData) : Bool := match d with
  | .tuple [.str k, b] => inS (.str k) kinds && okN 0 (bodyN k 4 b)
  | _ => false
def tot (kind : Str) (stk : List (PyData × Nat)) : Option Nat := sumO (stk.map fun p => bodyN kind (5 - p.2) p.1)
def good (kind : Str) (many : Nat) (stk : List (PyData × Nat)) : Bool := okN many (tot kind stk)
theorem tot_append (kind : Str) (a b : List (PyData × Nat)) : tot kind (a ++ b) = addO (tot kind a) (tot kind b) := by
  unfold tot
  rw [List.map_append, sumO_append]
theorem tot_one (kind : Str) (p : PyData × Nat) : tot kind [p] = bodyN kind (5 - p.2) p.1 := by
  unfold tot
  simp only [List.map_cons, List.map_nil, sumO, addO_zero]
theorem okN_none (m : Nat) : okN m none = false := rfl
theorem okN_add (m k : Nat) (x : Option Nat) : okN m (addO (some k) x) = okN (m + k) x := by
  cases x with
  | none => rfl
  | some n => simp only [addO, okN]; congr 1; rw [Nat.add_assoc]
theorem bodyN_no (kind : Str) (r : Nat) {d : PyData} (h : isT d "tuple" = false) : bodyN kind r d = none := by
  cases d <;> first | (cases r <;> rfl) | (simp [isT, tyN] at h)
theorem stN_ge {kind : Str} {r n : Nat} {s : PyData} (h : stN kind r s = some n) : 1 ≤ n := by
  unfold stN at h
  split at h
  · cases e : sumO ((bodsOf s).map (bodyN kind r)) with
    | none => rw [e] at h; cases h
    | some m =>
      rw [e] at h
      have : 1 + m = n := by injection h
      omega
  · cases h
theorem sumO_ge {kind : Str} {r : Nat} : ∀ {ss : List PyData} {n : Nat}, sumO (ss.map (stN kind r)) = some n → ss.length ≤ n
  | [], _, _ => Nat.zero_le _
  | s :: t, n, h => by
    simp only [List.map_cons, sumO] at h
    cases e1 : stN kind r s with
    | none => rw [e1, none_addO] at h; cases h
    | some a =>
      cases e2 : sumO (t.map (stN kind r)) with
      | none => rw [e2, addO_none] at h; cases h
      | some b =>
        rw [e1, e2] at h
        have e : a + b = n := by injection h
        have h1 := stN_ge e1
        have h2 := sumO_ge e2
        rw [List.length_cons]
        omega
/-- too many, or too deep -/
theorem good_over {kind : Str} {many dep : Nat} {st : List (PyData × Nat)} {ss : List PyData} (h : 24 < many + ss.length ∨ (0 < ss.length ∧ 4 < dep)) : good kind many (st ++ [(.tuple ss, dep)]) = false := by
  unfold good
  rw [tot_append, tot_one]
  show okN many (addO (tot kind st) (bodyN kind (5 - dep) (.tuple ss))) = false
  cases e : bodyN kind (5 - dep) (.tuple ss) with
  | none => rw [addO_none]; rfl
  | some n =>
    cases e1 : tot kind st with
    | none => rfl
    | some a =>
      show decide (many + (a + n) ≤ 24) = false
      rw [decide_eq_false_iff_not]
      cases hr : 5 - dep with
      | zero =>
        rw [hr] at e
        cases ss with
        | nil => rcases h with h | ⟨h, _⟩
                 · simp at h; omega
                 · simp at h
        | cons s t => simp [bodyN] at e
      | succ r =>
        rw [hr, bodyN_tup] at e
        have g := sumO_ge e
        rcases h with h | ⟨_, h⟩
        · omega
        · omega
theorem good_no {kind : Str} {many dep : Nat} {st : List (PyData × Nat)} {d : PyData} (h : isT d "tuple" = false) : good kind many (st ++ [(d, dep)]) = false := by
  unfold good
  rw [tot_append, tot_one]
  show okN many (addO (tot kind st) (bodyN kind (5 - dep) d)) = false
  rw [bodyN_no kind _ h, addO_none]
  rfl
theorem sumO_none {kind : Str} {r : Nat} {s : PyData} (h : isOut s kind = false) : ∀ {ss : List PyData}, s ∈ ss → sumO (ss.map (stN kind r)) = none
  | x :: t, m => by
    simp only [List.map_cons, sumO]
    rcases List.mem_cons.mp m with e | m
    · subst e
      have e : stN kind r s = none := by unfold stN; rw [if_neg (by rw [h]; decide)]
      rw [e, none_addO]
    · rw [sumO_none h m, addO_none]
theorem good_bad {kind : Str} {many dep : Nat} {st : List (PyData × Nat)} {ss : List PyData} {s : PyData} (h : isOut s kind = false) (m : s ∈ ss) : good kind many (st ++ [(.tuple ss, dep)]) = false := by
  unfold good
  rw [tot_append, tot_one]
  show okN many (addO (tot kind st) (bodyN kind (5 - dep) (.tuple ss))) = false
  have e : bodyN kind (5 - dep) (.tuple ss) = none := by
    cases 5 - dep with
    | zero =>
      cases ss with
      | nil => cases m
      | cons _ _ => rfl
    | succ r => rw [bodyN_tup, sumO_none h m]
  rw [e, addO_none]
  rfl
def pushes (dep : Nat) (ss : List PyData) : List (PyData × Nat) := ss.flatMap fun s => (bodsOf s).map fun b => (b, dep + 1)
theorem sumO_all {kind : Str} {r dep : Nat} (hr : 5 - (dep + 1) = r) : ∀ {ss : List PyData}, (∀ s ∈ ss, isOut s kind = true) → sumO (ss.map (stN kind r)) = addO (some ss.length) (tot kind (pushes dep ss))
  | [], _ => rfl
  | s :: t, h => by
    have ih := sumO_all hr (ss := t) (fun x m => h x (List.mem_cons_of_mem _ m))
    simp only [List.map_cons, sumO]
    rw [ih]
    have e : stN kind r s = addO (some 1) (sumO ((bodsOf s).map (bodyN kind r))) := by unfold stN; rw [if_pos (h s (by simp))]
    have e2 : tot kind (pushes dep (s :: t)) = addO (sumO ((bodsOf s).map (bodyN kind r))) (tot kind (pushes dep t)) := by
      unfold pushes
      rw [List.flatMap_cons, tot_append]
      congr 1
      unfold tot
      rw [List.map_map]
      congr 2
      funext b
      show bodyN kind (5 - (dep + 1)) b = _
      rw [hr]
    rw [e, e2]
    cases sumO ((bodsOf s).map (bodyN kind r)) with
    | none => simp [addO, none_addO]
    | some a =>
      cases tot kind (pushes dep t) with
      | none => simp [addO]
      | some b => simp only [addO, List.length_cons]; congr 1; omega
theorem good_step {kind : Str} {many dep : Nat} {st : List (PyData × Nat)} {ss : List PyData} (hd : dep ≤ 5) (h4 : 0 < ss.length → dep ≤ 4) (h : ∀ s ∈ ss, isOut s kind = true) :
    good kind (many + ss.length) (st ++ pushes dep ss) = good kind many (st ++ [(.tuple ss, dep)]) := by
  unfold good
  rw [tot_append, tot_append, tot_one]
  show _ = okN many (addO (tot kind st) (bodyN kind (5 - dep) (.tuple ss)))
  have e : bodyN kind (5 - dep) (.tuple ss) = addO (some ss.length) (tot kind (pushes dep ss)) := by
    by_cases c : dep ≤ 4
    · have e1 : 5 - dep = (5 - (dep + 1)) + 1 := by omega
      rw [e1, bodyN_tup, sumO_all (dep := dep) rfl h]
    · have z : ss = [] := by
        cases ss with
        | nil => rfl
        | cons _ _ => exact absurd (h4 (by simp)) c
      subst z
      have e1 : 5 - dep = 0 := by omega
      rw [e1]
      rfl
  rw [e, ← addO_assoc, addO_comm (tot kind st) (some ss.length), addO_assoc, okN_add]
/-! ### a measure -/
mutual
def sz : PyData → Nat
  | .tuple xs => 1 + szAll xs
  | .list xs => 1 + szAll xs
  | .none | .bool _ | .int _ | .str _ | .dict _ => 1
def szAll : List PyData → Nat
  | [] => 0
  | x :: xs => sz x + szAll xs
end
def tsz : List (PyData × Nat) → Nat
  | [] => 0
  | p :: r => sz p.1 + tsz r
theorem tsz_append : ∀ a b : List (PyData × Nat), tsz (a ++ b) = tsz a + tsz b
  | [], b => by simp [tsz]
  | x :: r, b => by rw [List.cons_append]; simp only [tsz]; rw [tsz_append r b]; omega
theorem tsz_map (dep : Nat) : ∀ bs : List PyData, tsz (bs.map fun b => (b, dep)) = szAll bs
  | [] => rfl
  | x :: r => by simp only [List.map_cons, tsz, szAll]; rw [tsz_map dep r]
theorem szAll_drop : ∀ (n : Nat) (bs : List PyData), szAll (bs.drop n) ≤ szAll bs
  | 0, bs => Nat.le_refl _
  | n + 1, [] => Nat.le_refl _
  | n + 1, x :: r => by
    rw [List.drop_succ_cons]
    have := szAll_drop n r
    simp only [szAll]
    omega
theorem bods_sz (s : PyData) : szAll (bodsOf s) ≤ sz s := by
  match s with
  | .tuple (.str z :: ps) =>
    show szAll (if z = "if" ∨ z = "while" then ps.drop 1 else []) ≤ _
    simp only [sz, szAll]
    split
    · have := szAll_drop 1 ps
      omega
    · simp [szAll]
  | .tuple [] => exact Nat.zero_le _
  | .tuple (.none :: _) => exact Nat.zero_le _
  | .tuple (.bool _ :: _) => exact Nat.zero_le _
  | .tuple (.int _ :: _) => exact Nat.zero_le _
  | .tuple (.list _ :: _) => exact Nat.zero_le _
  | .tuple (.tuple _ :: _) => exact Nat.zero_le _
  | .tuple (.dict _ :: _) => exact Nat.zero_le _
  | .none => exact Nat.zero_le _
  | .bool _ => exact Nat.zero_le _
  | .int _ => exact Nat.zero_le _
  | .str _ => exact Nat.zero_le _
  | .list _ => exact Nat.zero_le _
  | .dict _ => exact Nat.zero_le _
theorem pushes_sz (dep : Nat) : ∀ ss : List PyData, tsz (pushes dep ss) ≤ szAll ss
  | [] => Nat.le_refl _
  | s :: t => by
    have e : pushes dep (s :: t) = (bodsOf s).map (fun b => (b, dep + 1)) ++ pushes dep t := by unfold pushes; rw [List.flatMap_cons]
    rw [e, tsz_append, tsz_map]
    have h1 := bods_sz s
    have h2 := pushes_sz dep t
    simp only [szAll]
    omega
theorem out_word {s : PyData} {kind : Str} (h : isOut s kind = true) : ∃ z ps, s = .tuple (.str z :: ps) := by
  cases hw : wordOf s with
  | some z => obtain ⟨ps, e⟩ := word_inv hw; exact ⟨z, ps, e⟩
  | none =>
    rw [out_none hw] at h
    have : rolesOf (wordOf s) kind = none := by rw [hw]; rfl
    rw [plain_none this] at h
    cases h
theorem bods_short {s : PyData} {kind : Str} (h : isOut s kind = true) : (bodsOf s).length ≤ 2 := by
  obtain ⟨z, ps, rfl⟩ := out_word h
  show (if z = "if" ∨ z = "while" then ps.drop 1 else []).length ≤ 2
  split
  · rename_i c
    rcases c with rfl | rfl
    · rw [out_if] at h
      match ps, h with
      | [_, _, _], _ => simp
    · rw [out_while] at h
      match ps, h with
      | [_, _], _ => simp
  · decide
theorem pushes_len {kind : Str} (dep : Nat) : ∀ {ss : List PyData}, (∀ s ∈ ss, isOut s kind = true) → (pushes dep ss).length ≤ 2 * ss.length
  | [], _ => Nat.le_refl _
  | s :: t, h => by
    have e : pushes dep (s :: t) = (bodsOf s).map (fun b => (b, dep + 1)) ++ pushes dep t := by unfold pushes; rw [List.flatMap_cons]
    rw [e, List.length_append, List.length_map, List.length_cons]
    have h1 := bods_short (h s (by simp))
    have h2 := pushes_len dep (ss := t) (fun x m => h x (List.mem_cons_of_mem _ m))
    omega
theorem pushes_snoc (dep : Nat) (a : List PyData) (s : PyData) : pushes dep (a ++ [s]) = pushes dep a ++ (bodsOf s).map fun b => (b, dep + 1) := by
  unfold pushes
  rw [List.flatMap_append, List.flatMap_cons, List.flatMap_nil, List.append_nil]
theorem while_m {c : TT} {tb : TS} {D : Ends} {σ : L2.St} {H : Hp} (Pv : Nat → L2.St → Hp → Prop) {m0 : Nat} (h0 : Pv m0 σ H)
    (hs : ∀ m σ H, Pv m σ H → c σ H fun b H1 => if b = true then tb { D with nx := fun σ' H' => ∃ m', m' < m ∧ Pv m' σ' H', ct := fun σ' H' => ∃ m', m' < m ∧ Pv m' σ' H', bk := D.nx } σ H1 else D.nx σ H1)
    (mono : ∀ σ H Q Q', (∀ b H1, Q b H1 → Q' b H1) → c σ H Q → c σ H Q') : tWhile c tb D σ H := by
  refine ⟨Pv, ⟨_, h0⟩, ?_⟩
  intro m σ H p
  refine mono σ H _ _ (fun b H1 q => ?_) (hs m σ H p)
  cases b with
  | true => exact ⟨_, fun σ' H' p' => p', q⟩
  | false => exact q
theorem seq_while {c : TT} {tb u : TS} {D : Ends} {σ : L2.St} {H : Hp} (h : tWhile c tb { D with nx := u D } σ H) : tSeq (tWhile c tb) u D σ H := h
/-- the things on the pile: pairs (body, depth) -/
def Itm (K : PySem.W.Frag) (H0 H : Hp) (x : V) (p : PyData × Nat) : Prop := ∃ (t : Addr) (v : V), x = .ref t ∧ H t = some (.tup [v, .int (p.2 : Nat)]) ∧ Dp K H0 v p.1 ∧ Lay p.1 ∧ p.2 ≤ 5
inductive Items (K : PySem.W.Frag) (H0 H : Hp) : List V → List (PyData × Nat) → Prop
  | nil : Items K H0 H [] []
  | cons {x : V} {xs : List V} {p : PyData × Nat} {ps : List (PyData × Nat)} : Itm K H0 H x p → Items K H0 H xs ps → Items K H0 H (x :: xs) (p :: ps)
section
variable {K : PySem.W.Frag} {H0 H H' : Hp}
theorem Items.len : ∀ {xs : List V} {ps : List (PyData × Nat)}, Items K H0 H xs ps → xs.length = ps.length
  | _, _, .nil => rfl
  | _, _, .cons _ t => by rw [List.length_cons, List.length_cons, t.len]
theorem Items.append : ∀ {xs ys : List V} {ps qs : List (PyData × Nat)}, Items K H0 H xs ps → Items K H0 H ys qs → Items K H0 H (xs ++ ys) (ps ++ qs)
  | _, _, _, _, .nil, h => h
  | _, _, _, _, .cons i t, h => .cons i (t.append h)
theorem Items.snoc : ∀ (xs : List V) {y : V} {ps : List (PyData × Nat)}, Items K H0 H (xs ++ [y]) ps → ∃ st p, ps = st ++ [p] ∧ Items K H0 H xs st ∧ Itm K H0 H y p
  | [], _, _, .cons i .nil => ⟨[], _, rfl, .nil, i⟩
  | x :: r, _, _, .cons i t => by
    obtain ⟨st, p, e, h1, h2⟩ := Items.snoc r t
    exact ⟨_ :: st, p, by rw [e]; rfl, .cons i h1, h2⟩
theorem Itm.keep {l : Addr} {x : V} {p : PyData × Nat} (i : Itm K H0 H x p) (e : ∀ b o, b ≠ l → H b = some o → H' b = some o) {ys : List V} (hl : H l = some (.lst ys)) : Itm K H0 H' x p := by
  obtain ⟨t, v, e1, e2, r⟩ := i
  exact ⟨t, v, e1, e t _ (ne_of e2 hl (by intro z; cases z)) e2, r⟩
theorem Items.keep {l : Addr} {ys : List V} (e : ∀ b o, b ≠ l → H b = some o → H' b = some o) (hl : H l = some (.lst ys)) : ∀ {xs : List V} {ps : List (PyData × Nat)}, Items K H0 H xs ps → Items K H0 H' xs ps
  | _, _, .nil => .nil
  | _, _, .cons i t => .cons (i.keep e hl) (t.keep e hl)
theorem Items.mono (e : Same H H') : ∀ {xs : List V} {ps : List (PyData × Nat)}, Items K H0 H xs ps → Items K H0 H' xs ps
  | _, _, .nil => .nil
  | _, _, .cons ⟨t, v, e1, e2, r⟩ s => .cons ⟨t, v, e1, e _ _ e2, r⟩ (s.mono e)
end
def spProg (K : PySem.W.Frag) : Sp := fun vs H Q _ => ∃ (v : V) (d : PyData), vs = [v] ∧ Dp K H v d ∧ Lay d ∧ ∀ H', Same H H' → Q (.bl (isProg d)) H'
section
variable {P : Program} {w : World} {K : PySem.W.Frag} {mg : Str → Option Value} {base : Heap}
theorem scProg : FnScope ["thing", "kind", "many", "pending", "body", "depth", "statement", "inner"] ["thing"] (defScope sProg) := ⟨rfl, rfl, rfl, by decide +kernel, rfl, by decide +kernel, by decide +kernel⟩
theorem dp_two {H : Hp} {xs : List V} {ds : List PyData} (h : DpAll K H xs ds) (l : ds.length = 2) : ∃ x0 x1 d0 d1, xs = [x0, x1] ∧ ds = [d0, d1] ∧ Dp K H x0 d0 ∧ Dp K H x1 d1 := by
  match ds, l, h with
  | [d0, d1], _, .cons (v := x0) h0 (.cons (v := x1) h1 .nil) => exact ⟨x0, x1, d0, d1, rfl, rfl, h0, h1⟩
theorem take_snoc {α : Type} {l : List α} {j : Nat} {x : α} (h : l[j]? = some x) : l.take (j + 1) = l.take j ++ [x] := by
  rw [List.take_add_one, h]
  rfl
theorem bods_lay {s : PyData} (h : Lay s) : ∀ b ∈ bodsOf s, Lay b := by
  intro b m
  match s, h, m with
  | .tuple (.str z :: ps), h, m =>
    have m' : b ∈ (if z = "if" ∨ z = "while" then ps.drop 1 else []) := m
    split at m'
    · exact lay_mem (lay_tup h) b (List.mem_cons_of_mem _ (List.mem_of_mem_drop m'))
    · cases m'
theorem loop_ok {D : Ends} {H H1 : Hp} {k : Str} {n dep : Nat} {a0 pl ab : Addr} {xs ys : List V} {ss : List PyData} {st : List (PyData × Nat)} {s6 : Option V} (sH1 : Same H H1) (nplH : H pl = none) (hp1 : H1 pl = some (.lst ys)) (it1 : Items K H H1 ys st)
    (hab : SqT K H ab xs) (hss : DpAll K H xs ss) (lay : PyData.canLayAll0 ss = true) (hdep : dep ≤ 5) (h4 : 0 < ss.length → dep ≤ 4) (h24 : ss.length ≤ 24) (hst : st.length ≤ 100)
    (hF : ∀ s, s ∈ ss → isOut s k = false → ∀ H', Same H H' → D.rt (.bl false) H')
    (hN : ∀ H' ys' s6, (∀ s ∈ ss, isOut s k = true) → Same H H' → H' pl = some (.lst ys') → Items K H H' ys' (st ++ pushes dep ss) →
      D.nx [some (.ref a0), some (.str k), some (.int (n : Nat)), some (.ref pl), some (.ref ab), some (.int (dep : Nat)), s6, none] H') :
    tFor (iTup K (tVar 4)) (gName 6) (tSeq (tIfS (tNot (tB (tCall (sp2 isOut K) [] E0 (tCons (tVar 6) (tCons (tVar 1) tNil))))) (tRet (tC (.bl false))) tNext)
      (tDrop (tBM K "list" rExtend (tVar 3) (tCons (tLc (iTup K (tCall (spBods K) [] E0 (tCons (tVar 6) tNil))) (gName 7) tYes (tTup (tCons (tVar 7) (tCons (tOp (rI0 fun i j => V.int (i + j)) (tVar 5) (tC (V.int 1))) tNil))) [7]) tNil))))
      D [some (.ref a0), some (.str k), some (.int (n : Nat)), some (.ref pl), some (.ref ab), some (.int (dep : Nat)), s6, none] H1 := by
  have hl := dpAll_len hss
  refine ⟨_, rfl, ab, rfl, ⟨_, Same.tup sH1 hab⟩, for_tup (K := K) (a := ab) (xs := xs)
    (fun i σ H' => ∃ (ys' : List V) (s6 : Option V), σ = [some (.ref a0), some (.str k), some (.int (n : Nat)), some (.ref pl), some (.ref ab), some (.int (dep : Nat)), s6, none] ∧ (∀ s ∈ ss.take i, isOut s k = true) ∧ Same H H' ∧ H' pl = some (.lst ys') ∧
      Items K H H' ys' (st ++ pushes dep (ss.take i))) ⟨ys, s6, rfl, by simp, sH1, hp1, by simpa [pushes] using it1⟩ (fun i σ H' _ ⟨_, _, _, _, s1, _⟩ => Same.tup s1 hab) ?_ ?_⟩
  · rintro i x σ H' hx ⟨ys', s6', rfl, hall, s1, hp', it'⟩
    obtain ⟨si, hsi, hxd⟩ := dpAll_get hss hx
    have hil : i < ss.length := (List.getElem?_eq_some_iff.mp hsi).1
    have msi : si ∈ ss := List.mem_of_getElem? hsi
    have lsi : Lay si := lay_mem lay _ msi
    refine ⟨_, rfl, _, rfl, x, si, k, rfl, dp_mono s1 _ _ hxd, lsi, fun H2 s2 => ⟨_, rfl, ?_⟩⟩
    cases ho : isOut si k with
    | false => exact iteT (hF si msi ho H2 (s1.trans s2))
    | true =>
      refine iteF ?_
      obtain ⟨z, ps, rfl⟩ := out_word ho
      have h4' := h4 (by omega)
      refine ⟨_, rfl, .inl ⟨rfl, _, SqL.of (s2 _ _ hp')⟩, _, rfl, x, z, ps, H, rfl, s1.trans s2, hxd, fun H3 b zs s3 hb hz => ⟨b, rfl, ⟨_, hb⟩, fun Dn nD => ?_⟩⟩
      refine lc_tup (K := K) (a := b) (xs := zs) (fun j H4 => Same H3 H4 ∧ ∃ acc, H4 Dn = some (.lst acc) ∧ Items K H H4 acc (((bodsOf (.tuple (.str z :: ps))).take j).map fun b => (b, dep + 1)))
        ⟨same_upd (Same.refl _) nD _, [], upd_same, .nil⟩ (fun j H4 _ P => Same.tup P.1 hb) ?_ ?_
      · rintro j y H4 hy ⟨s4, acc, eD, itA⟩
        obtain ⟨bj, hbj, hyd⟩ := dpAll_get hz hy
        refine ⟨rfl, ?_⟩
        refine ⟨_, rfl, _, rfl, _, _, rfl, rfl, (by show 2 ≤ sizeLine; decide), fun T nT => ⟨acc, ?_, ?_, ?_, _, upd_same, ?_⟩⟩
        · rw [upd_ne (ne_of_none eD nT)]
          exact eD
        · have e := itA.len
          rw [List.length_map, List.length_take] at e
          have e2 := bods_short ho
          exact Nat.lt_of_le_of_lt (by omega : _ ≤ 1000) (by decide)
        · exact same_upd (s4.trans (same_new nT _)) nD _
        · rw [take_snoc hbj, List.map_append]
          have nTD : T ≠ Dn := fun e => by rw [← e, nT] at eD; cases eD
          have g : ∀ b o, b ≠ Dn → (upd H4 T (.tup [y, .int ((dep : Int) + 1)])) b = some o → (upd (upd H4 T (.tup [y, .int ((dep : Int) + 1)])) Dn (.lst (acc ++ [.ref T]))) b = some o := fun b o n e => by rw [upd_ne n]; exact e
          have eD' : (upd H4 T (.tup [y, .int ((dep : Int) + 1)])) Dn = some (.lst acc) := by rw [upd_ne (ne_of_none eD nT)]; exact eD
          refine ((itA.mono (same_new nT _)).keep g eD').append (.cons ⟨T, y, rfl, ?_, hyd, bods_lay lsi _ (List.mem_of_getElem? hbj), by show dep + 1 ≤ 5; omega⟩ .nil)
          rw [upd_ne nTD, upd_same]
          rfl
      · rintro H4 ⟨s4, acc, eD, itA⟩
        have hzl := dpAll_len hz
        rw [hzl, List.take_length] at itA
        have s24 := s2.trans (s3.trans s4)
        have hp4 := s24 _ _ hp'
        have nDp : Dn ≠ pl := fun e => by
          have := (s2.trans s3) _ _ hp'
          rw [← e, nD] at this
          cases this
        refine ⟨pl, Dn, ys', acc, rfl, rfl, hp4, eD, ?_, ys' ++ acc, _, rfl, ?_, same_upd (s1.trans s24) nplH _, upd_same, ?_⟩
        · have e1 := it'.len
          have e2 := itA.len
          have e3 := bods_short ho
          have e4 := pushes_len (kind := k) dep hall
          rw [List.length_append] at e1
          rw [List.length_map] at e2
          rw [List.length_take] at e4
          exact Nat.le_of_lt (Nat.lt_of_le_of_lt (by omega : _ ≤ 1000) (by decide))
        · intro s ms
          rw [take_snoc hsi] at ms
          rcases List.mem_append.mp ms with m | m
          · exact hall s m
          · rw [List.mem_singleton.mp m]
            exact ho
        · rw [take_snoc hsi, pushes_snoc, ← List.append_assoc]
          have g : ∀ b o, b ≠ pl → H4 b = some o → (upd H4 pl (.lst (ys' ++ acc))) b = some o := fun b o n e => by rw [upd_ne n]; exact e
          exact ((it'.mono s24).keep g hp4).append (itA.keep g hp4)
  · rintro σ H' ⟨ys', s6', rfl, hall, s1, hp', it'⟩
    rw [hl, List.take_length] at hall it'
    exact hN H' ys' s6' hall s1 hp' it'
theorem prog_no {d : PyData} (h : ∀ k b, d ≠ .tuple [.str k, b]) : isProg d = false := by
  unfold isProg
  split
  · rename_i k b; exact absurd rfl (h k b)
  · rfl
theorem ok_prog {f : Addr} {fd : FuncData} (F : Fun K "is_program" "is_program" sProg f fd) (T : Gs K mg) (CO : Cal P w K mg base 6 "is_outside_of_statement" ["thing", "kind"] (sp2 isOut K))
    (CB : Cal P w K mg base 1 "bodies_of" ["statement"] (spBods K)) : FnOk P w K mg base CX0 7 f fd ["thing"] (spProg K) := by
  refine F.ok scProg (fun vs H Q E h => ?_) (fun cdv A outer s H vs Q E hr h => ?_)
  · obtain ⟨v, d, rfl, _⟩ := h
    rfl
  obtain ⟨v, d, rfl, hd, ld, q⟩ := h
  have hr1 : Room 1 _ := hr.mono (by decide)
  refine ⟨_, pss_cons (ps_if (PW.pt (pw_or (pt_not (pt_val (pe_callB call_isi (by rfl) T.isi (by decide +kernel) (pa_cons (pv 0) (pa_cons (pe_bltn (v := .ty "tuple") (by rfl) T.tup (by decide +kernel) rfl) pa_nil)))))
      (pw_or (pt_cmpR op_ne (pe_callB call_len_seq (by rfl) T.len PySem.boot_len (pa_cons (pv 0) pa_nil)) pe_int (nomark _))
      (pw_or1 (pt_cmpR (op_notInS (hu65 hr)) (pe_ix ix_tup (pv 0) pe_int (fun _ _ => rfl)) (pe_gref rfl T.mK) (by rfl)))))) (pss_one (ps_ret pe_bl)) pss_nil)
    (pss_cons (ps_set (i := 1) scProg.nd rfl (.inl rfl) (pe_ix ix_tup (pv 0) pe_int (fun _ _ => rfl)))
    (pss_cons (ps_set (i := 2) scProg.nd rfl (.inl rfl) pe_int)
    (pss_cons (ps_set (i := 3) scProg.nd rfl (.inl rfl) (pe_lst (pa_cons (pe_tup (pa_cons (pe_ix ix_tup (pv 0) pe_int (fun _ _ => rfl)) (pa_cons pe_int pa_nil))) pa_nil)))
    (pss_cons (ps_while PassesOwn.never (pt_truth (pv 3) (by intro _; rfl))
      (pss_cons (ps_asg (pe_bm0 PySem.F.plainAttrs_list PySem.F.slot_list_pop PySem.F.type_list_pop mt_pop (pv 3)) (pg_tup (by rfl) (pgs_cons (pg_name (i := 4) scProg.nd rfl (.inl rfl)) (pgs_cons (pg_name (i := 5) scProg.nd rfl (.inr rfl)) pgs_nil))))
      (pss_cons (ps_if (pt_not (pt_val (pe_callB call_isi (by rfl) T.isi (by decide +kernel) (pa_cons (pv 4) (pa_cons (pe_bltn (v := .ty "tuple") (by rfl) T.tup (by decide +kernel) rfl) pa_nil))))) (pss_one (ps_ret pe_bl)) pss_nil)
      (pss_cons (ps_aug (i := 2) scProg.nd rfl (.inl rfl) (pe_callB call_len_seq (by rfl) T.len PySem.boot_len (pa_cons (pv 4) pa_nil)) ip_add)
      (pss_cons (ps_if (PW.pt (pw_or (pt_cmpR op_gt (pv 2) (pe_gint rfl T.mS) (nomark _)) (pw_or1 (PW.pt (pw_and (pt_cmpR op_gt (pe_callB call_len_seq (by rfl) T.len PySem.boot_len (pa_cons (pv 4) pa_nil)) pe_int (nomark _)) (pw_and1 (pt_cmpR op_gt (pv 5) (pe_gint rfl T.mD) (nomark _)))))))) (pss_one (ps_ret pe_bl)) pss_nil)
      (pss_one (ps_for PassesOwn.never rfl (pi_tup (pv 4)) (pg_name (i := 6) scProg.nd rfl (.inl rfl))
        (pss_cons (ps_if (pt_not (pt_val (pe_call CO.G hr rfl CO.m CO.kp CO.b .nil pass0 (pa_cons (pv 6) (pa_cons (pv 1) pa_nil))))) (pss_one (ps_ret pe_bl)) pss_nil)
        (pss_one (ps_expr (pe_bm PySem.F.plainAttrs_list PySem.F.slot_list_extend PySem.F.type_list_extend mt_extend (pv 3) (pa_cons
          (pe_lc (own := [("inner", 7)]) (g := gName 7) (tt := tYes) rfl scProg.nd (pi_tup (pe_call CB.G hr1 rfl CB.m CB.kp CB.b .nil pass0 (pa_cons (pv 6) pa_nil)))
            (blkOk_by (N := ["thing", "kind", "many", "pending", "body", "depth", "statement", "inner"]) (sc := defScope sProg) (by decide +kernel))
            (fun _ _ _ _ _ => pg_name (i := 7) scProg.nd rfl (.inl rfl)) (fun _ _ _ _ _ => pts_nil)
            (fun _ _ _ _ _ => pe_tup (pa_cons (pv 7) (pa_cons (pe_op op_add (pv 5) pe_int) pa_nil)))) pa_nil))))))))))))
    (pss_one (ps_ret pe_bl)))))), ?_⟩
  refine ⟨_, rfl, v, .ty "tuple", _, _, _, rfl, .ty _, dp_ty hd, kit_isT d (by simp) (dp_nd hd), _, rfl, ?_⟩
  cases ht : isT d "tuple" with
  | false =>
    refine iteT (iteT ?_)
    rw [prog_no (fun k b e => by rw [e] at ht; cases ht)] at q
    exact q H (Same.refl H)
  | true =>
    obtain ⟨ds, rfl⟩ := isT_tup ht
    obtain ⟨a0, xs, rfl, h0, ha⟩ := dp_tup_inv hd
    have hl := dpAll_len ha
    refine iteF ⟨_, rfl, a0, xs, rfl, .inr h0, rfl, _, rfl, ?_⟩
    by_cases h2 : ds.length = 2
    · refine iteNS (show V.int ((xs.length : Nat) : Int) = V.int 2 by rw [hl, h2]; rfl) ?_
      obtain ⟨x0, x1, d0, d1, rfl, rfl, hx0, hx1⟩ := dp_two ha h2
      have lm := lay_mem (lay_tup ld)
      refine ⟨_, rfl, a0, _, _, _, rfl, rfl, h0, atI_nat (j := 0) rfl, d0, kinds, T.aK, rfl, hx0, lm _ (by simp), T.kK _, by decide +kernel, _, rfl, ?_⟩
      cases hk : inS d0 kinds with
      | false =>
        refine iteT ?_
        have e : isProg (.tuple [d0, d1]) = false := by
          cases d0 with
          | str k => show (inS (.str k) kinds && _) = false; rw [hk]; rfl
          | _ => rfl
        rw [e] at q
        exact q H (Same.refl H)
      | true =>
        refine iteF ?_
        obtain ⟨k, rfl⟩ : ∃ k, d0 = .str k := by
          cases d0 with
          | str k => exact ⟨k, rfl⟩
          | _ => cases hk
        cases hx0
        refine ⟨_, rfl, a0, _, _, _, rfl, rfl, h0, atI_nat (j := 0) rfl, ?_⟩
        refine ⟨_, rfl, a0, _, _, _, rfl, rfl, h0, atI_nat (j := 1) rfl, (by show 2 ≤ sizeLine; decide), fun t nt => ⟨(by show 1 ≤ sizeLine; decide), fun pl npl => ?_⟩⟩
        have eP : good k 0 [(d1, 1)] = isProg (.tuple [.str k, d1]) := by
          show okN 0 (tot k [(d1, 1)]) = (inS (.str k) kinds && okN 0 (bodyN k 4 d1))
          rw [tot_one, hk]
          rfl
        have npt : pl ≠ t := fun e => by rw [e, upd_same] at npl; cases npl
        have nplH : H pl = none := by rw [upd_ne npt] at npl; exact npl
        have sH0 : Same H (upd (upd H t (.tup [x1, .int 1])) pl (.lst [.ref t])) := same_upd (same_new nt _) nplH _
        dsimp only [gName]
        refine seq_while ?_
        refine while_m (fun m σ H' => ∃ (many : Nat) (stk : List (PyData × Nat)) (ys : List V) (s4 s5 s6 : Option V), σ = [some (.ref a0), some (.str k), some (.int (many : Nat)), some (.ref pl), s4, s5, s6, none] ∧
            Same H H' ∧ H' pl = some (.lst ys) ∧ Items K H H' ys stk ∧ good k many stk = isProg (.tuple [.str k, d1]) ∧ many ≤ 24 ∧ stk.length ≤ 1 + 2 * many ∧ m = tsz stk)
          (m0 := tsz [(d1, 1)]) ⟨0, [(d1, 1)], [.ref t], none, none, none, rfl, sH0, upd_same, .cons ⟨t, x1, rfl, by rw [upd_ne npt.symm, upd_same]; rfl, hx1, lm _ (by simp), (by show 1 ≤ 5; decide)⟩ .nil, eP, by decide, Nat.le_refl 1, rfl⟩ ?_ ?_
        · rintro m σ H' ⟨many, stk, ys, s4, s5, s6, rfl, sH, hp, it, hg, hm, hlen, rfl⟩
          refine ⟨_, rfl, !ys.isEmpty, .inl ⟨ys, SqL.of hp, rfl⟩, ?_⟩
          rcases List.eq_nil_or_concat ys with e0 | ⟨ys', y, e0⟩
          · subst e0
            refine iteF ?_
            cases it
            have e : isProg (.tuple [.str k, d1]) = true := by
              rw [← hg]
              exact decide_eq_true hm
            rw [e] at q
            exact q H' sH
          rw [List.concat_eq_append] at e0
          subst e0
          obtain ⟨st, p, e0, it', ⟨t', v, e1, ht', hdv, hlay, h5⟩⟩ := Items.snoc ys' it
          subst e0 e1
          obtain ⟨b, dep⟩ := p
          refine ite2 (fun _ => ?_) (fun c => absurd (by simp) c)
          have ntp : t' ≠ pl := ne_of ht' hp (by intro z; cases z)
          refine ⟨_, rfl, .inl ⟨rfl, _, SqL.of hp⟩, pl, _, V.ref t', rfl, rfl, hp, (by simp), ?_⟩
          rw [show (ys' ++ [V.ref t']).dropLast = ys' by simp]
          refine ⟨t', _, rfl, SqT.of (by rw [upd_ne ntp]; exact ht'), rfl, _, _, rfl, _, _, rfl, rfl, ?_⟩
          have sH1 : Same H (upd H' pl (.lst ys')) := same_upd sH nplH _
          have kp1 : ∀ b o, b ≠ pl → H' b = some o → (upd H' pl (.lst ys')) b = some o := fun b o n e => by rw [upd_ne n]; exact e
          have it1 := it'.keep kp1 hp
          have hp1 : (upd H' pl (.lst ys')) pl = some (.lst ys') := upd_same
          have hdv1 : Dp K (upd H' pl (.lst ys')) v b := dp_mono sH1 _ _ hdv
          generalize upd H' pl (.lst ys') = H1 at sH1 it1 hp1 hdv1 ⊢
          refine ⟨_, rfl, v, .ty "tuple", _, _, _, rfl, .ty _, dp_ty hdv1, kit_isT b (by simp) (dp_nd hdv), _, rfl, ?_⟩
          cases hb : isT b "tuple" with
          | false =>
            refine iteT ?_
            rw [good_no hb] at hg
            rw [← hg] at q
            exact q H1 sH1
          | true =>
            refine iteF ?_
            obtain ⟨ss, rfl⟩ := isT_tup hb
            obtain ⟨ab, xs, rfl, hab, hss⟩ := dp_tup_inv hdv
            have hab1 : SqT K H1 ab xs := Same.tup sH1 hab
            have hl := dpAll_len hss
            refine ⟨_, rfl, _, rfl, ab, xs, rfl, .inr hab1, _, _, rfl, rfl, ?_⟩
            have lss : PyData.canLayAll0 ss = true := lay_tup hlay
            have hst : st.length ≤ 100 := by rw [List.length_append] at hlen; simp at hlen; omega
            have hover : (24 < many + ss.length ∨ (0 < ss.length ∧ 4 < dep)) → ∀ H', Same H H' → Q (.bl false) H' := fun c H2 s2 => by
              have e := good_over (kind := k) (st := st) c
              have e2 : isProg (.tuple [.str k, d1]) = false := hg.symm.trans e
              rw [e2] at q
              exact q H2 s2
            have hF : ∀ s, s ∈ ss → isOut s k = false → ∀ H', Same H H' → Q (.bl false) H' := fun s ms ho H2 s2 => by
              have e2 : isProg (.tuple [.str k, d1]) = false := hg.symm.trans (good_bad ho ms)
              rw [e2] at q
              exact q H2 s2
            have hN : many + ss.length ≤ 24 → (0 < ss.length → dep ≤ 4) → ∀ (H2 : Hp) (ys2 : List V) (s6 : Option V), (∀ s ∈ ss, isOut s k = true) → Same H H2 → H2 pl = some (.lst ys2) → Items K H H2 ys2 (st ++ pushes dep ss) →
                ∃ m', m' < tsz (st ++ [(.tuple ss, dep)]) ∧ ∃ (many' : Nat) (stk : List (PyData × Nat)) (ys : List V) (s4 s5 s6' : Option V), ([some (.ref a0), some (.str k), some (.int ((many + xs.length : Nat) : Int)), some (.ref pl), some (.ref ab), some (.int (dep : Nat)), s6, none] : L2.St) = [some (.ref a0), some (.str k), some (.int (many' : Nat)), some (.ref pl), s4, s5, s6', none] ∧
                Same H H2 ∧ H2 pl = some (.lst ys) ∧ Items K H H2 ys stk ∧ good k many' stk = isProg (.tuple [.str k, d1]) ∧ many' ≤ 24 ∧ stk.length ≤ 1 + 2 * many' ∧ m' = tsz stk := by
              intro h24 h4 H2 ys2 s6 hall s2 hp2 it2
              refine ⟨tsz (st ++ pushes dep ss), ?_, many + xs.length, st ++ pushes dep ss, ys2, _, _, _, rfl, s2, hp2, it2, ?_, by omega, ?_, rfl⟩
              · rw [tsz_append, tsz_append]
                have e1 := pushes_sz dep ss
                have e2 : tsz [(PyData.tuple ss, dep)] = 1 + szAll ss := by simp [tsz, sz]
                omega
              · rw [hl, good_step h5 h4 hall]
                exact hg
              · have e1 := pushes_len (kind := k) dep hall
                rw [List.length_append] at hlen ⊢
                simp only [List.length_cons, List.length_nil] at hlen
                omega
            refine ⟨_, rfl, _, _, rfl, rfl, _, rfl, ?_⟩
            by_cases c24 : (24 : Int) < (many : Nat) + (xs.length : Nat)
            · rw [decide_eq_true c24]
              exact iteT (iteT (hover (.inl (by omega)) H1 sH1))
            rw [decide_eq_false c24]
            refine iteF ⟨_, rfl, ab, xs, rfl, .inr hab1, _, _, rfl, rfl, _, rfl, ?_⟩
            by_cases c0 : (0 : Int) < (xs.length : Nat)
            · rw [decide_eq_true c0]
              refine iteT ⟨_, rfl, _, _, rfl, rfl, _, rfl, ?_⟩
              by_cases c4 : (4 : Int) < (dep : Nat)
              · rw [decide_eq_true (show (4 : Int) < (((PyData.tuple ss, dep).snd : Nat) : Int) from c4)]
                exact iteT (hover (.inr ⟨by omega, by omega⟩) H1 sH1)
              · rw [decide_eq_false (show ¬ (4 : Int) < (((PyData.tuple ss, dep).snd : Nat) : Int) from c4)]
                refine iteF ?_
                exact loop_ok (n := many + xs.length) (dep := dep) (s6 := s6) sH1 nplH hp1 it1 hab hss lss h5 (fun _ => by omega) (by omega) hst hF (hN (by omega) (fun _ => by omega))
            · rw [decide_eq_false c0]
              refine iteF (iteF ?_)
              exact loop_ok (n := many + xs.length) (dep := dep) (s6 := s6) sH1 nplH hp1 it1 hab hss lss h5 (fun h => by omega) (by omega) hst hF (hN (by omega) (fun h => by omega))
        · rintro σ H' Q1 Q2 h ⟨v, e, k, t, q⟩
          exact ⟨v, e, k, t, h _ _ q⟩
    · refine ite2 (fun _ => iteT ?_) (fun c => absurd ?_ c)
      · rw [prog_no (fun k b e => h2 (by injection e with e; rw [e]; rfl))] at q
        exact q H (Same.refl H)
      · rw [Bool.not_eq_true', decide_eq_false_iff_not]
        intro z
        have z' : ((xs.length : Nat) : Int) = 2 := by injection z
        omega
end
abbrev sBag : Stmt := top 39
abbrev sDraw : Stmt := top 40
abbrev sLarge : Stmt := top 41
abbrev sSteps : Stmt := top 42
abbrev sTermL : Stmt := top 43
abbrev sCondL : Stmt := top 44
abbrev sSimple : Stmt := top 45
abbrev sKind : Stmt := top 49
/-! ### the bag: a list of two numbers, drawn from -/
def Bag (H : Hp) (b : Addr) : Prop := ∃ c s : Int, H b = some (.lst [.int c, .int s]) ∧ 0 ≤ c ∧ 0 ≤ s ∧ s < 2147483648
/-- all but b stays -/
def Fr (b : Addr) (H H' : Hp) : Prop := ∀ a o, a ≠ b → H a = some o → H' a = some o
def hide (b : Addr) (H : Hp) : Hp := fun a => if a = b then none else H a
theorem Fr.refl (b : Addr) (H : Hp) : Fr b H H := fun _ _ _ h => h
theorem Fr.trans {b : Addr} {H H1 H2 : Hp} (x : Fr b H H1) (y : Fr b H1 H2) : Fr b H H2 := fun a o n h => y a o n (x a o n h)
theorem Fr.of {b : Addr} {H H' : Hp} (x : Same H H') : Fr b H H' := fun a o _ h => x a o h
theorem Fr.upd {b : Addr} {H : Hp} (o : HO) : Fr b H (upd H b o) := fun a u n h => by rw [upd_ne n]; exact h
theorem hide_same (b : Addr) (H : Hp) : Same (hide b H) H := fun a o h => by
  unfold hide at h
  split at h
  · cases h
  · exact h
theorem hide_mono {b : Addr} {H H' : Hp} (x : Fr b H H') : Same (hide b H) (hide b H') := fun a o h => by
  unfold hide at h ⊢
  split at h
  · cases h
  · rename_i n
    rw [if_neg n]
    exact x a o n h
theorem hide_get {b a : Addr} {H : Hp} {o : HO} (n : a ≠ b) (h : H a = some o) : hide b H a = some o := by
  unfold hide
  rw [if_neg n]
  exact h
theorem Bag.ne {H : Hp} {b p : Addr} (h : Bag H b) (n : H p = none) : b ≠ p := by
  obtain ⟨c, s, e, _⟩ := h
  exact ne_of_none e n
theorem Bag.keep {H H' : Hp} {b : Addr} (h : Bag H b) (s : Same H H') : Bag H' b := by
  obtain ⟨c, t, e, r⟩ := h
  exact ⟨c, t, s _ _ e, r⟩
/-- a datum, apart from the bag -/
abbrev Da (K : PySem.W.Frag) (b : Addr) (H : Hp) (v : V) (d : PyData) : Prop := Dp K (hide b H) v d
theorem Da.fr {K : PySem.W.Frag} {b : Addr} {H H' : Hp} {v : V} {d : PyData} (h : Da K b H v d) (x : Fr b H H') : Da K b H' v d := dp_mono (hide_mono x) _ _ h
theorem Da.dp {K : PySem.W.Frag} {b : Addr} {H : Hp} {v : V} {d : PyData} (h : Da K b H v d) : Dp K H v d := dp_mono (hide_same b H) _ _ h
theorem da_tup {K : PySem.W.Frag} {b p : Addr} {H : Hp} {xs : List V} {ds : List PyData} (n : p ≠ b) (h : H p = some (.tup xs)) (a : DpAll K (hide b H) xs ds) : Da K b H (.ref p) (.tuple ds) := .tup (SqT.of (hide_get n h)) a
def spBag (K : PySem.W.Frag) : Sp := fun vs H Q _ => ∃ (a : Addr) (ns : List Int) (k : Nat), vs = [.ref a, .int (k : Nat)] ∧ SqL K H a (ns.map V.int) ∧ ns.length ≤ 63 ∧ k < 64 ∧ ∀ H' p, Same H H' → H p = none → Bag H' p → Q (.ref p) H'
def spDraw : Sp := fun vs H Q _ => ∃ (b : Addr) (m : Int), vs = [.ref b, .int m] ∧ Bag H b ∧ 0 < m ∧ m < 1073741824 ∧ ∀ H' r, Fr b H H' → Bag H' b → 0 ≤ r → r < m → Q (.int r) H'
def spLarge : Sp := fun vs H Q _ => ∃ (b : Addr) (m : Int), vs = [.ref b, .int m] ∧ Bag H b ∧ 0 < m ∧ ∀ H' r, Fr b H H' → Bag H' b → 0 ≤ r → r < m → Q (.int r) H'
section
variable {P : Program} {w : World} {K : PySem.W.Frag} {mg : Str → Option Value} {base : Heap}
theorem scDraw : FnScope ["_law_bag_here", "_law_many", "_law_found"] ["_law_bag_here", "_law_many"] (defScope sDraw) := ⟨rfl, rfl, rfl, by decide +kernel, rfl, by decide +kernel, by decide +kernel⟩
theorem ok_draw {f : Addr} {fd : FuncData} (F : Fun K "_law_draw" "_law_draw" sDraw f fd) : FnOk P w K mg base CX0 1 f fd ["_law_bag_here", "_law_many"] spDraw := by
  refine F.ok scDraw (fun vs H Q E h => ?_) (fun cdv A outer s H vs Q E hr h => ?_)
  · obtain ⟨b, m, rfl, _⟩ := h
    rfl
  obtain ⟨b, m, rfl, ⟨c, t, hb, c0, t0, t1⟩, m0, m1, q⟩ := h
  refine ⟨_, pss_cons (ps_if (pt_cmpR op_gt (pe_ix ix_list (pv 0) pe_int (fun _ _ => rfl)) pe_int (nomark _))
      (pss_cons (ps_set (i := 2) scDraw.nd rfl (.inl rfl) (pe_op op_mod (pe_ix ix_list (pv 0) pe_int (fun _ _ => rfl)) (pv 1)))
      (pss_cons (ps_asg (pe_op op_fdiv (pe_ix ix_list (pv 0) pe_int (fun _ _ => rfl)) (pv 1)) (pg_sub (pv 0) pe_int set_list)) (pss_one (ps_ret (pv 2))))) pss_nil)
    (pss_cons (ps_asg (pe_op op_mod (pe_op op_mul (pe_ix ix_list (pv 0) pe_int (fun _ _ => rfl)) pe_int) pe_int) (pg_sub (pv 0) pe_int set_list))
    (pss_one (ps_ret (pe_op op_mod (pe_op op_fdiv (pe_op op_mod (pe_op op_mul (pe_ix ix_list (pv 0) pe_int (fun _ _ => rfl)) (pe_op op_add (pe_op op_fdiv (pe_ix ix_list (pv 0) pe_int (fun _ _ => rfl)) pe_int) pe_int)) pe_int) pe_int) (pv 1))))), ?_⟩
  refine ⟨_, rfl, b, _, _, _, rfl, rfl, SqL.of hb, atI_nat (j := 0) rfl, _, _, rfl, rfl, _, rfl, ?_⟩
  by_cases h : (0 : Int) < c
  · rw [decide_eq_true h]
    refine iteT ⟨_, rfl, b, _, _, _, rfl, rfl, SqL.of hb, atI_nat (j := 0) rfl, _, rfl, _, _, rfl, rfl, m0, ?_⟩
    refine ⟨_, rfl, b, _, _, _, rfl, rfl, SqL.of hb, atI_nat (j := 0) rfl, _, rfl, _, _, rfl, rfl, ⟨m0, m1⟩, _, rfl, b, _, _, 0, rfl, rfl, hb, rfl, ?_⟩
    refine ⟨_, rfl, q _ _ (Fr.upd _) ⟨c / m, t, upd_same, Int.ediv_nonneg c0 (by omega), t0, t1⟩ (Int.emod_nonneg _ (by omega)) (Int.emod_lt_of_pos _ m0)⟩
  · rw [decide_eq_false h]
    refine iteF ⟨_, rfl, b, _, _, _, rfl, rfl, SqL.of hb, atI_nat (j := 1) rfl, _, _, rfl, rfl, .inr (by decide), _, _, rfl, rfl, (by show (0 : Int) < 2147483647; decide), _, rfl, b, _, _, 1, rfl, rfl, hb, rfl, ?_⟩
    have n0 : 0 ≤ t * 48271 % 2147483647 := Int.emod_nonneg _ (by decide)
    have n1 : t * 48271 % 2147483647 < 2147483647 := Int.emod_lt_of_pos _ (by decide)
    have hb1 : (upd H b (.lst ([V.int c, V.int t].set 1 (V.int (t * 48271 % 2147483647))))) b = some (.lst [.int c, .int (t * 48271 % 2147483647)]) := upd_same
    have fr : Fr b H (upd H b (.lst ([V.int c, V.int t].set 1 (V.int (t * 48271 % 2147483647))))) := Fr.upd _
    generalize upd H b (.lst ([V.int c, V.int t].set 1 (V.int (t * 48271 % 2147483647)))) = H1 at hb1 fr ⊢
    generalize t * 48271 % 2147483647 = u at n0 n1 hb1 ⊢
    refine ⟨_, rfl, b, _, _, _, rfl, rfl, SqL.of hb1, atI_nat (j := 1) rfl, _, rfl, b, _, _, _, rfl, rfl, SqL.of hb1, atI_nat (j := 1) rfl, _, _, rfl, rfl, ⟨by decide, by decide⟩, _, _, rfl, rfl, _, _, rfl, rfl, .inl ⟨by omega, by omega⟩,
      _, _, rfl, rfl, (by show (0 : Int) < 2147483629; decide), _, _, rfl, rfl, ⟨by decide, by decide⟩, _, rfl, _, _, rfl, rfl, m0, ?_⟩
    exact q _ _ fr ⟨c, u, hb1, c0, n0, by omega⟩ (Int.emod_nonneg _ (by omega)) (Int.emod_lt_of_pos _ m0)
end
theorem seq_setC {v : V} {i : Nat} {u : TS} {D : Ends} {σ : L2.St} {H : Hp} (h : u D (σ.set i (some v)) H) : tSeq (tAsg (tC v) (gName i)) u D σ H := h
theorem at2 {x y : V} {r : Int} (h0 : 0 ≤ r) (h1 : r < 2) : ∃ v, atI [x, y] r = some v ∧ (v = x ∨ v = y) := by
  have : r = 0 ∨ r = 1 := by omega
  rcases this with rfl | rfl
  · exact ⟨x, rfl, .inl rfl⟩
  · exact ⟨y, rfl, .inr rfl⟩
theorem at3 {x y z : V} {r : Int} (h0 : 0 ≤ r) (h1 : r < 3) : ∃ v, atI [x, y, z] r = some v ∧ (v = x ∨ v = y ∨ v = z) := by
  have : r = 0 ∨ r = 1 ∨ r = 2 := by omega
  rcases this with rfl | rfl | rfl
  · exact ⟨x, rfl, .inl rfl⟩
  · exact ⟨y, rfl, .inr (.inl rfl)⟩
  · exact ⟨z, rfl, .inr (.inr rfl)⟩
theorem ab_at {r : Int} (h0 : 0 ≤ r) (h1 : r < 2) : ∃ c, atI ("ab" : Str).cps.toList r = some c ∧ inS (.str ⟨#[c]⟩) vars = true ∧ PyData.strOk ⟨#[c]⟩ = true := by
  have : r = 0 ∨ r = 1 := by omega
  rcases this with rfl | rfl
  · exact ⟨97, by decide +kernel, by decide +kernel, by decide +kernel⟩
  · exact ⟨98, by decide +kernel, by decide +kernel, by decide +kernel⟩
theorem asks_at {r : Int} (h0 : 0 ≤ r) (h1 : r < 3) : ∃ c, atI ("+-=" : Str).cps.toList r = some c ∧ inS (.str ⟨#[c]⟩) asks = true ∧ PyData.strOk ⟨#[c]⟩ = true := by
  have : r = 0 ∨ r = 1 ∨ r = 2 := by omega
  rcases this with rfl | rfl | rfl
  · exact ⟨43, by decide +kernel, by decide +kernel, by decide +kernel⟩
  · exact ⟨45, by decide +kernel, by decide +kernel, by decide +kernel⟩
  · exact ⟨61, by decide +kernel, by decide +kernel, by decide +kernel⟩
def spSteps : Sp := fun vs H Q _ => ∃ (b : Addr), vs = [.ref b] ∧ Bag H b ∧ ∀ H' r, Fr b H H' → Bag H' b → 1 ≤ r → r ≤ longest → Q (.int r) H'
def spTermL (K : PySem.W.Frag) : Sp := fun vs H Q _ => ∃ (b : Addr), vs = [.ref b] ∧ Bag H b ∧ ∀ H' v d, Fr b H H' → Bag H' b → (∀ H0, Dp K H0 v d) → isTerm d = true → Lay d → Q v H'
def spCondL (K : PySem.W.Frag) : Sp := fun vs H Q _ => ∃ (b : Addr), vs = [.ref b] ∧ Bag H b ∧ ∀ H' v d, Fr b H H' → Bag H' b → Da K b H' v d → isCond d = true → Lay d → Q v H'
def spKind : Sp := fun vs H Q _ => ∃ (b : Addr), vs = [.ref b] ∧ Bag H b ∧ ∀ H' (k : Str), Fr b H H' → Bag H' b → (k = "teller" ∨ k = "collector") → Q (.str k) H'
section
variable {P : Program} {w : World} {K : PySem.W.Frag} {mg : Str → Option Value} {base : Heap}
theorem scLarge : FnScope ["_law_bag_here", "_law_many", "_law_number", "_law_room"] ["_law_bag_here", "_law_many"] (defScope sLarge) := ⟨rfl, rfl, rfl, by decide +kernel, rfl, by decide +kernel, by decide +kernel⟩
theorem ok_large {f : Addr} {fd : FuncData} (F : Fun K "_law_large" "_law_large" sLarge f fd) (CD : Cal P w K mg base 1 "_law_draw" ["_law_bag_here", "_law_many"] spDraw) : FnOk P w K mg base CX0 2 f fd ["_law_bag_here", "_law_many"] spLarge := by
  refine F.ok scLarge (fun vs H Q E h => ?_) (fun cdv A outer s H vs Q E hr h => ?_)
  · obtain ⟨b, m, rfl, _⟩ := h
    rfl
  obtain ⟨b, m, rfl, hb, m0, q⟩ := h
  refine ⟨_, pss_cons (ps_set (i := 2) scLarge.nd rfl (.inl rfl) pe_int) (pss_cons (ps_set (i := 3) scLarge.nd rfl (.inl rfl) pe_int)
    (pss_cons (ps_while PassesOwn.never (pt_cmpR op_lt (pv 3) (pv 1) (nomark _))
      (pss_cons (ps_set (i := 2) scLarge.nd rfl (.inl rfl) (pe_op op_add (pe_op op_mul (pv 2) pe_int) (pe_call CD.G hr rfl CD.m CD.kp CD.b .nil pass0 (pa_cons (pv 0) (pa_cons pe_int pa_nil)))))
      (pss_one (ps_set (i := 3) scLarge.nd rfl (.inl rfl) (pe_op op_mul (pv 3) pe_int)))))
    (pss_one (ps_ret (pe_op op_mod (pv 2) (pv 1)))))), ?_⟩
  refine seq_setC (seq_setC (seq_while ?_))
  refine while_m (fun n σ H' => ∃ x r : Int, σ = [some (.ref b), some (.int m), some (.int x), some (.int r)] ∧ Fr b H H' ∧ Bag H' b ∧ 1 ≤ r ∧ n = (m - r).toNat) (m0 := (m - 1).toNat) ⟨0, 1, rfl, Fr.refl _ _, hb, by decide, rfl⟩ ?_ ?_
  · rintro n σ H' ⟨x, r, rfl, f1, hb1, r1, rfl⟩
    refine ⟨_, rfl, _, rfl, _, _, rfl, rfl, _, rfl, ?_⟩
    by_cases c : r < m
    · rw [decide_eq_true c]
      refine iteT ⟨_, rfl, _, _, rfl, rfl, .inr (by decide), _, rfl, b, 1048576, rfl, hb1, by decide, by decide, fun H2 u f2 hb2 _ _ => ⟨_, _, rfl, rfl, _, rfl, _, _, rfl, rfl, .inr (by decide), ?_⟩⟩
      exact ⟨(m - r * 1048576).toNat, by omega, _, _, rfl, f1.trans f2, hb2, by omega, rfl⟩
    · rw [decide_eq_false c]
      exact iteF ⟨_, rfl, _, rfl, _, _, rfl, rfl, m0, q _ _ f1 hb1 (Int.emod_nonneg _ (by omega)) (Int.emod_lt_of_pos _ m0)⟩
  · rintro σ H' Q1 Q2 h ⟨v, e, v2, e2, i, j, e3, e4, k, e5, q⟩
    exact ⟨v, e, v2, e2, i, j, e3, e4, k, e5, h _ _ q⟩
theorem scSteps : FnScope ["_law_bag_here"] ["_law_bag_here"] (defScope sSteps) := ⟨rfl, rfl, rfl, by decide +kernel, rfl, by decide +kernel, by decide +kernel⟩
theorem pow30 : (10 : Int) ^ (30 : Int).toNat = longest := by decide +kernel
theorem ok_steps {f : Addr} {fd : FuncData} (F : Fun K "_law_steps" "_law_steps" sSteps f fd) (CD : Cal P w K mg base 1 "_law_draw" ["_law_bag_here", "_law_many"] spDraw) (CL : Cal P w K mg base 2 "_law_large" ["_law_bag_here", "_law_many"] spLarge) :
    FnOk P w K mg base CX0 3 f fd ["_law_bag_here"] spSteps := by
  refine F.ok scSteps (fun vs H Q E h => ?_) (fun cdv A outer s H vs Q E hr h => ?_)
  · obtain ⟨b, rfl, _⟩ := h
    rfl
  obtain ⟨b, rfl, hb, q⟩ := h
  have hr1 : Room 1 _ := hr.mono (by decide)
  refine ⟨_, pss_one (ps_ret (pe_ix ix_list (pe_lst (pa_cons (pe_op op_add pe_int (pe_call CD.G hr1 rfl CD.m CD.kp CD.b .nil pass0 (pa_cons (pv 0) (pa_cons pe_int pa_nil))))
      (pa_cons (pe_op op_add pe_int (pe_call CL.G hr rfl CL.m CL.kp CL.b .nil pass0 (pa_cons (pv 0) (pa_cons (pe_op op_pow pe_int pe_int) pa_nil))))
      (pa_cons (pe_op op_sub (pe_op op_pow pe_int pe_int) (pe_call CD.G hr1 rfl CD.m CD.kp CD.b .nil pass0 (pa_cons (pv 0) (pa_cons pe_int pa_nil)))) pa_nil))))
    (pe_op op_fdiv (pe_call CD.G hr1 rfl CD.m CD.kp CD.b .nil pass0 (pa_cons (pv 0) (pa_cons pe_int pa_nil))) pe_int) (fun _ _ => rfl))), ?_⟩
  refine ⟨_, rfl, b, 4, rfl, hb, by decide, by decide, fun H1 r1 f1 b1 r10 r11 => ⟨_, _, rfl, rfl, _, rfl, _, _, rfl, rfl, ⟨by decide, by decide, by decide⟩, b, _, rfl, b1, (by rw [pow30]; decide), fun H2 r2 f2 b2 r20 r21 => ⟨_, _, rfl, rfl, _, _, rfl, rfl, ⟨by decide, by decide, by decide⟩, _, rfl, b, 2, rfl, b2, by decide, by decide,
    fun H3 r3 f3 b3 r30 r31 => ⟨_, _, rfl, rfl, (by show 3 ≤ sizeLine; decide), fun p np => ⟨_, rfl, b, 8, rfl, b3.keep (same_new np _), by decide, by decide, fun H4 r4 f4 b4 r40 r41 => ⟨_, _, rfl, rfl, ⟨by decide, by decide⟩, ?_⟩⟩⟩⟩⟩⟩
  have np4 : p ≠ b := (b3.ne np).symm
  have hp4 := f4 p _ np4 upd_same
  obtain ⟨v, hv, hc⟩ := at3 (x := V.int (1 + r1)) (y := V.int (1 + r2)) (z := V.int (10 ^ (30 : Int).toNat - r3)) (r := r4 / 3) (by omega) (by omega)
  refine ⟨p, _, _, _, rfl, rfl, SqL.of hp4, hv, ?_⟩
  have fr : Fr b H H4 := f1.trans (f2.trans (f3.trans ((Fr.of (same_new np _)).trans f4)))
  rw [pow30] at hc r21
  have e30 : longest = 1000000000000000000000000000000 := rfl
  rcases hc with rfl | rfl | rfl
  · exact q _ _ fr b4 (by omega) (by omega)
  · exact q _ _ fr b4 (by omega) (by omega)
  · exact q _ _ fr b4 (by omega) (by omega)
end
structure G2 (mg : Str → Option Value) : Prop where
  abs : mg "abs" = none
  max : mg "max" = none
  min : mg "min" = none
  range : mg "range" = none
theorem one_or (b : Bool) : -(2 ^ 64) < (if b = true then (1 : Int) else 0) ∧ (if b = true then (1 : Int) else 0) < 2 ^ 64 := by cases b <;> decide
theorem part_variable (d : PyData) : isPart d "variable" = inS d vars := by unfold isPart; rw [if_pos rfl]
theorem part_term (d : PyData) : isPart d "term" = isTerm d := by unfold isPart; rw [if_neg (by decide +kernel), if_pos rfl]
theorem part_sign (d : PyData) : isPart d "sign" = inS d asks := by unfold isPart; rw [if_neg (by decide +kernel), if_neg (by decide +kernel), if_pos rfl]
theorem part_steps (d : PyData) : isPart d "steps" = intIn d 1 longest := by unfold isPart; rw [if_neg (by decide +kernel), if_neg (by decide +kernel), if_neg (by decide +kernel), if_pos rfl]
theorem part_answer (d : PyData) : isPart d "answer" = intIn d 0 1 := by unfold isPart; rw [if_neg (by decide +kernel), if_neg (by decide +kernel), if_neg (by decide +kernel), if_neg (by decide +kernel), if_pos rfl]
theorem part_value (d : PyData) : isPart d "value" = intIn d 0 15 := by unfold isPart; rw [if_neg (by decide +kernel), if_neg (by decide +kernel), if_neg (by decide +kernel), if_neg (by decide +kernel), if_neg (by decide +kernel)]
theorem roles_set (k : Str) : rolesZ "set" k = some (["variable", "value"] : List Str) := by unfold rolesZ; rw [if_pos rfl]
theorem roles_add (k : Str) : rolesZ "add" k = some (["variable", "term"] : List Str) := by unfold rolesZ; rw [if_neg (by decide +kernel), if_pos rfl]
theorem roles_wait (k : Str) : rolesZ "wait" k = some (["steps"] : List Str) := by unfold rolesZ; rw [if_neg (by decide +kernel), if_neg (by decide +kernel), if_pos rfl]
theorem roles_ask : rolesZ "ask" "teller" = some (["sign", "term", "variable"] : List Str) := by decide +kernel
theorem roles_answer : rolesZ "answer" "teller" = some (["answer"] : List Str) := by decide +kernel
theorem roles_grow : rolesZ "grow" "collector" = some (["term"] : List Str) := by decide +kernel
theorem roles_list : rolesZ "list" "collector" = some (["term"] : List Str) := by decide +kernel
theorem plain1 {z k r : Str} {p : PyData} (h : rolesZ z k = some [r]) (e : isPart p r = true) : isPlain (.tuple [.str z, p]) k = true := by
  rw [plain_some h]; simp [allParts, e]
theorem plain2 {z k r1 r2 : Str} {p1 p2 : PyData} (h : rolesZ z k = some [r1, r2]) (e1 : isPart p1 r1 = true) (e2 : isPart p2 r2 = true) : isPlain (.tuple [.str z, p1, p2]) k = true := by
  rw [plain_some h]; simp [allParts, e1, e2]
theorem plain3 {z k r1 r2 r3 : Str} {p1 p2 p3 : PyData} (h : rolesZ z k = some [r1, r2, r3]) (e1 : isPart p1 r1 = true) (e2 : isPart p2 r2 = true) (e3 : isPart p3 r3 = true) : isPlain (.tuple [.str z, p1, p2, p3]) k = true := by
  rw [plain_some h]; simp [allParts, e1, e2, e3]
theorem lay_str {z : Str} (h : PyData.strOk z = true) : Lay (.str z) := by unfold Lay; simp only [PyData.canLay0]; exact h
theorem lay_int (i : Int) : Lay (.int i) := by unfold Lay; simp only [PyData.canLay0]
theorem lay_nil : Lay (.tuple []) := by unfold Lay; simp only [PyData.canLay0, PyData.canLayAll0]
theorem lay_all : ∀ {ds : List PyData}, (∀ d ∈ ds, Lay d) → PyData.canLayAll0 ds = true
  | [], _ => by simp only [PyData.canLayAll0]
  | d :: r, h => by
    simp only [PyData.canLayAll0, Bool.and_eq_true]
    exact ⟨h d (by simp), lay_all fun x m => h x (List.mem_cons_of_mem _ m)⟩
theorem lay_tuple {ds : List PyData} (h : ∀ d ∈ ds, Lay d) : Lay (.tuple ds) := by unfold Lay; simp only [PyData.canLay0]; exact lay_all h
theorem lay2 {a b : PyData} (ha : Lay a) (hb : Lay b) : Lay (.tuple [a, b]) := lay_tuple (by intro d m; simp at m; rcases m with rfl | rfl <;> assumption)
theorem lay3 {a b c : PyData} (ha : Lay a) (hb : Lay b) (hc : Lay c) : Lay (.tuple [a, b, c]) := lay_tuple (by intro d m; simp at m; rcases m with rfl | rfl | rfl <;> assumption)
theorem lay4 {a b c e : PyData} (ha : Lay a) (hb : Lay b) (hc : Lay c) (he : Lay e) : Lay (.tuple [a, b, c, e]) := lay_tuple (by intro d m; simp at m; rcases m with rfl | rfl | rfl | rfl <;> assumption)
def spSimple (K : PySem.W.Frag) : Sp := fun vs H Q _ => ∃ (b : Addr) (k : Str), vs = [.ref b, .str k] ∧ Bag H b ∧ (k = "teller" ∨ k = "collector") ∧ ∀ H' v d, Fr b H H' → Bag H' b → Da K b H' v d → isPlain d k = true → Lay d → Q v H'
section
variable {P : Program} {w : World} {K : PySem.W.Frag} {mg : Str → Option Value} {base : Heap}
theorem scBag : FnScope ["_law_script", "_law_k", "_law_cell", "_law_state"] ["_law_script", "_law_k"] (defScope sBag) := ⟨rfl, rfl, rfl, by decide +kernel, rfl, by decide +kernel, by decide +kernel⟩
theorem ok_bag {f : Addr} {fd : FuncData} (F : Fun K "_law_bag" "_law_bag" sBag f fd) (T : Gs K mg) (T2 : G2 mg) : FnOk P w K mg base CX0 1 f fd ["_law_script", "_law_k"] (spBag K) := by
  refine F.ok scBag (fun vs H Q E h => ?_) (fun cdv A outer s H vs Q E hr h => ?_)
  · obtain ⟨a, ns, k, rfl, _⟩ := h
    rfl
  obtain ⟨a, ns, k, rfl, hS, h63, hk, q⟩ := h
  refine ⟨_, pss_cons (ps_set (i := 2) scBag.nd rfl (.inl rfl) pe_int)
    (pss_cons (ps_if (pt_cmpR op_lt (pv 1) (pe_callB call_len_seq (by rfl) T.len PySem.boot_len (pa_cons (pv 0) pa_nil)) (nomark _)) (pss_one (ps_set (i := 2) scBag.nd rfl (.inl rfl) (pe_callB call_abs (by rfl) T2.abs (by decide +kernel) (pa_cons (pe_ix ix_list (pv 0) (pv 1) (fun _ _ => rfl)) pa_nil)))) pss_nil)
    (pss_cons (ps_set (i := 3) scBag.nd rfl (.inl rfl) (pe_op op_add pe_int (pe_op op_mod (pe_op op_add (pe_op op_add (pe_op op_add (pe_op op_mul (pe_op op_mod (pv 2) pe_int) pe_int) (pe_op op_mul (pe_op op_mul pe_int (pv 1)) (pv 1))) (pe_op op_mul pe_int (pv 1))) pe_int) pe_int)))
    (pss_one (ps_ret (pe_lst (pa_cons (pe_op op_mul (pv 2) (pe_callTy call_int1 (by rfl) T.int (by decide +kernel) (pa_cons (pe_cmpR op_ge (pv 2) (pe_op op_pow pe_int pe_int) (nomark _)) pa_nil))) (pa_cons (pv 3) pa_nil))))))), ?_⟩
  have hl : (ns.map V.int).length = ns.length := List.length_map _
  refine ⟨_, rfl, _, rfl, a, _, rfl, .inl hS, _, _, rfl, rfl, _, rfl, ?_⟩
  have fin : ∀ (cell : Int) (z : Int), 0 ≤ cell → ∀ p, H p = none → Q (.ref p) (upd H p (.lst [.int (cell * (if decide ((10 : Int) ^ (18 : Int).toNat ≤ cell) then 1 else 0)), .int (1 + z % 2147483646)])) := fun cell z h0 p np => by
    refine q _ p (same_new np _) np ⟨_, _, upd_same, ?_, ?_, ?_⟩
    · split
      · omega
      · omega
    · have := Int.emod_nonneg z (show (2147483646 : Int) ≠ 0 by decide); omega
    · have := Int.emod_lt_of_pos z (show (0 : Int) < 2147483646 by decide); omega
  refine ite2 (fun c => ?_) (fun c => ?_)
  · have c' := of_decide_eq_true c
    rw [hl] at c'
    have hkn : k < ns.length := by omega
    have hat : atI (ns.map V.int) ((k : Nat) : Int) = some (.int ns[k]) := atI_nat (by rw [List.getElem?_map, List.getElem?_eq_getElem hkn]; rfl)
    have h0 : 0 ≤ (if ns[k] < 0 then -ns[k] else ns[k]) := by split <;> omega
    refine ⟨_, rfl, _, rfl, a, _, _, _, rfl, rfl, hS, hat, _, rfl, ?_⟩
    exact ⟨_, rfl, _, _, rfl, rfl, (by show (0 : Int) < 2147483647; decide), _, _, rfl, rfl, .inr (by decide), _, rfl, _, _, rfl, rfl, .inl (by decide), _, rfl, _, _, rfl, rfl, .inr ⟨by omega, by omega⟩, _, _, rfl, rfl, _, rfl, _, _, rfl, rfl, .inl (by decide), _, _, rfl, rfl, _, _, rfl, rfl, _, _, rfl, rfl, (by show (0 : Int) < 2147483646; decide), _, _, rfl, rfl,
      _, rfl, _, rfl, _, _, rfl, rfl, ⟨by decide, by decide, by decide⟩, _, _, rfl, rfl, .inr ⟨_, rfl, _, _, rfl, rfl, Or.inr (one_or _), _, rfl, (by show 2 ≤ sizeLine; decide), fun p np => fin _ _ h0 p np⟩⟩
  · exact ⟨_, rfl, _, _, rfl, rfl, (by show (0 : Int) < 2147483647; decide), _, _, rfl, rfl, .inr (by decide), _, rfl, _, _, rfl, rfl, .inl (by decide), _, rfl, _, _, rfl, rfl, .inr ⟨by omega, by omega⟩, _, _, rfl, rfl, _, rfl, _, _, rfl, rfl, .inl (by decide), _, _, rfl, rfl, _, _, rfl, rfl, _, _, rfl, rfl, (by show (0 : Int) < 2147483646; decide), _, _, rfl, rfl,
      _, rfl, _, rfl, _, _, rfl, rfl, ⟨by decide, by decide, by decide⟩, _, _, rfl, rfl, .inr ⟨_, rfl, _, _, rfl, rfl, Or.inr (one_or _), _, rfl, (by show 2 ≤ sizeLine; decide), fun p np => fin _ _ (Int.le_refl 0) p np⟩⟩
theorem scTermL : FnScope ["_law_bag_here", "_law_value"] ["_law_bag_here"] (defScope sTermL) := ⟨rfl, rfl, rfl, by decide +kernel, rfl, by decide +kernel, by decide +kernel⟩
theorem ok_termL {f : Addr} {fd : FuncData} (F : Fun K "_law_term" "_law_term" sTermL f fd) (CD : Cal P w K mg base 1 "_law_draw" ["_law_bag_here", "_law_many"] spDraw) : FnOk P w K mg base CX0 2 f fd ["_law_bag_here"] (spTermL K) := by
  refine F.ok scTermL (fun vs H Q E h => ?_) (fun cdv A outer s H vs Q E hr h => ?_)
  · obtain ⟨b, rfl, _⟩ := h
    rfl
  obtain ⟨b, rfl, hb, q⟩ := h
  refine ⟨_, pss_cons (ps_set (i := 1) scTermL.nd rfl (.inl rfl) (pe_call CD.G hr rfl CD.m CD.kp CD.b .nil pass0 (pa_cons (pv 0) (pa_cons pe_int pa_nil))))
    (pss_cons (ps_if (pt_cmpR op_gt (pv 1) pe_int (nomark _)) (pss_one (ps_ret (pe_ix ix_str pe_str (pe_op op_mod (pv 1) pe_int) (fun _ _ => rfl)))) pss_nil) (pss_one (ps_ret (pv 1)))), ?_⟩
  refine ⟨_, rfl, b, 20, rfl, hb, by decide, by decide, fun H1 r f1 b1 r0 r1 => ⟨_, rfl, _, _, rfl, rfl, _, rfl, ?_⟩⟩
  refine ite2 (fun c => ?_) (fun c => ?_)
  · obtain ⟨ch, hc, hv, ho⟩ := ab_at (r := r % 2) (by omega) (by omega)
    refine ⟨_, rfl, _, _, rfl, rfl, (by show (0 : Int) < 2; decide), _, _, _, rfl, rfl, by decide +kernel, hc, ?_⟩
    refine q _ _ _ f1 b1 (fun H0 => .str _) ?_ (lay_str ho)
    unfold isTerm
    rw [hv]
    rfl
  · have c' : ¬ (15 : Int) < r := of_decide_eq_false (Bool.eq_false_iff.mpr c)
    refine ⟨_, rfl, q _ _ _ f1 b1 (fun H0 => .int _) ?_ (lay_int _)⟩
    have e : intIn (.int r) 0 15 = true := by simp [intIn]; omega
    unfold isTerm
    rw [e, Bool.or_true]
theorem scKind : FnScope ["_law_bag_here"] ["_law_bag_here"] (defScope sKind) := ⟨rfl, rfl, rfl, by decide +kernel, rfl, by decide +kernel, by decide +kernel⟩
theorem ok_kind {f : Addr} {fd : FuncData} (F : Fun K "_law_kind" "_law_kind" sKind f fd) (CD : Cal P w K mg base 1 "_law_draw" ["_law_bag_here", "_law_many"] spDraw) : FnOk P w K mg base CX0 2 f fd ["_law_bag_here"] spKind := by
  refine F.ok scKind (fun vs H Q E h => ?_) (fun cdv A outer s H vs Q E hr h => ?_)
  · obtain ⟨b, rfl, _⟩ := h
    rfl
  obtain ⟨b, rfl, hb, q⟩ := h
  refine ⟨_, pss_one (ps_ret (pe_ix ix_list (pe_lst (pa_cons pe_str (pa_cons pe_str pa_nil))) (pe_call CD.G hr rfl CD.m CD.kp CD.b .nil pass0 (pa_cons (pv 0) (pa_cons pe_int pa_nil))) (fun _ _ => rfl))), ?_⟩
  refine ⟨(by show 2 ≤ sizeLine; decide), fun p np => ⟨_, rfl, b, 2, rfl, hb.keep (same_new np _), by decide, by decide, fun H1 r f1 b1 r0 r1 => ?_⟩⟩
  have hp := f1 p _ (hb.ne np).symm upd_same
  have fr : Fr b H H1 := (Fr.of (same_new np _)).trans f1
  obtain ⟨v, hv, hc⟩ := at2 (x := V.str "teller") (y := V.str "collector") r0 r1
  refine ⟨p, _, _, _, rfl, rfl, SqL.of hp, hv, ?_⟩
  rcases hc with rfl | rfl
  · exact q _ _ fr b1 (.inl rfl)
  · exact q _ _ fr b1 (.inr rfl)
theorem scCondL : FnScope ["_law_bag_here"] ["_law_bag_here"] (defScope sCondL) := ⟨rfl, rfl, rfl, by decide +kernel, rfl, by decide +kernel, by decide +kernel⟩
theorem ok_condL {f : Addr} {fd : FuncData} (F : Fun K "_law_condition" "_law_condition" sCondL f fd) (CD : Cal P w K mg base 1 "_law_draw" ["_law_bag_here", "_law_many"] spDraw) (CT : Cal P w K mg base 2 "_law_term" ["_law_bag_here"] (spTermL K)) :
    FnOk P w K mg base CX0 3 f fd ["_law_bag_here"] (spCondL K) := by
  refine F.ok scCondL (fun vs H Q E h => ?_) (fun cdv A outer s H vs Q E hr h => ?_)
  · obtain ⟨b, rfl, _⟩ := h
    rfl
  obtain ⟨b, rfl, hb, q⟩ := h
  have hr1 : Room 1 _ := hr.mono (by decide)
  refine ⟨_, pss_one (ps_ret (pe_tup (pa_cons (pe_ix ix_str pe_str (pe_call CD.G hr1 rfl CD.m CD.kp CD.b .nil pass0 (pa_cons (pv 0) (pa_cons pe_int pa_nil))) (fun _ _ => rfl))
    (pa_cons (pe_ix ix_list (pe_lst (pa_cons pe_str (pa_cons pe_str (pa_cons pe_str pa_nil)))) (pe_call CD.G hr1 rfl CD.m CD.kp CD.b .nil pass0 (pa_cons (pv 0) (pa_cons pe_int pa_nil))) (fun _ _ => rfl))
    (pa_cons (pe_call CT.G hr rfl CT.m CT.kp CT.b .nil pass0 (pa_cons (pv 0) pa_nil)) pa_nil))))), ?_⟩
  refine ⟨_, rfl, b, 2, rfl, hb, by decide, by decide, fun H1 r f1 b1 r0 r1 => ?_⟩
  obtain ⟨ch, hc, hv, ho⟩ := ab_at r0 r1
  refine ⟨_, _, _, rfl, rfl, by decide +kernel, hc, (by show 3 ≤ sizeLine; decide), fun p np => ⟨_, rfl, b, 3, rfl, b1.keep (same_new np _), by decide, by decide, fun H2 r2 f2 b2 r20 r21 => ?_⟩⟩
  have hp := f2 p _ (b1.ne np).symm upd_same
  obtain ⟨v, hv2, hc2⟩ := at3 (x := V.str "==") (y := V.str "!=") (z := V.str "<") r20 r21
  refine ⟨p, _, _, _, rfl, rfl, SqL.of hp, hv2, _, rfl, b, rfl, b2, fun H3 v3 d3 f3 b3 hd3 ht3 l3 => ⟨(by show 3 ≤ sizeLine; decide), fun t nt => ?_⟩⟩
  have fr : Fr b H (upd H3 t (.tup [.str ⟨#[ch]⟩, v, v3])) := f1.trans ((Fr.of (same_new np _)).trans (f2.trans (f3.trans (Fr.of (same_new nt _)))))
  have key : ∀ z : Str, v = .str z → inS (.str z) signs = true → PyData.strOk z = true → Q (.ref t) (upd H3 t (.tup [.str ⟨#[ch]⟩, v, v3])) := fun z e hz oz => by
    subst e
    refine q _ _ (.tuple [.str ⟨#[ch]⟩, .str z, d3]) fr (b3.keep (same_new nt _)) (da_tup (b3.ne nt).symm upd_same (.cons (.str _) (.cons (.str _) (.cons (hd3 _) .nil)))) ?_ (lay3 (lay_str ho) (lay_str oz) l3)
    show (inS (.str ⟨#[ch]⟩) vars && inS (.str z) signs && isTerm d3) = true
    rw [hv, hz, ht3]
    rfl
  rcases hc2 with e | e | e
  · exact key _ e (by decide +kernel) (by decide +kernel)
  · exact key _ e (by decide +kernel) (by decide +kernel)
  · exact key _ e (by decide +kernel) (by decide +kernel)
theorem scSimple : FnScope ["_law_bag_here", "_law_kind_here", "_law_way", "_law_variable"] ["_law_bag_here", "_law_kind_here"] (defScope sSimple) := ⟨rfl, rfl, rfl, by decide +kernel, rfl, by decide +kernel, by decide +kernel⟩
theorem ok_simple {f : Addr} {fd : FuncData} (F : Fun K "_law_simple" "_law_simple" sSimple f fd) (CD : Cal P w K mg base 1 "_law_draw" ["_law_bag_here", "_law_many"] spDraw) (CT : Cal P w K mg base 2 "_law_term" ["_law_bag_here"] (spTermL K)) (CS : Cal P w K mg base 3 "_law_steps" ["_law_bag_here"] spSteps) :
    FnOk P w K mg base CX0 4 f fd ["_law_bag_here", "_law_kind_here"] (spSimple K) := by
  refine F.ok scSimple (fun vs H Q E h => ?_) (fun cdv A outer s H vs Q E hr h => ?_)
  · obtain ⟨b, k, rfl, _⟩ := h
    rfl
  obtain ⟨b, k, rfl, hb, hk, q⟩ := h
  have hr1 : Room 1 _ := hr.mono (by decide)
  have hr2 : Room 2 _ := hr.mono (by decide)
  refine ⟨_, pss_cons (ps_set (i := 2) scSimple.nd rfl (.inl rfl) (pe_call CD.G hr1 rfl CD.m CD.kp CD.b .nil pass0 (pa_cons (pv 0) (pa_cons pe_int pa_nil))))
    (pss_cons (ps_set (i := 3) scSimple.nd rfl (.inl rfl) (pe_ix ix_str pe_str (pe_call CD.G hr1 rfl CD.m CD.kp CD.b .nil pass0 (pa_cons (pv 0) (pa_cons pe_int pa_nil))) (fun _ _ => rfl)))
    (pss_cons (ps_if (pt_cmpR op_eq (pv 2) pe_int (nomark _)) (pss_one (ps_ret (pe_tup (pa_cons pe_str (pa_cons (pe_call CS.G hr rfl CS.m CS.kp CS.b .nil pass0 (pa_cons (pv 0) pa_nil)) pa_nil))))) pss_nil)
    (pss_cons (ps_if (pt_cmpR op_lt (pv 2) pe_int (nomark _)) (pss_one (ps_ret (pe_tup (pa_cons pe_str (pa_cons (pv 3) (pa_cons (pe_call CD.G hr1 rfl CD.m CD.kp CD.b .nil pass0 (pa_cons (pv 0) (pa_cons pe_int pa_nil))) pa_nil)))))) pss_nil)
    (pss_cons (ps_if (pt_cmpR op_lt (pv 2) pe_int (nomark _)) (pss_one (ps_ret (pe_tup (pa_cons pe_str (pa_cons (pv 3) (pa_cons (pe_call CT.G hr2 rfl CT.m CT.kp CT.b .nil pass0 (pa_cons (pv 0) pa_nil)) pa_nil)))))) pss_nil)
    (pss_cons (ps_if (pt_cmpR op_eq (pv 1) pe_str (nomark _)) (pss_one (ps_ret (pe_tup (pa_cons (pe_ix ix_list (pe_lst (pa_cons pe_str (pa_cons pe_str pa_nil))) (pe_op op_mod (pv 2) pe_int) (fun _ _ => rfl)) (pa_cons (pe_call CT.G hr2 rfl CT.m CT.kp CT.b .nil pass0 (pa_cons (pv 0) pa_nil)) pa_nil))))) pss_nil)
    (pss_cons (ps_if (PW.pt (pw_and (pt_cmpR op_eq (pv 2) pe_int (nomark _)) (pw_and1 (pt_cmpR op_eq (pe_call CD.G hr1 rfl CD.m CD.kp CD.b .nil pass0 (pa_cons (pv 0) (pa_cons pe_int pa_nil))) pe_int (nomark _)))))
      (pss_one (ps_ret (pe_tup (pa_cons pe_str (pa_cons (pe_call CD.G hr1 rfl CD.m CD.kp CD.b .nil pass0 (pa_cons (pv 0) (pa_cons pe_int pa_nil))) pa_nil))))) pss_nil)
    (pss_one (ps_ret (pe_tup (pa_cons pe_str (pa_cons (pe_ix ix_str pe_str (pe_call CD.G hr1 rfl CD.m CD.kp CD.b .nil pass0 (pa_cons (pv 0) (pa_cons pe_int pa_nil))) (fun _ _ => rfl)) (pa_cons (pe_call CT.G hr2 rfl CT.m CT.kp CT.b .nil pass0 (pa_cons (pv 0) pa_nil)) (pa_cons (pv 3) pa_nil))))))))))))), ?_⟩
  refine ⟨_, rfl, b, 8, rfl, hb, by decide, by decide, fun H1 r f1 b1 r0 r1 => ⟨_, rfl, b, 2, rfl, b1, by decide, by decide, fun H2 r2 f2 b2 r20 r21 => ?_⟩⟩
  obtain ⟨ch, hc, hv, ho⟩ := ab_at r20 r21
  have f12 := f1.trans f2
  refine ⟨_, _, _, rfl, rfl, by decide +kernel, hc, ?_⟩
  refine ⟨_, rfl, rfl, _, rfl, ite2 (fun c => ?_) (fun c => ?_)⟩
  · refine ⟨_, rfl, b, rfl, b2, fun H3 x f3 b3 x0 x1 => ⟨(by show 2 ≤ sizeLine; decide), fun t nt => ?_⟩⟩
    refine q _ _ (.tuple [.str "wait", .int x]) (f12.trans (f3.trans (Fr.of (same_new nt _)))) (b3.keep (same_new nt _)) (da_tup (b3.ne nt).symm upd_same (.cons (.str _) (.cons (.int _) .nil))) (plain1 (roles_wait k) ?_) (lay2 (lay_str (by decide +kernel)) (lay_int _))
    rw [part_steps]; simp [intIn, x0, x1]
  refine ⟨_, rfl, _, _, rfl, rfl, _, rfl, ite2 (fun c => ?_) (fun c => ?_)⟩
  · refine ⟨_, rfl, _, rfl, b, 16, rfl, b2, by decide, by decide, fun H3 x f3 b3 x0 x1 => ⟨(by show 3 ≤ sizeLine; decide), fun t nt => ?_⟩⟩
    refine q _ _ (.tuple [.str "set", .str ⟨#[ch]⟩, .int x]) (f12.trans (f3.trans (Fr.of (same_new nt _)))) (b3.keep (same_new nt _)) (da_tup (b3.ne nt).symm upd_same (.cons (.str _) (.cons (.str _) (.cons (.int _) .nil)))) (plain2 (roles_set k) (by rw [part_variable]; exact hv) ?_) (lay3 (lay_str (by decide +kernel)) (lay_str ho) (lay_int _))
    rw [part_value]; simp [intIn, x0]; omega
  refine ⟨_, rfl, _, _, rfl, rfl, _, rfl, ite2 (fun c => ?_) (fun c => ?_)⟩
  · refine ⟨_, rfl, _, rfl, b, rfl, b2, fun H3 x d3 f3 b3 hd3 t3 l3 => ⟨(by show 3 ≤ sizeLine; decide), fun t nt => ?_⟩⟩
    exact q _ _ (.tuple [.str "add", .str ⟨#[ch]⟩, d3]) (f12.trans (f3.trans (Fr.of (same_new nt _)))) (b3.keep (same_new nt _)) (da_tup (b3.ne nt).symm upd_same (.cons (.str _) (.cons (.str _) (.cons (hd3 _) .nil)))) (plain2 (roles_add k) (by rw [part_variable]; exact hv) (by rw [part_term]; exact t3)) (lay3 (lay_str (by decide +kernel)) (lay_str ho) l3)
  refine ⟨_, rfl, rfl, _, rfl, ite2 (fun c => ?_) (fun c => ?_)⟩
  · have ek : k = "collector" := by
      have c' := of_decide_eq_true c
      injection c'
    subst ek
    refine ⟨(by show 2 ≤ sizeLine; decide), fun p np => ?_⟩
    obtain ⟨v, hv2, hc2⟩ := at2 (x := V.str "grow") (y := V.str "list") (r := r % 2) (by omega) (by omega)
    refine ⟨_, rfl, _, _, rfl, rfl, (by show (0 : Int) < 2; decide), p, _, _, _, rfl, rfl, SqL.of upd_same, hv2, _, rfl, b, rfl, b2.keep (same_new np _), fun H3 x d3 f3 b3 hd3 t3 l3 => ⟨(by show 2 ≤ sizeLine; decide), fun t nt => ?_⟩⟩
    have fr : Fr b H (upd H3 t (.tup [v, x])) := f12.trans ((Fr.of (same_new np _)).trans (f3.trans (Fr.of (same_new nt _))))
    rcases hc2 with rfl | rfl
    · exact q _ _ (.tuple [.str "grow", d3]) fr (b3.keep (same_new nt _)) (da_tup (b3.ne nt).symm upd_same (.cons (.str _) (.cons (hd3 _) .nil))) (plain1 roles_grow (by rw [part_term]; exact t3)) (lay2 (lay_str (by decide +kernel)) l3)
    · exact q _ _ (.tuple [.str "list", d3]) fr (b3.keep (same_new nt _)) (da_tup (b3.ne nt).symm upd_same (.cons (.str _) (.cons (hd3 _) .nil))) (plain1 roles_list (by rw [part_term]; exact t3)) (lay2 (lay_str (by decide +kernel)) l3)
  have ek : k = "teller" := by
    rcases hk with e | e
    · exact e
    · exact absurd (decide_eq_true (by rw [e])) c
  subst ek
  have ask : ∀ (H3 : Hp), Fr b H H3 → Bag H3 b → ∀ (H4 : Hp) (r4 : Int) (f4 : Fr b H3 H4) (b4 : Bag H4 b) (r40 : 0 ≤ r4) (r41 : r4 < 3) (c4 : Nat), atI ("+-=" : Str).cps.toList r4 = some c4 → inS (.str ⟨#[c4]⟩) asks = true → PyData.strOk ⟨#[c4]⟩ = true →
      ∀ (H5 : Hp) (x : V) (d5 : PyData) (f5 : Fr b H4 H5) (b5 : Bag H5 b) (hd5 : ∀ H0, Dp K H0 x d5) (t5 : isTerm d5 = true) (l5 : Lay d5) (t : Addr) (nt : H5 t = none), Q (.ref t) (upd H5 t (.tup [.str "ask", .str ⟨#[c4]⟩, x, .str ⟨#[ch]⟩])) := by
    intro H3 f3 b3 H4 r4 f4 b4 r40 r41 c4 hc4 hi4 ho4 H5 x d5 f5 b5 hd5 t5 l5 t nt
    exact q _ _ (.tuple [.str "ask", .str ⟨#[c4]⟩, d5, .str ⟨#[ch]⟩]) (f3.trans (f4.trans (f5.trans (Fr.of (same_new nt _))))) (b5.keep (same_new nt _)) (da_tup (b5.ne nt).symm upd_same (.cons (.str _) (.cons (.str _) (.cons (hd5 _) (.cons (.str _) .nil)))))
      (plain3 roles_ask (by rw [part_sign]; exact hi4) (by rw [part_term]; exact t5) (by rw [part_variable]; exact hv)) (lay4 (lay_str (by decide +kernel)) (lay_str ho4) l5 (lay_str ho))
  refine ⟨_, rfl, rfl, _, rfl, ite2 (fun c => ?_) (fun c => ?_)⟩
  · refine ⟨_, rfl, b, 3, rfl, b2, by decide, by decide, fun H3 x f3 b3 x0 x1 => ⟨rfl, _, rfl, ite2 (fun c => ?_) (fun c => ?_)⟩⟩
    · refine ⟨_, rfl, b, 2, rfl, b3, by decide, by decide, fun H4 y f4 b4 y0 y1 => ⟨(by show 2 ≤ sizeLine; decide), fun t nt => ?_⟩⟩
      refine q _ _ (.tuple [.str "answer", .int y]) (f12.trans (f3.trans (f4.trans (Fr.of (same_new nt _))))) (b4.keep (same_new nt _)) (da_tup (b4.ne nt).symm upd_same (.cons (.str _) (.cons (.int _) .nil))) (plain1 roles_answer ?_) (lay2 (lay_str (by decide +kernel)) (lay_int _))
      rw [part_answer]; simp [intIn, y0]; omega
    · refine ⟨_, rfl, b, 3, rfl, b3, by decide, by decide, fun H4 r4 f4 b4 r40 r41 => ?_⟩
      obtain ⟨c4, hc4, hi4, ho4⟩ := asks_at r40 r41
      exact ⟨_, _, _, rfl, rfl, by decide +kernel, hc4, _, rfl, b, rfl, b4, fun H5 x d5 f5 b5 hd5 t5 l5 => ⟨_, rfl, (by show 4 ≤ sizeLine; decide), fun t nt => ask H3 (f12.trans f3) b3 H4 r4 f4 b4 r40 r41 c4 hc4 hi4 ho4 H5 x d5 f5 b5 hd5 t5 l5 t nt⟩⟩
  · refine iteF ⟨_, rfl, b, 3, rfl, b2, by decide, by decide, fun H4 r4 f4 b4 r40 r41 => ?_⟩
    obtain ⟨c4, hc4, hi4, ho4⟩ := asks_at r40 r41
    exact ⟨_, _, _, rfl, rfl, by decide +kernel, hc4, _, rfl, b, rfl, b4, fun H5 x d5 f5 b5 hd5 t5 l5 => ⟨_, rfl, (by show 4 ≤ sizeLine; decide), fun t nt => ask H2 f12 b2 H4 r4 f4 b4 r40 r41 c4 hc4 hi4 ho4 H5 x d5 f5 b5 hd5 t5 l5 t nt⟩⟩
end
theorem lay1 {a : PyData} (ha : Lay a) : Lay (.tuple [a]) := lay_tuple (by intro d m; simp at m; rcases m with rfl; assumption)
theorem body_nil (k : Str) (r : Nat) : bodyN k r (.tuple []) = some 0 := by cases r <;> rfl
theorem bods_if {ps : List PyData} : bodsOf (.tuple (.str "if" :: ps)) = ps.drop 1 := by
  show (if ("if" : Str) = "if" ∨ ("if" : Str) = "while" then ps.drop 1 else []) = _
  rw [if_pos (.inl rfl)]
theorem bods_while {ps : List PyData} : bodsOf (.tuple (.str "while" :: ps)) = ps.drop 1 := by
  show (if ("while" : Str) = "if" ∨ ("while" : Str) = "while" then ps.drop 1 else []) = _
  rw [if_pos (.inr rfl)]
theorem body_one (k : Str) (r : Nat) (s : PyData) : bodyN k (r + 1) (.tuple [s]) = stN k r s := by
  rw [bodyN_tup]
  simp only [List.map_cons, List.map_nil, sumO, addO_zero]
theorem bods_else {z : Str} {ps : List PyData} (h1 : ¬ z = "if") (h2 : ¬ z = "while") : bodsOf (.tuple (.str z :: ps)) = [] := by
  show (if z = "if" ∨ z = "while" then ps.drop 1 else []) = _
  rw [if_neg (by rintro (e | e); exact h1 e; exact h2 e)]
theorem roles_if (k : Str) : rolesZ "if" k = none := by
  unfold rolesZ
  rw [if_neg (by decide +kernel), if_neg (by decide +kernel), if_neg (by decide +kernel)]
  split
  · rw [if_neg (by decide +kernel), if_neg (by decide +kernel)]
  · rw [if_neg (by decide +kernel), if_neg (by decide +kernel)]
theorem roles_while (k : Str) : rolesZ "while" k = none := by
  unfold rolesZ
  rw [if_neg (by decide +kernel), if_neg (by decide +kernel), if_neg (by decide +kernel)]
  split
  · rw [if_neg (by decide +kernel), if_neg (by decide +kernel)]
  · rw [if_neg (by decide +kernel), if_neg (by decide +kernel)]
theorem plain_inv {d : PyData} {k : Str} (h : isPlain d k = true) : ∃ z ps rs, d = .tuple (.str z :: ps) ∧ rolesZ z k = some rs ∧ ps.length = rs.length ∧ allParts ps rs = true := by
  cases hw : wordOf d with
  | none =>
    have e : rolesOf (wordOf d) k = none := by rw [hw]; rfl
    rw [plain_none e] at h
    cases h
  | some z =>
    obtain ⟨ps, rfl⟩ := word_inv hw
    cases hz : rolesZ z k with
    | none =>
      have e : rolesOf (wordOf (.tuple (.str z :: ps))) k = none := hz
      rw [plain_none e] at h
      cases h
    | some rs =>
      rw [plain_some hz, Bool.and_eq_true] at h
      exact ⟨z, ps, rs, rfl, hz, of_decide_eq_true h.1, h.2⟩
theorem plain_st {d : PyData} {k : Str} (h : isPlain d k = true) : isOut d k = true ∧ bodsOf d = [] := by
  obtain ⟨z, ps, rs, rfl, hz, _⟩ := plain_inv h
  have n1 : ¬ z = "if" := fun e => by rw [e, roles_if] at hz; cases hz
  have n2 : ¬ z = "while" := fun e => by rw [e, roles_while] at hz; cases hz
  exact ⟨(out_else n1 n2).trans h, bods_else n1 n2⟩
theorem stN_plain {d : PyData} {k : Str} {r : Nat} (h : isPlain d k = true) : stN k r d = some 1 := by
  obtain ⟨h1, h2⟩ := plain_st h
  unfold stN
  rw [if_pos h1, h2]
  rfl
theorem sum_plain {k : Str} {r : Nat} : ∀ {ds : List PyData}, (∀ d ∈ ds, isPlain d k = true) → sumO (ds.map (stN k r)) = some ds.length
  | [], _ => rfl
  | d :: t, h => by
    simp only [List.map_cons, sumO]
    rw [stN_plain (h d (by simp)), sum_plain fun x m => h x (List.mem_cons_of_mem _ m)]
    simp only [addO, List.length_cons]
    congr 1
    omega
theorem kinds_in {k : Str} (h : k = "teller" ∨ k = "collector") : inS (.str k) kinds = true := by
  rcases h with rfl | rfl <;> decide +kernel
theorem strOk_kind {k : Str} (h : k = "teller" ∨ k = "collector") : PyData.strOk k = true := by
  rcases h with rfl | rfl <;> decide +kernel
/-! ### data without lists -/
mutual
def noL : PyData → Bool
  | .list _ => false
  | .tuple xs => noLAll xs
  | .none | .bool _ | .int _ | .str _ | .dict _ => true
def noLAll : List PyData → Bool
  | [] => true
  | x :: xs => noL x && noLAll xs
end
mutual
theorem dp_keepL {K : PySem.W.Frag} {H H' : Hp} {D : Addr} {ys : List V} (e : ∀ a o, a ≠ D → H a = some o → H' a = some o) (hD : H D = some (.lst ys)) : ∀ (d : PyData) (v : V), noL d = true → Dp K H v d → Dp K H' v d
  | .none, _, _, h => by cases h; exact .non
  | .bool b, _, _, h => by cases h; exact .bl b
  | .int i, _, _, h => by cases h; exact .int i
  | .str x, _, _, h => by cases h; exact .str x
  | .list ds, _, n, h => by simp [noL] at n
  | .tuple ds, _, n, h => by
    cases h with
    | tup hs ha =>
      refine .tup ?_ (dpAll_keepL e hD ds _ (by simpa [noL] using n) ha)
      rcases hs with (h | ⟨o, h⟩) | h
      · exact .inl (.inl (e _ _ (ne_of h hD (by intro z; cases z)) h))
      · exact .inl (.inr ⟨o, e _ _ (ne_of h hD (by intro z; cases z)) h⟩)
      · exact .inr h
  | .dict _, _, _, h => by cases h
theorem dpAll_keepL {K : PySem.W.Frag} {H H' : Hp} {D : Addr} {ys : List V} (e : ∀ a o, a ≠ D → H a = some o → H' a = some o) (hD : H D = some (.lst ys)) : ∀ (ds : List PyData) (vs : List V), noLAll ds = true → DpAll K H vs ds → DpAll K H' vs ds
  | [], _, _, h => by cases h; exact .nil
  | d :: ds, _, n, h => by
    simp only [noLAll, Bool.and_eq_true] at n
    cases h with
    | cons hd ht => exact .cons (dp_keepL e hD d _ n.1 hd) (dpAll_keepL e hD ds _ n.2 ht)
end
theorem part_noL {p : PyData} {r : Str} (h : isPart p r = true) : noL p = true := by
  cases p with
  | list xs => unfold isPart at h; repeat' split at h
               all_goals simp [inS, isTerm, intIn] at h
  | tuple xs => unfold isPart at h; repeat' split at h
                all_goals simp [inS, isTerm, intIn] at h
  | _ => rfl
theorem parts_noL : ∀ {ps : List PyData} {rs : List Str}, ps.length = rs.length → allParts ps rs = true → noLAll ps = true
  | [], _, _, _ => rfl
  | p :: ps, [], l, _ => by simp at l
  | p :: ps, r :: rs, l, h => by
    have h' : isPart p r = true ∧ allParts ps rs = true := by
      simpa [allParts] using h
    simp only [noLAll, Bool.and_eq_true]
    exact ⟨part_noL h'.1, parts_noL (by simpa using l) h'.2⟩
theorem plain_noL {d : PyData} {k : Str} (h : isPlain d k = true) : noL d = true := by
  obtain ⟨z, ps, rs, rfl, hz, hl, hp⟩ := plain_inv h
  simp only [noL, noLAll, Bool.true_and]
  exact parts_noL hl hp
theorem all_noL {k : Str} : ∀ {ds : List PyData}, (∀ d ∈ ds, isPlain d k = true ∧ Lay d) → noLAll ds = true
  | [], _ => rfl
  | d :: t, h => by
    simp only [noLAll, Bool.and_eq_true]
    exact ⟨plain_noL (h d (by simp)).1, all_noL fun x m => h x (List.mem_cons_of_mem _ m)⟩
theorem dpAll_append {K : PySem.W.Frag} {H : Hp} : ∀ {xs ys : List V} {ds es : List PyData}, DpAll K H xs ds → DpAll K H ys es → DpAll K H (xs ++ ys) (ds ++ es)
  | _, _, _, _, .nil, h => h
  | _, _, _, _, .cons a t, h => .cons a (dpAll_append t h)
theorem dpAll_take {K : PySem.W.Frag} {H : Hp} : ∀ (n : Nat) {xs : List V} {ds : List PyData}, DpAll K H xs ds → DpAll K H (xs.take n) (ds.take n)
  | 0, _, _, _ => .nil
  | n + 1, _, _, .nil => .nil
  | n + 1, _, _, .cons a t => .cons a (dpAll_take n t)
theorem cut_lo (xs : List V) (n : Nat) : cutV xs none (some (n : Int)) = xs.take n := by
  unfold cutV
  rw [HT.sIx_nat, HT.sIx_none, List.drop_zero, Nat.sub_zero, List.take_eq_take_iff]
  omega
theorem cut_hi (xs : List V) (n : Nat) : cutV xs (some (n : Int)) none = xs.drop n := by
  unfold cutV
  rw [HT.sIx_nat, HT.sIx_none]
  by_cases h : n ≤ xs.length
  · rw [Nat.min_eq_left h, List.take_of_length_le (by rw [List.length_drop]; omega)]
  · rw [Nat.min_eq_right (by omega), List.drop_of_length_le (Nat.le_refl _), List.drop_of_length_le (by omega)]
    simp
theorem and_one {c e : Bool} {tb : TE} {σ : L2.St} {H : Hp} {Q : VK} (h : ∀ Q' : VK, Q' (.bl e) H → tb σ H Q') (q : Q (.bl (c && e)) H) : if c = true then tb σ H Q else Q (.bl false) H := by
  cases c with
  | true => exact iteT (h _ q)
  | false => exact iteF q
theorem Bag.upd {H : Hp} {b D : Addr} {o : HO} (h : Bag H b) (n : D ≠ b) : Bag (upd H D o) b := by
  obtain ⟨c, s, e, r⟩ := h
  exact ⟨c, s, by rw [upd_ne n.symm]; exact e, r⟩
theorem hide_upd {b D : Addr} {H : Hp} {o : HO} : ∀ a u, a ≠ D → hide b H a = some u → hide b (L2.upd H D o) a = some u := fun a u n h => by
  unfold hide at h ⊢
  split at h
  · cases h
  · rename_i nb
    rw [if_neg nb, upd_ne n]
    exact h
theorem fr_upd {b D : Addr} {H H' : Hp} (f : Fr b H H') (n : H D = none) (o : HO) : Fr b H (upd H' D o) := fun x u nx h => by
  rw [upd_ne (ne_of_none h n)]
  exact f _ _ nx h
abbrev sStmt : Stmt := top 46
abbrev sBody : Stmt := top 47
abbrev sProgL : Stmt := top 48
def Fr2 (b m : Addr) (H H' : Hp) : Prop := ∀ a o, a ≠ b → a ≠ m → H a = some o → H' a = some o
theorem Fr2.refl (b m : Addr) (H : Hp) : Fr2 b m H H := fun _ _ _ _ h => h
theorem Fr2.trans {b m : Addr} {H H1 H2 : Hp} (x : Fr2 b m H H1) (y : Fr2 b m H1 H2) : Fr2 b m H H2 := fun a o n1 n2 h => y a o n1 n2 (x a o n1 n2 h)
theorem Fr.two {b m : Addr} {H H' : Hp} (x : Fr b H H') : Fr2 b m H H' := fun a o n _ h => x a o n h
theorem Same.two {b m : Addr} {H H' : Hp} (x : Same H H') : Fr2 b m H H' := fun a o _ _ h => x a o h
theorem Fr2.updm {b m : Addr} {H : Hp} (o : HO) : Fr2 b m H (upd H m o) := fun a u _ n h => by rw [upd_ne n]; exact h
def Rm (H : Hp) (m : Addr) (r : Nat) : Prop := H m = some (.lst [.int (r : Nat)])
theorem da_fr2 {K : PySem.W.Frag} {b m : Addr} {H H' : Hp} {v : V} {d : PyData} {ys : List V} (n : noL d = true) (h : Da K b H v d) (f : Fr2 b m H H') (hm : H m = some (.lst ys)) (nm : m ≠ b) : Da K b H' v d := by
  refine dp_keepL (D := m) (ys := ys) (fun a o na ha => ?_) (hide_get nm hm) d v n h
  unfold hide at ha ⊢
  split at ha
  · cases ha
  · rename_i nb
    rw [if_neg nb]
    exact f a o nb na ha
theorem daAll_fr2 {K : PySem.W.Frag} {b m : Addr} {H H' : Hp} {vs : List V} {ds : List PyData} {ys : List V} (n : noLAll ds = true) (h : DpAll K (hide b H) vs ds) (f : Fr2 b m H H') (hm : H m = some (.lst ys)) (nm : m ≠ b) : DpAll K (hide b H') vs ds := by
  refine dpAll_keepL (D := m) (ys := ys) (fun a o na ha => ?_) (hide_get nm hm) ds vs n h
  unfold hide at ha ⊢
  split at ha
  · cases ha
  · rename_i nb
    rw [if_neg nb]
    exact f a o nb na ha
theorem term_noL {d : PyData} (h : isTerm d = true) : noL d = true := by
  cases d with
  | list xs => simp [isTerm, inS, intIn] at h
  | tuple xs => simp [isTerm, inS, intIn] at h
  | _ => rfl
theorem inS_noL {d : PyData} {zs : List Str} (h : inS d zs = true) : noL d = true := by
  cases d with
  | list xs => simp [inS] at h
  | tuple xs => simp [inS] at h
  | _ => rfl
theorem cond_noL {d : PyData} (h : isCond d = true) : noL d = true := by
  match d, h with
  | .tuple [x, y, z], h =>
    have h' : (inS x vars && inS y signs && isTerm z) = true := h
    rw [Bool.and_eq_true, Bool.and_eq_true] at h'
    simp only [noL, noLAll, inS_noL h'.1.1, inS_noL h'.1.2, term_noL h'.2]
    rfl
def spBody (K : PySem.W.Frag) (n : Nat) : Sp := fun vs H Q _ => ∃ (b m : Addr) (k : Str) (r : Nat) (dep mo : Int), vs = [.ref b, .str k, .ref m, .int dep, .int mo] ∧ dep = 5 - (n : Int) ∧ n ≤ 4 ∧ Bag H b ∧ Rm H m r ∧ m ≠ b ∧ (k = "teller" ∨ k = "collector") ∧ mo < 1000 ∧
  ∀ H' v d r' c, Fr2 b m H H' → Bag H' b → Rm H' m r' → Da K b H' v d → noL d = true → Lay d → bodyN k n d = some c → r' + c = r → Q v H'
def spStmt (K : PySem.W.Frag) (n : Nat) : Sp := fun vs H Q _ => ∃ (b m : Addr) (k : Str) (r : Nat) (dep : Int), vs = [.ref b, .str k, .ref m, .int dep] ∧ dep = 4 - (n : Int) ∧ n ≤ 3 ∧ Bag H b ∧ Rm H m r ∧ m ≠ b ∧ (k = "teller" ∨ k = "collector") ∧
  ∀ H' v d r' c, Fr2 b m H H' → Bag H' b → Rm H' m r' → Da K b H' v d → noL d = true → Lay d → stN k n d = some (1 + c) → r' + c = r → Q v H'
theorem sumO_snoc (xs : List (Option Nat)) (x : Option Nat) : sumO (xs ++ [x]) = addO (sumO xs) x := by
  rw [sumO_append]
  simp only [sumO, addO_zero]
theorem noLAll_snoc : ∀ {ds : List PyData} {d : PyData}, noLAll ds = true → noL d = true → noLAll (ds ++ [d]) = true
  | [], d, _, h => by simp [noLAll, h]
  | x :: r, d, h, h2 => by
    simp only [noLAll, Bool.and_eq_true] at h
    rw [List.cons_append]
    simp only [noLAll, Bool.and_eq_true]
    exact ⟨h.1, noLAll_snoc h.2 h2⟩
section
variable {P : Program} {w : World} {K : PySem.W.Frag} {mg : Str → Option Value} {base : Heap}
theorem scBody : FnScope ["_law_bag_here", "_law_kind_here", "_law_room", "_law_depth", "_law_most", "_law_body_here", "_law_turn"] ["_law_bag_here", "_law_kind_here", "_law_room", "_law_depth", "_law_most"] (defScope sBody) := ⟨rfl, rfl, rfl, by decide +kernel, rfl, by decide +kernel, by decide +kernel⟩
theorem ok_body {f : Addr} {fd : FuncData} {lv n : Nat} (hlv : 1 ≤ lv) (F : Fun K "_law_body" "_law_body" sBody f fd) (T : Gs K mg) (T2 : G2 mg) (CD : Cal P w K mg base 1 "_law_draw" ["_law_bag_here", "_law_many"] spDraw)
    (CS : Cal P w K mg base lv "_law_statement" ["_law_bag_here", "_law_kind_here", "_law_room", "_law_depth"] (fun vs H Q E => n ≠ 0 ∧ spStmt K (n - 1) vs H Q E)) :
    FnOk P w K mg base CX0 (lv + 1) f fd ["_law_bag_here", "_law_kind_here", "_law_room", "_law_depth", "_law_most"] (spBody K n) := by
  refine F.ok scBody (fun vs H Q E h => ?_) (fun cdv A outer s H vs Q E hr h => ?_)
  · obtain ⟨b, m, k, r, dep, mo, rfl, _⟩ := h
    rfl
  obtain ⟨b, m, k, r, dep, mo, rfl, hdep, hn, hb, hm, nmb, hk, hmo, q⟩ := h
  have hr1 : Room 1 _ := hr.mono hlv
  refine ⟨_, pss_cons (ps_set (i := 5) scBody.nd rfl (.inl rfl) (pe_lst pa_nil))
    (pss_cons (ps_for PassesOwn.never rfl (pi_range1 (by rfl) T2.range (pa_cons (pe_call CD.G hr1 rfl CD.m CD.kp CD.b .nil pass0 (pa_cons (pv 0) (pa_cons (pe_callB (call_max2 rfl) (by rfl) T2.max (by decide +kernel) (pa_cons pe_int (pa_cons (pv 4) pa_nil))) pa_nil))) pa_nil)) (pg_name (i := 6) scBody.nd rfl (.inl rfl))
      (pss_one (ps_if (PW.pt (pw_and (pt_cmpR op_gt (pe_ix ix_list (pv 2) pe_int (fun _ _ => rfl)) pe_int (nomark _)) (pw_and1 (pt_cmpR op_lt (pv 3) pe_int (nomark _)))))
        (pss_cons (ps_asg (pe_op op_sub (pe_ix ix_list (pv 2) pe_int (fun _ _ => rfl)) pe_int) (pg_sub (pv 2) pe_int set_list))
        (pss_one (ps_expr (pe_bm PySem.F.plainAttrs_list PySem.F.slot_list_append PySem.F.type_list_append mt_append (pv 5) (pa_cons (pe_call CS.G hr rfl CS.m CS.kp CS.b .nil pass0 (pa_cons (pv 0) (pa_cons (pv 1) (pa_cons (pv 2) (pa_cons (pv 3) pa_nil))))) pa_nil))))) pss_nil)))
    (pss_one (ps_ret (pe_callTy call_tuple_of (by rfl) T.tup (by decide +kernel) (pa_cons (pv 5) pa_nil))))), ?_⟩
  refine ⟨(by show 0 ≤ sizeLine; decide), fun l nl => ?_⟩
  have nlb : l ≠ b := (hb.ne nl).symm
  have nlm : l ≠ m := fun e => by rw [e, hm] at nl; cases nl
  refine ⟨_, rfl, _, rfl, _, _, rfl, b, _, rfl, hb.keep (same_new nl _), ?_, ?_, fun H1 t f1 b1 t0 t1 => ?_⟩
  · split <;> omega
  · split <;> omega
  have hm1 : Rm H1 m r := f1 m _ nmb (by rw [upd_ne nlm.symm]; exact hm)
  have hl1 : H1 l = some (.lst []) := f1 l _ nlb upd_same
  have t1000 : t < 1000 := by split at t1 <;> omega
  refine ⟨_, rfl, by omega, by omega, for_range (lo := 0) (n := t.toNat) (fun i σ H' => ∃ (xs : List V) (ds : List PyData) (r1 c1 : Nat) (s6 : Option V), σ = [some (.ref b), some (.str k), some (.ref m), some (.int dep), some (.int mo), some (.ref l), s6] ∧
      Fr2 b m H H' ∧ Bag H' b ∧ Rm H' m r1 ∧ H' l = some (.lst xs) ∧ DpAll K (hide b H') xs ds ∧ noLAll ds = true ∧ (∀ d ∈ ds, Lay d) ∧ bodyN k n (.tuple ds) = some c1 ∧ r1 + c1 = r ∧ xs.length ≤ i)
    ⟨[], [], r, 0, none, rfl, ((Fr.of (same_new nl _)).two).trans f1.two, b1, hm1, hl1, .nil, rfl, by simp, body_nil k n, rfl, Nat.le_refl 0⟩ ?_ ?_⟩
  · rintro i σ H2 hi ⟨xs, ds, r1, c1, s6, rfl, f2, b2, hm2, hl2, hds, hno, hly, hc1, hrc, hxl⟩
    refine ⟨_, rfl, m, _, _, _, rfl, rfl, SqL.of hm2, atI_nat (j := 0) rfl, _, _, rfl, rfl, _, rfl, ?_⟩
    have keep : ∃ (xs : List V) (ds : List PyData) (r1 c1 : Nat) (s6' : Option V), ([some (.ref b), some (.str k), some (.ref m), some (.int dep), some (.int mo), some (.ref l), some (.int (0 + (i : Nat)))] : L2.St) = [some (.ref b), some (.str k), some (.ref m), some (.int dep), some (.int mo), some (.ref l), s6'] ∧
      Fr2 b m H H2 ∧ Bag H2 b ∧ Rm H2 m r1 ∧ H2 l = some (.lst xs) ∧ DpAll K (hide b H2) xs ds ∧ noLAll ds = true ∧ (∀ d ∈ ds, Lay d) ∧ bodyN k n (.tuple ds) = some c1 ∧ r1 + c1 = r ∧ xs.length ≤ i + 1 := ⟨xs, ds, r1, c1, _, rfl, f2, b2, hm2, hl2, hds, hno, hly, hc1, hrc, by omega⟩
    by_cases c0 : (0 : Int) < (r1 : Nat)
    · rw [decide_eq_true c0]
      refine iteT ⟨_, rfl, _, _, rfl, rfl, _, rfl, ?_⟩
      by_cases c5 : dep < 5
      · rw [decide_eq_true c5]
        refine iteT ⟨_, rfl, m, _, _, _, rfl, rfl, SqL.of hm2, atI_nat (j := 0) rfl, _, _, rfl, rfl, _, rfl, m, _, _, 0, rfl, rfl, hm2, rfl, ?_⟩
        obtain ⟨r2, rfl⟩ : ∃ r2, r1 = r2 + 1 := ⟨r1 - 1, by omega⟩
        have hm3 : Rm (upd H2 m (.lst ([V.int ((r2 + 1 : Nat) : Int)].set 0 (V.int (((r2 + 1 : Nat) : Int) - 1))))) m r2 := by
          show _ = some (HO.lst [V.int (r2 : Nat)])
          rw [upd_same]
          show some (HO.lst [V.int (((r2 + 1 : Nat) : Int) - 1)]) = _
          rw [show (((r2 + 1 : Nat) : Int) - 1) = ((r2 : Nat) : Int) by omega]
        have b3 : Bag (upd H2 m (.lst ([V.int ((r2 + 1 : Nat) : Int)].set 0 (V.int (((r2 + 1 : Nat) : Int) - 1))))) b := b2.upd nmb
        have f3 : Fr2 b m H2 (upd H2 m (.lst ([V.int ((r2 + 1 : Nat) : Int)].set 0 (V.int (((r2 + 1 : Nat) : Int) - 1))))) := Fr2.updm _
        have hl3 : (upd H2 m (.lst ([V.int ((r2 + 1 : Nat) : Int)].set 0 (V.int (((r2 + 1 : Nat) : Int) - 1))))) l = some (.lst xs) := by rw [upd_ne nlm]; exact hl2
        have hds3 := daAll_fr2 hno hds f3 hm2 nmb
        generalize upd H2 m (.lst ([V.int ((r2 + 1 : Nat) : Int)].set 0 (V.int (((r2 + 1 : Nat) : Int) - 1)))) = H3 at hm3 b3 f3 hl3 hds3 ⊢
        refine ⟨_, rfl, .inl ⟨rfl, _, SqL.of hl3⟩, _, rfl, _, rfl, _, rfl, _, rfl, by omega, b, m, k, r2, dep, rfl, by omega, by omega, b3, hm3, nmb, hk, fun H4 v d r4 c4 f4 b4 hm4 hd4 no4 ly4 hc4 hr4 => ?_⟩
        have hl4 := f4 l _ nlb nlm hl3
        have hds4 := daAll_fr2 hno hds3 f4 hm3 nmb
        refine ⟨l, _, _, rfl, rfl, hl4, ?_, xs ++ [v], ds ++ [d], r4, c1 + (1 + c4), _, rfl, ?_, b4.upd nlb, ?_, upd_same, ?_, noLAll_snoc hno no4, ?_, ?_, by omega, by rw [List.length_append]; show xs.length + 1 ≤ _; omega⟩
        · exact Nat.lt_of_le_of_lt (by omega : _ ≤ 1000) (by decide)
        · intro a o n1 n2 ha
          have nal : a ≠ l := ne_of_none ha nl
          rw [upd_ne nal]
          exact (f2.trans (f3.trans f4)) a o n1 n2 ha
        · show _ = _
          rw [upd_ne nlm.symm]
          exact hm4
        · have eD : hide b H4 l = some (.lst xs) := hide_get nlb hl4
          exact dpAll_append (dpAll_keepL hide_upd eD _ _ hno hds4) (.cons (dp_keepL hide_upd eD _ _ no4 hd4) .nil)
        · intro x mx
          rcases List.mem_append.mp mx with mx | mx
          · exact hly x mx
          · rw [List.mem_singleton.mp mx]; exact ly4
        · obtain ⟨n', rfl⟩ : ∃ n', n = n' + 1 := ⟨n - 1, by omega⟩
          rw [bodyN_tup] at hc1 ⊢
          rw [List.map_append]
          show sumO (ds.map (stN k n') ++ [stN k n' d]) = _
          rw [sumO_snoc, hc1]
          have e4 : stN k n' d = some (1 + c4) := hc4
          rw [e4]
          rfl
      · rw [decide_eq_false c5]
        exact iteF keep
    · rw [decide_eq_false c0]
      exact iteF (iteF keep)
  · rintro σ H2 ⟨xs, ds, r1, c1, s6, rfl, f2, b2, hm2, hl2, hds, hno, hly, hc1, hrc, hxl⟩
    refine ⟨_, rfl, l, _, rfl, .inl ⟨SqL.of hl2, fun t nt => ?_⟩⟩
    have g : Fr b H2 (upd H2 t (.tup xs)) := Fr.of (same_new nt _)
    refine q _ _ (.tuple ds) r1 c1 (f2.trans g.two) (b2.keep (same_new nt _)) (same_new nt _ _ _ hm2) (da_tup (b2.ne nt).symm upd_same (dpAll_mono (hide_mono g) _ _ hds)) ?_ (lay_tuple hly) hc1 hrc
    simp only [noL]
    exact hno
theorem scStmt : FnScope ["_law_bag_here", "_law_kind_here", "_law_room", "_law_depth", "_law_way", "_law_condition_here", "_law_first"] ["_law_bag_here", "_law_kind_here", "_law_room", "_law_depth"] (defScope sStmt) := ⟨rfl, rfl, rfl, by decide +kernel, rfl, by decide +kernel, by decide +kernel⟩
theorem ok_stmt {f : Addr} {fd : FuncData} {lv n : Nat} (hlv : 4 ≤ lv) (F : Fun K "_law_statement" "_law_statement" sStmt f fd) (CD : Cal P w K mg base 1 "_law_draw" ["_law_bag_here", "_law_many"] spDraw) (CM : Cal P w K mg base 4 "_law_simple" ["_law_bag_here", "_law_kind_here"] (spSimple K)) (CC : Cal P w K mg base 3 "_law_condition" ["_law_bag_here"] (spCondL K))
    (CB : Cal P w K mg base lv "_law_body" ["_law_bag_here", "_law_kind_here", "_law_room", "_law_depth", "_law_most"] (spBody K n)) :
    FnOk P w K mg base CX0 (lv + 1) f fd ["_law_bag_here", "_law_kind_here", "_law_room", "_law_depth"] (spStmt K n) := by
  refine F.ok scStmt (fun vs H Q E h => ?_) (fun cdv A outer s H vs Q E hr h => ?_)
  · obtain ⟨b, m, k, r, dep, rfl, _⟩ := h
    rfl
  obtain ⟨b, m, k, r, dep, rfl, hdep, hn, hb, hm, nmb, hk, q⟩ := h
  have hr1 : Room 1 _ := hr.mono (by omega)
  have hr3 : Room 3 _ := hr.mono (by omega)
  have hr4 : Room 4 _ := hr.mono (by omega)
  refine ⟨_, pss_cons (ps_set (i := 4) scStmt.nd rfl (.inl rfl) (pe_call CD.G hr1 rfl CD.m CD.kp CD.b .nil pass0 (pa_cons (pv 0) (pa_cons pe_int pa_nil))))
    (pss_cons (ps_if (pt_cmpR op_gt (pv 4) pe_int (nomark _)) (pss_one (ps_ret (pe_call CM.G hr4 rfl CM.m CM.kp CM.b .nil pass0 (pa_cons (pv 0) (pa_cons (pv 1) pa_nil))))) pss_nil)
    (pss_cons (ps_set (i := 5) scStmt.nd rfl (.inl rfl) (pe_call CC.G hr3 rfl CC.m CC.kp CC.b .nil pass0 (pa_cons (pv 0) pa_nil)))
    (pss_cons (ps_set (i := 6) scStmt.nd rfl (.inl rfl) (pe_call CB.G hr rfl CB.m CB.kp CB.b .nil pass0 (pa_cons (pv 0) (pa_cons (pv 1) (pa_cons (pv 2) (pa_cons (pe_op op_add (pv 3) pe_int) (pa_cons pe_int pa_nil)))))))
    (pss_cons (ps_if (pt_cmpR op_eq (pv 4) pe_int (nomark _)) (pss_one (ps_ret (pe_tup (pa_cons pe_str (pa_cons (pv 5) (pa_cons (pv 6) pa_nil)))))) pss_nil)
    (pss_one (ps_ret (pe_tup (pa_cons pe_str (pa_cons (pv 5) (pa_cons (pv 6) (pa_cons (pe_call CB.G hr rfl CB.m CB.kp CB.b .nil pass0 (pa_cons (pv 0) (pa_cons (pv 1) (pa_cons (pv 2) (pa_cons (pe_op op_add (pv 3) pe_int) (pa_cons (pe_op op_mul pe_int (pe_op op_sub (pv 4) pe_int)) pa_nil)))))) pa_nil))))))))))), ?_⟩
  refine ⟨_, rfl, b, 7, rfl, hb, by decide, by decide, fun H1 wy f1 b1 w0 w1 => ⟨_, rfl, _, _, rfl, rfl, _, rfl, ?_⟩⟩
  have hm1 : Rm H1 m r := f1 m _ nmb hm
  refine ite2 (fun c => ?_) (fun c => ?_)
  · refine ⟨_, rfl, _, rfl, b, k, rfl, b1, hk, fun H2 v d f2 b2 hd hp hl => ?_⟩
    exact q _ _ d r 0 (f1.trans f2).two b2 (f2 m _ nmb hm1) hd (plain_noL hp) hl (by rw [stN_plain hp]) rfl
  have c' : ¬ (2 : Int) < wy := of_decide_eq_false (Bool.eq_false_iff.mpr c)
  refine ⟨_, rfl, b, rfl, b1, fun H2 v2 d2 f2 b2 hd2 hc2 l2 => ?_⟩
  have hm2 : Rm H2 m r := f2 m _ nmb hm1
  refine ⟨_, rfl, _, rfl, _, rfl, _, rfl, _, _, rfl, rfl, b, m, k, r, _, _, rfl, by omega, by omega, b2, hm2, nmb, hk, by decide, fun H3 v3 d3 r3 c3 f3 b3 hm3 hd3 no3 l3 hb3 hr3' => ?_⟩
  have hd2' : Da K b H3 v2 d2 := da_fr2 (cond_noL hc2) hd2 f3 hm2 nmb
  have f13 : Fr2 b m H H3 := (f1.two).trans ((f2.two).trans f3)
  refine ⟨_, rfl, rfl, _, rfl, ite2 (fun c => ?_) (fun c => ?_)⟩
  · refine ⟨_, rfl, _, rfl, (by show 3 ≤ sizeLine; decide), fun t nt => ?_⟩
    have g : Fr b H3 (upd H3 t (.tup [.str "while", v2, v3])) := Fr.of (same_new nt _)
    refine q _ _ (.tuple [.str "while", d2, d3]) r3 c3 (f13.trans g.two) (b3.keep (same_new nt _)) (same_new nt _ _ _ hm3) (da_tup (b3.ne nt).symm upd_same (.cons (.str _) (.cons (hd2'.fr g) (.cons (hd3.fr g) .nil)))) ?_ (lay3 (lay_str (by decide +kernel)) l2 l3) ?_ hr3'
    · simp only [noL, noLAll, cond_noL hc2, no3]
      rfl
    · unfold stN
      have e : isOut (.tuple (.str "while" :: [d2, d3])) k = true := out_while.trans hc2
      rw [if_pos e, bods_while]
      simp only [List.drop_succ_cons, List.drop_zero, List.map_cons, List.map_nil, sumO, addO_zero, hb3]
      rfl
  · refine ⟨_, rfl, _, rfl, _, rfl, _, rfl, _, rfl, _, rfl, _, _, rfl, rfl, _, rfl, _, _, rfl, rfl, _, _, rfl, rfl, .inl (by decide), b, m, k, r3, _, _, rfl, by omega, by omega, b3, hm3, nmb, hk, by omega, fun H4 v4 d4 r4 c4 f4 b4 hm4 hd4 no4 l4 hb4 hr4' => ⟨(by show 4 ≤ sizeLine; decide), fun t nt => ?_⟩⟩
    have hd2'' : Da K b H4 v2 d2 := da_fr2 (cond_noL hc2) hd2' f4 hm3 nmb
    have hd3' : Da K b H4 v3 d3 := da_fr2 no3 hd3 f4 hm3 nmb
    have g : Fr b H4 (upd H4 t (.tup [.str "if", v2, v3, v4])) := Fr.of (same_new nt _)
    refine q _ _ (.tuple [.str "if", d2, d3, d4]) r4 (c3 + c4) (f13.trans (f4.trans g.two)) (b4.keep (same_new nt _)) (same_new nt _ _ _ hm4) (da_tup (b4.ne nt).symm upd_same (.cons (.str _) (.cons (hd2''.fr g) (.cons (hd3'.fr g) (.cons (hd4.fr g) .nil))))) ?_ (lay4 (lay_str (by decide +kernel)) l2 l3 l4) ?_ (by omega)
    · simp only [noL, noLAll, cond_noL hc2, no3, no4]
      rfl
    · unfold stN
      have e : isOut (.tuple (.str "if" :: [d2, d3, d4])) k = true := out_if.trans hc2
      rw [if_pos e, bods_if]
      simp only [List.drop_succ_cons, List.drop_zero, List.map_cons, List.map_nil, sumO, addO_zero, hb3, hb4]
      rfl
theorem none_stmt {f : Addr} {fd : FuncData} (lv : Nat) : FnOk P w K mg base CX0 lv f fd ["_law_bag_here", "_law_kind_here", "_law_room", "_law_depth"] (fun vs H Q E => 0 ≠ 0 ∧ spStmt K (0 - 1) vs H Q E) :=
  ⟨fun vs H Q E h => absurd rfl h.1, fun A outer s H args us vs Q E _ _ _ _ h => absurd rfl h.1⟩
theorem both {f g : Addr} {fd gd : FuncData} (FB : Fun K "_law_body" "_law_body" sBody f fd) (bB : Binds K fd ["_law_bag_here", "_law_kind_here", "_law_room", "_law_depth", "_law_most"] []) (mB : mg "_law_body" = some (.ref f))
    (FS : Fun K "_law_statement" "_law_statement" sStmt g gd) (bS : Binds K gd ["_law_bag_here", "_law_kind_here", "_law_room", "_law_depth"] []) (mS : mg "_law_statement" = some (.ref g)) (T : Gs K mg) (T2 : G2 mg)
    (CD : Cal P w K mg base 1 "_law_draw" ["_law_bag_here", "_law_many"] spDraw) (CM : Cal P w K mg base 4 "_law_simple" ["_law_bag_here", "_law_kind_here"] (spSimple K)) (CC : Cal P w K mg base 3 "_law_condition" ["_law_bag_here"] (spCondL K)) :
    ∀ n : Nat, FnOk P w K mg base CX0 (5 + 2 * n) f fd ["_law_bag_here", "_law_kind_here", "_law_room", "_law_depth", "_law_most"] (spBody K n)
  | 0 => ok_body (lv := 4) (by decide) FB T T2 CD ⟨g, gd, none_stmt 4, bS, FS.kp, mS⟩
  | n + 1 => by
    have ih := both FB bB mB FS bS mS T T2 CD CM CC n
    have st := ok_stmt (lv := 5 + 2 * n) (n := n) (by omega) FS CD CM CC ⟨f, fd, ih, bB, FB.kp, mB⟩
    have st2 : FnOk P w K mg base CX0 (5 + 2 * n + 1) g gd ["_law_bag_here", "_law_kind_here", "_law_room", "_law_depth"] (fun vs H Q E => n + 1 ≠ 0 ∧ spStmt K (n + 1 - 1) vs H Q E) :=
      ⟨fun vs H Q E h => st.len vs H Q E h.2, fun A outer s H args us vs Q E h1 h2 h3 h4 h => st.run A outer s H args us vs Q E h1 h2 h3 h4 h.2⟩
    exact ok_body (lv := 5 + 2 * n + 1) (n := n + 1) (by omega) FB T T2 CD ⟨g, gd, st2, bS, FS.kp, mS⟩
def spProgL (K : PySem.W.Frag) : Sp := fun vs H Q _ => ∃ (b : Addr) (k : Str), vs = [.ref b, .str k, .int 24] ∧ Bag H b ∧ (k = "teller" ∨ k = "collector") ∧
  ∀ H' t v d, Fr b H H' → Bag H' b → H' t = some (.tup [.str k, v]) → t ≠ b → Da K b H' v d → isProg (.tuple [.str k, d]) = true → Lay d → noL d = true → Q (.ref t) H'
theorem scProgL : FnScope ["_law_bag_here", "_law_kind_here", "_law_most", "_law_room"] ["_law_bag_here", "_law_kind_here", "_law_most"] (defScope sProgL) := ⟨rfl, rfl, rfl, by decide +kernel, rfl, by decide +kernel, by decide +kernel⟩
theorem ok_progL {f : Addr} {fd : FuncData} (F : Fun K "_law_program" "_law_program" sProgL f fd) (CD : Cal P w K mg base 1 "_law_draw" ["_law_bag_here", "_law_many"] spDraw) (CB : Cal P w K mg base 13 "_law_body" ["_law_bag_here", "_law_kind_here", "_law_room", "_law_depth", "_law_most"] (spBody K 4)) :
    FnOk P w K mg base CX0 14 f fd ["_law_bag_here", "_law_kind_here", "_law_most"] (spProgL K) := by
  refine F.ok scProgL (fun vs H Q E h => ?_) (fun cdv A outer s H vs Q E hr h => ?_)
  · obtain ⟨b, k, rfl, _⟩ := h
    rfl
  obtain ⟨b, k, rfl, hb, hk, q⟩ := h
  have hr1 : Room 1 _ := hr.mono (by decide)
  refine ⟨_, pss_cons (ps_set (i := 3) scProgL.nd rfl (.inl rfl) (pe_lst (pa_cons (pe_call CD.G hr1 rfl CD.m CD.kp CD.b .nil pass0 (pa_cons (pv 0) (pa_cons (pe_op op_add (pv 2) pe_int) pa_nil))) pa_nil)))
    (pss_one (ps_ret (pe_tup (pa_cons (pv 1) (pa_cons (pe_call CB.G hr rfl CB.m CB.kp CB.b .nil pass0 (pa_cons (pv 0) (pa_cons (pv 1) (pa_cons (pv 3) (pa_cons pe_int (pa_cons (pe_ix ix_list (pe_lst (pa_cons pe_int (pa_cons (pe_op op_add (pv 2) pe_int) pa_nil))) (pe_call CD.G hr1 rfl CD.m CD.kp CD.b .nil pass0 (pa_cons (pv 0) (pa_cons pe_int pa_nil))) (fun _ _ => rfl)) pa_nil)))))) pa_nil))))), ?_⟩
  refine ⟨_, rfl, _, rfl, _, _, rfl, rfl, b, _, rfl, hb, by decide, by decide, fun H1 r f1 b1 r0 r1 => ⟨(by show 1 ≤ sizeLine; decide), fun m nm => ?_⟩⟩
  obtain ⟨rn, rfl⟩ : ∃ rn : Nat, r = rn := ⟨r.toNat, by omega⟩
  have nmb : m ≠ b := (b1.ne nm).symm
  have b2 := b1.keep (same_new nm (.lst [.int (rn : Nat)]))
  have g2 : Fr b H1 (upd H1 m (.lst [.int (rn : Nat)])) := Fr.of (same_new nm _)
  have hm2 : Rm (upd H1 m (.lst [.int (rn : Nat)])) m rn := upd_same
  generalize upd H1 m (.lst [.int (rn : Nat)]) = H2 at b2 g2 hm2 ⊢
  refine ⟨_, rfl, _, rfl, _, rfl, _, rfl, _, rfl, _, _, rfl, rfl, (by show 2 ≤ sizeLine; decide), fun l nl => ?_⟩
  have nlb : l ≠ b := (b2.ne nl).symm
  have b3 := b2.keep (same_new nl (.lst [.int 7, .int (24 + 1)]))
  refine ⟨_, rfl, b, 2, rfl, b3, by decide, by decide, fun H4 r4 f4 b4 r40 r41 => ?_⟩
  have hm4 : Rm H4 m rn := f4 m _ nmb (same_new nl _ _ _ hm2)
  obtain ⟨x, hx, hc⟩ := at2 (x := V.int 7) (y := V.int (24 + 1)) r40 r41
  refine ⟨l, _, _, _, rfl, rfl, SqL.of (f4 l _ nlb upd_same), hx, ?_⟩
  obtain ⟨mo, rfl, hmo⟩ : ∃ mo : Int, x = .int mo ∧ mo < 1000 := by
    rcases hc with rfl | rfl
    · exact ⟨_, rfl, by decide⟩
    · exact ⟨_, rfl, by decide⟩
  refine ⟨b, m, k, rn, 1, mo, rfl, by decide, by decide, b4, hm4, nmb, hk, hmo, fun H5 v d r5 c5 f5 b5 hm5 hd5 no5 ly5 hc5 hr5 => ⟨(by show 2 ≤ sizeLine; decide), fun t nt => ?_⟩⟩
  have g6 : Fr b H5 (upd H5 t (.tup [.str k, v])) := Fr.of (same_new nt _)
  have fr : Fr b H (upd H5 t (.tup [.str k, v])) := by
    intro a o n1 ha
    have ha1 := f1 a o n1 ha
    have nam : a ≠ m := ne_of_none ha1 nm
    exact g6 a o n1 (f5 a o n1 nam (f4 a o n1 (same_new nl _ _ _ (g2 a o n1 ha1))))
  refine q _ _ _ d fr (b5.keep (same_new nt _)) upd_same (b5.ne nt).symm (hd5.fr g6) ?_ ly5 no5
  show (inS (.str k) kinds && okN 0 (bodyN k 4 d)) = true
  rw [kinds_in hk, hc5]
  exact decide_eq_true (by omega)
end
abbrev sWhole : Stmt := top 50
abbrev sIsTermL : Stmt := top 53
abbrev sIsVar : Stmt := top 54
abbrev sIsCondL : Stmt := top 55
section
variable {X : Cx}
def rInSL (K : PySem.W.Frag) (neg : Bool) : R2 := fun x y H Q => ∃ (d : PyData) (zs : List Str) (p : Addr), y = .ref p ∧ Dp K H x d ∧ d.canLay0 = true ∧ H p = some (.lst (zs.map V.str)) ∧ zs.all PyData.strOk = true ∧
  Q (.bl (if neg then !inS d zs else inS d zs)) H
theorem op_inSL (hu : X.A.units + 65 < cLine) : OpR X (compareOp .In) (rInSL X.K false) := by
  intro pins s σ H x y v u Q I rx ry h
  obtain ⟨d, zs, p, rfl, hd, ld, hz, oz, q⟩ := h
  obtain ⟨as, r1⟩ := Dp.reads I d x v hd rx
  obtain ⟨bs, r2⟩ := Dp.reads I (.list (zs.map PyData.str)) (.ref p) u (.lst (SqL.of hz) (dp_strs zs)) ry
  refine SeqAt.in_list_reads r2 r1 (lay_strs zs oz) ld ?_ ⟨.bl _, H, I, rfl, ?_⟩
  · rw [depth_strs]
    have := Nat.min_le_left 0 d.depth
    omega
  · rw [any_strs]; exact q
theorem op_notInSL (hu : X.A.units + 65 < cLine) : OpR X (compareOp .NotIn) (rInSL X.K true) := by
  intro pins s σ H x y v u Q I rx ry h
  obtain ⟨d, zs, p, rfl, hd, ld, hz, oz, q⟩ := h
  obtain ⟨as, r1⟩ := Dp.reads I d x v hd rx
  obtain ⟨bs, r2⟩ := Dp.reads I (.list (zs.map PyData.str)) (.ref p) u (.lst (SqL.of hz) (dp_strs zs)) ry
  refine SeqAt.notIn_list_reads r2 r1 (lay_strs zs oz) ld ?_ ⟨.bl _, H, I, rfl, ?_⟩
  · rw [depth_strs]
    have := Nat.min_le_left 0 d.depth
    omega
  · rw [any_strs]; exact q
end
def isInt (d : PyData) : Bool := match d with | .int _ => true | _ => false
def spL1 (f : PyData → Bool) (K : PySem.W.Frag) : Sp := fun vs H Q _ => ∃ (v : V) (d : PyData), vs = [v] ∧ Dp K H v d ∧ Lay d ∧ ∀ H', Same H H' → Q (.bl (f d)) H'
theorem isT_int {d : PyData} : (isT d "int" && !isT d "bool") = isInt d := by cases d <;> rfl
section
variable {P : Program} {w : World} {K : PySem.W.Frag} {mg : Str → Option Value} {base : Heap}
theorem scWhole : FnScope ["_law_thing"] ["_law_thing"] (defScope sWhole) := ⟨rfl, rfl, rfl, by decide +kernel, rfl, by decide +kernel, by decide +kernel⟩
theorem ok_whole {f : Addr} {fd : FuncData} (F : Fun K "_law_whole" "_law_whole" sWhole f fd) (T : Gs K mg) : FnOk P w K mg base CX0 1 f fd ["_law_thing"] (spL1 isInt K) := by
  refine F.ok scWhole (fun vs H Q E h => ?_) (fun cdv A outer s H vs Q E hr h => ?_)
  · obtain ⟨v, d, rfl, _⟩ := h
    rfl
  obtain ⟨v, d, rfl, hd, ld, q⟩ := h
  refine ⟨_, pss_one (ps_ret (pe_and (pe_callB call_isi (by rfl) T.isi (by decide +kernel) (pa_cons (pv 0) (pa_cons (pe_bltn (v := .ty "int") (by rfl) T.int (by decide +kernel) rfl) pa_nil)))
    (pe_one (pe_not (pe_callB call_isi (by rfl) T.isi (by decide +kernel) (pa_cons (pv 0) (pa_cons (pe_bltn (v := .ty "bool") (by rfl) T.bool (by decide +kernel) rfl) pa_nil))))))), ?_⟩
  refine ⟨_, rfl, v, .ty "int", _, _, _, rfl, .ty _, dp_ty hd, kit_isT d (by simp) (dp_nd hd), _, rfl, ?_⟩
  refine and_one (e := !isT d "bool") (fun Q' q' => ⟨_, rfl, v, .ty "bool", _, _, _, rfl, .ty _, dp_ty hd, kit_isT d (by simp) (dp_nd hd), _, rfl, q'⟩) ?_
  rw [isT_int]
  exact q H (Same.refl H)
theorem scIsTermL : FnScope ["_law_thing"] ["_law_thing"] (defScope sIsTermL) := ⟨rfl, rfl, rfl, by decide +kernel, rfl, by decide +kernel, by decide +kernel⟩
theorem ok_isTermL {f : Addr} {fd : FuncData} (F : Fun K "_law_is_term" "_law_is_term" sIsTermL f fd) (T : Gs K mg) (CW : Cal P w K mg base 1 "_law_whole" ["_law_thing"] (spL1 isInt K)) : FnOk P w K mg base CX0 2 f fd ["_law_thing"] (spL1 isTerm K) := by
  refine F.ok scIsTermL (fun vs H Q E h => ?_) (fun cdv A outer s H vs Q E hr h => ?_)
  · obtain ⟨v, d, rfl, _⟩ := h
    rfl
  obtain ⟨v, d, rfl, hd, ld, q⟩ := h
  refine ⟨_, pss_cons (ps_if (pt_val (pe_callB call_isi (by rfl) T.isi (by decide +kernel) (pa_cons (pv 0) (pa_cons (pe_bltn (v := .ty "str") (by rfl) T.str (by decide +kernel) rfl) pa_nil))))
      (pss_one (ps_ret (pe_cmpR (op_inSL (hu65 hr)) (pv 0) (pe_lst (pa_cons pe_str (pa_cons pe_str pa_nil))) (by rfl)))) pss_nil)
    (pss_one (ps_ret (pe_and (pe_call CW.G hr rfl CW.m CW.kp CW.b .nil pass0 (pa_cons (pv 0) pa_nil)) (pe_one (pe_chain op_le op_lt pe_int (pv 0) pe_int))))), ?_⟩
  refine ⟨_, rfl, v, .ty "str", _, _, _, rfl, .ty _, dp_ty hd, kit_isT d (by simp) (dp_nd hd), _, rfl, ?_⟩
  cases hs : isT d "str" with
  | true =>
    obtain ⟨z, rfl⟩ := isT_str hs
    refine iteT ⟨_, rfl, (by show 2 ≤ sizeLine; decide), fun p np => ?_⟩
    refine ⟨.str z, vars, p, rfl, dp_mono (same_new np _) _ _ hd, ld, upd_same, by decide +kernel, ?_⟩
    have e : isTerm (.str z) = inS (.str z) vars := by simp [isTerm, intIn]
    rw [e] at q
    exact q _ (same_new np _)
  | false =>
    refine iteF ⟨_, rfl, v, d, rfl, hd, ld, fun H1 s1 => ⟨_, rfl, ?_⟩⟩
    cases hd with
    | int i =>
      refine iteT ⟨_, rfl, _, _, rfl, rfl, _, rfl, ?_⟩
      have e : isTerm (.int i) = (decide ((0 : Int) ≤ i) && decide (i < 16)) := by
        have e1 : decide (i ≤ 15) = decide (i < 16) := decide_eq_decide.mpr (by omega)
        simp only [isTerm, inS, intIn, Bool.false_or, e1]
      rw [e] at q
      by_cases c : (0 : Int) ≤ i
      · rw [decide_eq_true c] at q ⊢
        exact iteT ⟨_, _, rfl, rfl, q H1 s1⟩
      · rw [decide_eq_false c] at q ⊢
        exact iteF (q H1 s1)
    | str z => cases hs
    | non => exact iteF (q H1 s1)
    | bl b => exact iteF (q H1 s1)
    | lst _ _ => exact iteF (q H1 s1)
    | tup _ _ => exact iteF (q H1 s1)
theorem scIsVar : FnScope ["_law_thing"] ["_law_thing"] (defScope sIsVar) := ⟨rfl, rfl, rfl, by decide +kernel, rfl, by decide +kernel, by decide +kernel⟩
def isVar (d : PyData) : Bool := inS d vars
theorem ok_isVar {f : Addr} {fd : FuncData} (F : Fun K "_law_is_variable" "_law_is_variable" sIsVar f fd) (T : Gs K mg) : FnOk P w K mg base CX0 1 f fd ["_law_thing"] (spL1 isVar K) := by
  refine F.ok scIsVar (fun vs H Q E h => ?_) (fun cdv A outer s H vs Q E hr h => ?_)
  · obtain ⟨v, d, rfl, _⟩ := h
    rfl
  obtain ⟨v, d, rfl, hd, ld, q⟩ := h
  refine ⟨_, pss_one (ps_ret (pe_and (pe_callB call_isi (by rfl) T.isi (by decide +kernel) (pa_cons (pv 0) (pa_cons (pe_bltn (v := .ty "str") (by rfl) T.str (by decide +kernel) rfl) pa_nil)))
      (pe_one (pe_cmpR (op_inSL (hu65 hr)) (pv 0) (pe_lst (pa_cons pe_str (pa_cons pe_str pa_nil))) (by rfl))))), ?_⟩
  refine ⟨_, rfl, v, .ty "str", _, _, _, rfl, .ty _, dp_ty hd, kit_isT d (by simp) (dp_nd hd), _, rfl, ?_⟩
  cases hs : isT d "str" with
  | true =>
    refine iteT ⟨_, rfl, (by show 2 ≤ sizeLine; decide), fun p np => ?_⟩
    exact ⟨d, vars, p, rfl, dp_mono (same_new np _) _ _ hd, ld, upd_same, by decide +kernel, q _ (same_new np _)⟩
  | false =>
    have e : isVar d = false := by cases d <;> first | rfl | (simp [isT, tyN] at hs)
    rw [e] at q
    exact iteF (q H (Same.refl H))
theorem scIsCondL : FnScope ["_law_thing"] ["_law_thing"] (defScope sIsCondL) := ⟨rfl, rfl, rfl, by decide +kernel, rfl, by decide +kernel, by decide +kernel⟩
theorem dp_three {H : Hp} {xs : List V} {ds : List PyData} (h : DpAll K H xs ds) (l : ds.length = 3) : ∃ x0 x1 x2 d0 d1 d2, xs = [x0, x1, x2] ∧ ds = [d0, d1, d2] ∧ Dp K H x0 d0 ∧ Dp K H x1 d1 ∧ Dp K H x2 d2 := by
  match ds, l, h with
  | [d0, d1, d2], _, .cons (v := x0) h0 (.cons (v := x1) h1 (.cons (v := x2) h2 .nil)) => exact ⟨x0, x1, x2, d0, d1, d2, rfl, rfl, h0, h1, h2⟩
theorem ok_isCondL {f : Addr} {fd : FuncData} (F : Fun K "_law_is_condition" "_law_is_condition" sIsCondL f fd) (T : Gs K mg) (CV : Cal P w K mg base 1 "_law_is_variable" ["_law_thing"] (spL1 isVar K)) (CT : Cal P w K mg base 2 "_law_is_term" ["_law_thing"] (spL1 isTerm K)) :
    FnOk P w K mg base CX0 3 f fd ["_law_thing"] (spL1 isCond K) := by
  refine F.ok scIsCondL (fun vs H Q E h => ?_) (fun cdv A outer s H vs Q E hr h => ?_)
  · obtain ⟨v, d, rfl, _⟩ := h
    rfl
  obtain ⟨v, d, rfl, hd, ld, q⟩ := h
  have hr1 : Room 1 _ := hr.mono (by decide)
  refine ⟨_, pss_cons (ps_if (PW.pt (pw_or (pt_not (pt_val (pe_callB call_isi (by rfl) T.isi (by decide +kernel) (pa_cons (pv 0) (pa_cons (pe_bltn (v := .ty "tuple") (by rfl) T.tup (by decide +kernel) rfl) pa_nil)))))
      (pw_or (pt_cmpR op_ne (pe_callB call_len_seq (by rfl) T.len PySem.boot_len (pa_cons (pv 0) pa_nil)) pe_int (nomark _))
      (pw_or1 (pt_not (pt_val (pe_callB call_isi (by rfl) T.isi (by decide +kernel) (pa_cons (pe_ix ix_tup (pv 0) pe_int (fun _ _ => rfl)) (pa_cons (pe_bltn (v := .ty "str") (by rfl) T.str (by decide +kernel) rfl) pa_nil))))))))) (pss_one (ps_ret pe_bl)) pss_nil)
    (pss_one (ps_ret (pe_and (pe_call CV.G hr1 rfl CV.m CV.kp CV.b .nil pass0 (pa_cons (pe_ix ix_tup (pv 0) pe_int (fun _ _ => rfl)) pa_nil))
      (pe_and (pe_cmpR (op_inSL (hu65 hr)) (pe_ix ix_tup (pv 0) pe_int (fun _ _ => rfl)) (pe_lst (pa_cons pe_str (pa_cons pe_str (pa_cons pe_str pa_nil)))) (by rfl))
      (pe_one (pe_call CT.G hr rfl CT.m CT.kp CT.b .nil pass0 (pa_cons (pe_ix ix_tup (pv 0) pe_int (fun _ _ => rfl)) pa_nil))))))), ?_⟩
  refine ⟨_, rfl, v, .ty "tuple", _, _, _, rfl, .ty _, dp_ty hd, kit_isT d (by simp) (dp_nd hd), _, rfl, ?_⟩
  cases ht : isT d "tuple" with
  | false =>
    refine iteT (iteT ?_)
    have e : isCond d = false := by cases d <;> first | rfl | (simp [isT, tyN] at ht)
    rw [e] at q
    exact q H (Same.refl H)
  | true =>
    obtain ⟨ds, rfl⟩ := isT_tup ht
    obtain ⟨a, xs, rfl, hs, ha⟩ := dp_tup_inv hd
    have hl := dpAll_len ha
    refine iteF ⟨_, rfl, a, xs, rfl, .inr hs, rfl, _, rfl, ?_⟩
    by_cases h3 : ds.length = 3
    · refine iteNS (show V.int ((xs.length : Nat) : Int) = V.int 3 by rw [hl, h3]; rfl) ?_
      obtain ⟨x0, x1, x2, d0, d1, d2, rfl, rfl, h0, h1, h2⟩ := dp_three ha h3
      have lm := lay_mem (lay_tup ld)
      have e : isCond (.tuple [d0, d1, d2]) = (isVar d0 && (inS d1 signs && isTerm d2)) := Bool.and_assoc _ _ _
      rw [e] at q
      refine ⟨_, rfl, a, _, _, _, rfl, rfl, hs, atI_nat (j := 1) rfl, x1, .ty "str", _, _, _, rfl, .ty _, dp_ty h1, kit_isT d1 (by simp) (dp_nd h1), _, rfl, ?_⟩
      cases hz : isT d1 "str" with
      | false =>
        refine iteT ?_
        have e1 : inS d1 signs = false := by cases d1 <;> first | rfl | (simp [isT, tyN] at hz)
        rw [e1, Bool.false_and, Bool.and_false] at q
        exact q H (Same.refl H)
      | true =>
        refine iteF ⟨_, rfl, a, _, _, _, rfl, rfl, hs, atI_nat (j := 0) rfl, x0, d0, rfl, h0, lm _ (by simp), fun H1 s1 => ⟨_, rfl, ?_⟩⟩
        have hs1 : SqT K H1 a [x0, x1, x2] := Same.tup s1 hs
        cases c0 : isVar d0 with
        | false => rw [c0] at q; exact iteF (q H1 s1)
        | true =>
          rw [c0, Bool.true_and] at q
          refine iteT ⟨_, rfl, a, _, _, _, rfl, rfl, hs1, atI_nat (j := 1) rfl, (by show 3 ≤ sizeLine; decide), fun p np => ?_⟩
          have s2 := s1.trans (same_new np (.lst [.str "==", .str "!=", .str "<"]))
          refine ⟨d1, signs, p, rfl, dp_mono s2 _ _ h1, lm _ (by simp), upd_same, by decide +kernel, _, rfl, ?_⟩
          cases c1 : inS d1 signs with
          | false => rw [c1] at q; exact iteF (q _ s2)
          | true =>
            rw [c1, Bool.true_and] at q
            exact iteT ⟨_, rfl, a, _, _, _, rfl, rfl, Same.tup s2 hs, atI_nat (j := 2) rfl, x2, d2, rfl, dp_mono s2 _ _ h2, lm _ (by simp), fun H3 s3 => q _ (s2.trans s3)⟩
    · refine ite2 (fun _ => iteT ?_) (fun c => absurd ?_ c)
      · have e : isCond (.tuple ds) = false := by
          match ds, h3 with
          | [], _ => rfl
          | [_], _ => rfl
          | [_, _], _ => rfl
          | [_, _, _], h => exact absurd rfl h
          | _ :: _ :: _ :: _ :: _, _ => rfl
        rw [e] at q
        exact q H (Same.refl H)
      · rw [Bool.not_eq_true', decide_eq_false_iff_not]
        intro z
        have z' : ((xs.length : Nat) : Int) = 3 := by injection z
        omega
end
abbrev sIsSimple : Stmt := top 56
theorem strT {z : Str} {A B : Prop} (h : A) : if decide (V.str z = V.str z) = true then A else B := by
  rw [if_pos (decide_eq_true rfl)]; exact h
theorem strF {z y : Str} {A B : Prop} (n : ¬ z = y) (h : B) : if decide (V.str z = V.str y) = true then A else B := by
  rw [if_neg (by intro c; have c' := of_decide_eq_true c; injection c' with c''; exact n c'')]; exact h
def lenOf (z : Str) : Int := if z = "set" then 2 else if z = "add" then 2 else if z = "wait" then 1 else if z = "ask" then 3 else if z = "answer" then 1 else if z = "grow" then 1 else if z = "list" then 1 else -1
def kv7 : List (Key × V) := [(.inr "set", .int 2), (.inr "add", .int 2), (.inr "wait", .int 1), (.inr "ask", .int 3), (.inr "answer", .int 1), (.inr "grow", .int 1), (.inr "list", .int 1)]
theorem merge7 : mergeK [] kv7 = kv7 := by decide +kernel
theorem valV_eq {k : Key} {v : V} {r : List (Key × V)} : valV ((k, v) :: r) k = some v := by
  unfold valV; rw [List.find?_cons_of_pos (by exact decide_eq_true rfl)]; rfl
theorem valV_ne {z x : Str} {v : V} {r : List (Key × V)} (n : ¬ z = x) : valV (((Sum.inr x : Key), v) :: r) (Sum.inr z) = valV r (Sum.inr z) := by
  unfold valV; rw [List.find?_cons_of_neg (by intro c; have c' := of_decide_eq_true c; injection c' with c''; exact n c''.symm)]
theorem get7 (z : Str) : (valV kv7 (.inr z)).getD (.int (-1)) = .int (lenOf z) := by
  unfold kv7 lenOf
  by_cases h1 : z = "set"
  · subst h1; rw [valV_eq, if_pos rfl]; rfl
  rw [valV_ne h1, if_neg h1]
  by_cases h2 : z = "add"
  · subst h2; rw [valV_eq, if_pos rfl]; rfl
  rw [valV_ne h2, if_neg h2]
  by_cases h3 : z = "wait"
  · subst h3; rw [valV_eq, if_pos rfl]; rfl
  rw [valV_ne h3, if_neg h3]
  by_cases h4 : z = "ask"
  · subst h4; rw [valV_eq, if_pos rfl]; rfl
  rw [valV_ne h4, if_neg h4]
  by_cases h5 : z = "answer"
  · subst h5; rw [valV_eq, if_pos rfl]; rfl
  rw [valV_ne h5, if_neg h5]
  by_cases h6 : z = "grow"
  · subst h6; rw [valV_eq, if_pos rfl]; rfl
  rw [valV_ne h6, if_neg h6]
  by_cases h7 : z = "list"
  · subst h7; rw [valV_eq, if_pos rfl]; rfl
  rw [valV_ne h7, if_neg h7]
  rfl
theorem l_set : lenOf "set" = 2 := by decide +kernel
theorem l_add : lenOf "add" = 2 := by decide +kernel
theorem l_wait : lenOf "wait" = 1 := by decide +kernel
theorem l_answer : lenOf "answer" = 1 := by decide +kernel
theorem l_ask : lenOf "ask" = 3 := by decide +kernel
theorem dp_one {K : PySem.W.Frag} {H : Hp} {xs : List V} {ds : List PyData} (h : DpAll K H xs ds) (l : ds.length = 1) : ∃ x0 d0, xs = [x0] ∧ ds = [d0] ∧ Dp K H x0 d0 := by
  match ds, l, h with
  | [d0], _, .cons (v := x0) h0 .nil => exact ⟨x0, d0, rfl, rfl, h0⟩
theorem plain_len {z k : Str} {ps : List PyData} (hk : k = "teller" ∨ k = "collector") (h : isPlain (.tuple (.str z :: ps)) k = true) : (ps.length : Int) = lenOf z := by
  obtain ⟨z', ps', rs, e, hz, hl, _⟩ := plain_inv h
  injection e with e
  injection e with e1 e2
  injection e1 with e1
  subst e1 e2
  rw [hl]
  unfold rolesZ at hz
  unfold lenOf
  rcases hk with rfl | rfl
  all_goals
    repeat' split at hz
    all_goals first | cases hz | skip
    all_goals (subst_vars; first | decide +kernel | (rename_i h1; revert h1; decide +kernel))
def spSimpleL (K : PySem.W.Frag) : Sp := fun vs H Q _ => ∃ (v : V) (k z : Str) (ps : List PyData), vs = [.str k, v] ∧ Dp K H v (.tuple (.str z :: ps)) ∧ Lay (.tuple (.str z :: ps)) ∧ (k = "teller" ∨ k = "collector") ∧ ∀ H', Same H H' → Q (.bl (isPlain (.tuple (.str z :: ps)) k)) H'
theorem plainE1 {z k r : Str} {p : PyData} (h : rolesZ z k = some [r]) : isPlain (.tuple [.str z, p]) k = isPart p r := by rw [plain_some h]; simp [allParts]
theorem plainE2 {z k r1 r2 : Str} {p1 p2 : PyData} (h : rolesZ z k = some [r1, r2]) : isPlain (.tuple [.str z, p1, p2]) k = (isPart p1 r1 && isPart p2 r2) := by rw [plain_some h]; simp [allParts]
theorem plainE3 {z k r1 r2 r3 : Str} {p1 p2 p3 : PyData} (h : rolesZ z k = some [r1, r2, r3]) : isPlain (.tuple [.str z, p1, p2, p3]) k = (isPart p1 r1 && (isPart p2 r2 && isPart p3 r3)) := by rw [plain_some h]; simp [allParts]
theorem plainE0 {z k : Str} {ps : List PyData} (h : rolesZ z k = none) : isPlain (.tuple (.str z :: ps)) k = false := plain_none (d := .tuple (.str z :: ps)) h
/-- an integer within bounds, asked by the law's words -/
theorem within {lo hi : Int} {K : PySem.W.Frag} {H : Hp} {v : V} {d : PyData} (hd : Dp K H v d) : (isInt d = true → ∃ i, v = .int i ∧ d = .int i) ∧ (isInt d = false → intIn d lo hi = false) := by
  cases hd with
  | int i => exact ⟨fun _ => ⟨i, rfl, rfl⟩, fun h => (nomatch h)⟩
  | _ => exact ⟨fun h => (nomatch h), fun _ => rfl⟩
section
variable {P : Program} {w : World} {K : PySem.W.Frag} {mg : Str → Option Value} {base : Heap}
theorem scIsSimple : FnScope ["_law_kind_here", "_law_thing", "_law_word", "_law_parts"] ["_law_kind_here", "_law_thing"] (defScope sIsSimple) := ⟨rfl, rfl, rfl, by decide +kernel, rfl, by decide +kernel, by decide +kernel⟩
theorem ok_isSimple {f : Addr} {fd : FuncData} (F : Fun K "_law_is_simple" "_law_is_simple" sIsSimple f fd) (T : Gs K mg) (CW : Cal P w K mg base 1 "_law_whole" ["_law_thing"] (spL1 isInt K)) (CV : Cal P w K mg base 1 "_law_is_variable" ["_law_thing"] (spL1 isVar K)) (CT : Cal P w K mg base 2 "_law_is_term" ["_law_thing"] (spL1 isTerm K)) :
    FnOk P w K mg base CX0 3 f fd ["_law_kind_here", "_law_thing"] (spSimpleL K) := by
  refine F.ok scIsSimple (fun vs H Q E h => ?_) (fun cdv A outer s H vs Q E hr h => ?_)
  · obtain ⟨v, k, z, ps, rfl, _⟩ := h
    rfl
  obtain ⟨v, k, z, ps, rfl, hd, ld, hk, q⟩ := h
  have hr1 : Room 1 _ := hr.mono (by decide)
  refine ⟨_, pss_cons (ps_set (i := 2) scIsSimple.nd rfl (.inl rfl) (pe_ix ix_tup (pv 1) pe_int (fun _ _ => rfl)))
    (pss_cons (ps_set (i := 3) scIsSimple.nd rfl (.inl rfl) (pe_slice sl_tup (pv 1) (po_some pe_int) po_none))
    (pss_cons (ps_if (pt_cmpR op_ne (pe_callB call_len_seq (by rfl) T.len PySem.boot_len (pa_cons (pv 3) pa_nil))
        (pe_dget2 (hu_of hr) (pe_disp (pps_cons pe_str pe_int (pps_cons pe_str pe_int (pps_cons pe_str pe_int (pps_cons pe_str pe_int (pps_cons pe_str pe_int (pps_cons pe_str pe_int (pps_cons pe_str pe_int pps_nil))))))) (by rfl) (by rfl) (fun z => by cases z) (by decide)) (pv 2) (pe_un un_neg pe_int) ⟨rfl, rfl, rfl, rfl⟩) (nomark _)) (pss_one (ps_ret pe_bl)) pss_nil)
    (pss_cons (ps_if (pt_cmpR op_eq (pv 2) pe_str (nomark _)) (pss_one (ps_ret (pe_and (pe_call CV.G hr1 rfl CV.m CV.kp CV.b .nil pass0 (pa_cons (pe_ix ix_tup (pv 3) pe_int (fun _ _ => rfl)) pa_nil)) (pe_and (pe_call CW.G hr1 rfl CW.m CW.kp CW.b .nil pass0 (pa_cons (pe_ix ix_tup (pv 3) pe_int (fun _ _ => rfl)) pa_nil)) (pe_one (pe_chain op_le op_lt pe_int (pe_ix ix_tup (pv 3) pe_int (fun _ _ => rfl)) pe_int)))))) pss_nil)
    (pss_cons (ps_if (pt_cmpR op_eq (pv 2) pe_str (nomark _)) (pss_one (ps_ret (pe_and (pe_call CV.G hr1 rfl CV.m CV.kp CV.b .nil pass0 (pa_cons (pe_ix ix_tup (pv 3) pe_int (fun _ _ => rfl)) pa_nil)) (pe_one (pe_call CT.G hr rfl CT.m CT.kp CT.b .nil pass0 (pa_cons (pe_ix ix_tup (pv 3) pe_int (fun _ _ => rfl)) pa_nil)))))) pss_nil)
    (pss_cons (ps_if (pt_cmpR op_eq (pv 2) pe_str (nomark _)) (pss_one (ps_ret (pe_and (pe_call CW.G hr1 rfl CW.m CW.kp CW.b .nil pass0 (pa_cons (pe_ix ix_tup (pv 3) pe_int (fun _ _ => rfl)) pa_nil)) (pe_one (pe_chain op_le op_le pe_int (pe_ix ix_tup (pv 3) pe_int (fun _ _ => rfl)) (pe_op op_pow pe_int pe_int)))))) pss_nil)
    (pss_cons (ps_if (pt_cmpR (op_inSL (hu65 hr)) (pv 2) (pe_lst (pa_cons pe_str (pa_cons pe_str pa_nil))) (by rfl)) (pss_one (ps_ret (pe_and (pe_cmpR op_eq (pv 0) pe_str (nomark _)) (pe_one (pe_call CT.G hr rfl CT.m CT.kp CT.b .nil pass0 (pa_cons (pe_ix ix_tup (pv 3) pe_int (fun _ _ => rfl)) pa_nil)))))) pss_nil)
    (pss_cons (ps_if (pt_cmpR op_eq (pv 2) pe_str (nomark _)) (pss_one (ps_ret (pe_and (pe_cmpR op_eq (pv 0) pe_str (nomark _)) (pe_and (pe_call CW.G hr1 rfl CW.m CW.kp CW.b .nil pass0 (pa_cons (pe_ix ix_tup (pv 3) pe_int (fun _ _ => rfl)) pa_nil)) (pe_one (pe_chain op_le op_le pe_int (pe_ix ix_tup (pv 3) pe_int (fun _ _ => rfl)) pe_int)))))) pss_nil)
    (pss_cons (ps_if (PW.pt (pw_or (pt_not (pt_val (pe_callB call_isi (by rfl) T.isi (by decide +kernel) (pa_cons (pe_ix ix_tup (pv 3) pe_int (fun _ _ => rfl)) (pa_cons (pe_bltn (v := .ty "str") (by rfl) T.str (by decide +kernel) rfl) pa_nil)))))
        (pw_or (pt_cmpR (op_notInSL (hu65 hr)) (pe_ix ix_tup (pv 3) pe_int (fun _ _ => rfl)) (pe_lst (pa_cons pe_str (pa_cons pe_str (pa_cons pe_str pa_nil)))) (by rfl)) (pw_or1 (pt_not (pt_val (pe_call CT.G hr rfl CT.m CT.kp CT.b .nil pass0 (pa_cons (pe_ix ix_tup (pv 3) pe_int (fun _ _ => rfl)) pa_nil)))))))) (pss_one (ps_ret pe_bl)) pss_nil)
    (pss_one (ps_ret (pe_and (pe_cmpR op_eq (pv 0) pe_str (nomark _)) (pe_one (pe_call CV.G hr1 rfl CV.m CV.kp CV.b .nil pass0 (pa_cons (pe_ix ix_tup (pv 3) pe_int (fun _ _ => rfl)) pa_nil)))))))))))))), ?_⟩
  obtain ⟨a0, xs, rfl, h0, ha⟩ := dp_tup_inv hd
  cases ha with
  | cons hz hp =>
    cases hz
    rename_i xr
    refine ⟨_, rfl, a0, _, _, _, rfl, rfl, h0, atI_nat (j := 0) rfl, ?_⟩
    refine ⟨_, rfl, _, rfl, a0, _, rfl, h0, not_whole1 _ _, fun p np => ?_⟩
    rw [cut1]
    have s1 : Same H (upd H p (.tup xr)) := same_new np _
    have e1 : (upd H p (.tup xr)) p = some (.tup xr) := upd_same
    generalize upd H p (.tup xr) = H1 at s1 e1 ⊢
    refine ⟨_, rfl, p, _, rfl, .inr (SqT.of e1), fun dd ndd => ⟨upd_same, kv7, rfl, by decide, dd, rfl, .inl ⟨_, .inl upd_same⟩, _, rfl, _, rfl, _, DGet.k (k := .inr z) upd_same, ?_⟩⟩
    rw [merge7]
    have s2 : Same H (upd (upd H1 dd (.dK [])) dd (.dK kv7)) := s1.trans (same_upd (same_new ndd _) ndd _)
    have e2 : (upd (upd H1 dd (.dK [])) dd (.dK kv7)) p = some (.tup xr) := by
      rw [upd_ne (ne_of_none e1 ndd), upd_ne (ne_of_none e1 ndd)]
      exact e1
    generalize upd (upd H1 dd (.dK [])) dd (.dK kv7) = H2 at s2 e2 ⊢
    rw [show (valV kv7 (Sum.inr z)).getD ((fun i : Int => V.int (-i)) 1) = V.int (lenOf z) from get7 z]
    refine ⟨rfl, _, rfl, ?_⟩
    have hl : xr.length = ps.length := dpAll_len hp
    have lm := lay_mem (lay_tup ld)
    by_cases hlen : ((xr.length : Nat) : Int) = lenOf z
    rotate_left
    · refine ite2 (fun _ => ?_) (fun c => absurd ?_ c)
      · have e : isPlain (.tuple (.str z :: ps)) k = false := by
          cases hP : isPlain (.tuple (.str z :: ps)) k with
          | true => exact absurd (by rw [hl]; exact plain_len hk hP) hlen
          | false => rfl
        rw [e] at q
        exact q H2 s2
      · rw [Bool.not_eq_true', decide_eq_false_iff_not]
        intro z1
        injection z1 with z2
        exact hlen z2
    refine iteNS (congrArg V.int hlen) ?_
    rw [hl] at hlen
    refine ⟨_, rfl, rfl, _, rfl, ?_⟩
    by_cases h1 : z = "set"
    · subst h1
      obtain ⟨x0, x1, d0, d1, rfl, rfl, hx0, hx1⟩ := dp_two hp (by rw [l_set] at hlen; omega)
      rw [plainE2 (roles_set k), part_variable, part_value] at q
      refine strT ⟨_, rfl, p, _, _, _, rfl, rfl, SqT.of e2, atI_nat (j := 0) rfl, x0, d0, rfl, dp_mono s2 _ _ hx0, lm _ (by simp), fun H3 s3 => ⟨_, rfl, ?_⟩⟩
      cases c0 : isVar d0 with
      | false => rw [show inS d0 vars = false from c0] at q; exact iteF (q _ (s2.trans s3))
      | true =>
        rw [show inS d0 vars = true from c0, Bool.true_and] at q
        refine iteT ⟨_, rfl, p, _, _, _, rfl, rfl, SqT.of (s3 _ _ e2), atI_nat (j := 1) rfl, x1, d1, rfl, dp_mono (s2.trans s3) _ _ hx1, lm _ (by simp), fun H4 s4 => ⟨_, rfl, ?_⟩⟩
        have s24 := s2.trans (s3.trans s4)
        cases c1 : isInt d1 with
        | false => rw [(within hx1).2 c1] at q; exact iteF (q _ s24)
        | true =>
          obtain ⟨i, rfl, rfl⟩ := (within (lo := 0) (hi := 0) hx1).1 c1
          refine iteT ⟨_, rfl, p, _, _, _, rfl, rfl, SqT.of (s4 _ _ (s3 _ _ e2)), atI_nat (j := 1) rfl, _, _, rfl, rfl, _, rfl, ?_⟩
          have e : intIn (.int i) 0 15 = (decide ((0 : Int) ≤ i) && decide (i < 16)) := by
            have e1 : decide (i ≤ 15) = decide (i < 16) := decide_eq_decide.mpr (by omega)
            simp only [intIn, e1]
          rw [e] at q
          by_cases c : (0 : Int) ≤ i
          · rw [decide_eq_true c] at q ⊢
            exact iteT ⟨_, _, rfl, rfl, q _ s24⟩
          · rw [decide_eq_false c] at q ⊢
            exact iteF (q _ s24)
    refine strF h1 ⟨_, rfl, rfl, _, rfl, ?_⟩
    by_cases h2 : z = "add"
    · subst h2
      obtain ⟨x0, x1, d0, d1, rfl, rfl, hx0, hx1⟩ := dp_two hp (by rw [l_add] at hlen; omega)
      rw [plainE2 (roles_add k), part_variable, part_term] at q
      refine strT ⟨_, rfl, p, _, _, _, rfl, rfl, SqT.of e2, atI_nat (j := 0) rfl, x0, d0, rfl, dp_mono s2 _ _ hx0, lm _ (by simp), fun H3 s3 => ⟨_, rfl, ?_⟩⟩
      cases c0 : isVar d0 with
      | false => rw [show inS d0 vars = false from c0] at q; exact iteF (q _ (s2.trans s3))
      | true =>
        rw [show inS d0 vars = true from c0, Bool.true_and] at q
        exact iteT ⟨_, rfl, p, _, _, _, rfl, rfl, SqT.of (s3 _ _ e2), atI_nat (j := 1) rfl, x1, d1, rfl, dp_mono (s2.trans s3) _ _ hx1, lm _ (by simp), fun H4 s4 => q _ (s2.trans (s3.trans s4))⟩
    refine strF h2 ⟨_, rfl, rfl, _, rfl, ?_⟩
    by_cases h3 : z = "wait"
    · subst h3
      obtain ⟨x0, d0, rfl, rfl, hx0⟩ := dp_one hp (by rw [l_wait] at hlen; omega)
      rw [plainE1 (roles_wait k), part_steps] at q
      refine strT ⟨_, rfl, p, _, _, _, rfl, rfl, SqT.of e2, atI_nat (j := 0) rfl, x0, d0, rfl, dp_mono s2 _ _ hx0, lm _ (by simp), fun H3 s3 => ⟨_, rfl, ?_⟩⟩
      cases c1 : isInt d0 with
      | false => rw [(within hx0).2 c1] at q; exact iteF (q _ (s2.trans s3))
      | true =>
        obtain ⟨i, rfl, rfl⟩ := (within (lo := 0) (hi := 0) hx0).1 c1
        refine iteT ⟨_, rfl, p, _, _, _, rfl, rfl, SqT.of (s3 _ _ e2), atI_nat (j := 0) rfl, _, _, rfl, rfl, _, rfl, ?_⟩
        have e : intIn (.int i) 1 longest = (decide ((1 : Int) ≤ i) && decide (i ≤ longest)) := rfl
        rw [e] at q
        by_cases c : (1 : Int) ≤ i
        · rw [decide_eq_true c] at q ⊢
          refine iteT ⟨_, _, rfl, rfl, ⟨by decide, by decide, by decide⟩, _, _, rfl, rfl, ?_⟩
          rw [pow30]
          exact q _ (s2.trans s3)
        · rw [decide_eq_false c] at q ⊢
          exact iteF (q _ (s2.trans s3))
    refine strF h3 ⟨_, rfl, (by show 2 ≤ sizeLine; decide), fun gl ngl => ?_⟩
    have s3 := s2.trans (same_new ngl (.lst [.str "grow", .str "list"]))
    have e3 := same_new ngl (.lst [.str "grow", .str "list"]) _ _ e2
    refine ⟨.str z, ["grow", "list"], gl, rfl, .str z, lm _ (by simp), upd_same, by decide +kernel, _, rfl, ?_⟩
    generalize upd H2 gl (.lst [.str "grow", .str "list"]) = H3 at s3 e3 ⊢
    have kk : k = "collector" ∨ ¬ k = "collector" := Classical.em _
    by_cases h4 : z = "grow" ∨ z = "list"
    · have e4 : inS (.str z) ["grow", "list"] = true := by rcases h4 with rfl | rfl <;> decide +kernel
      obtain ⟨x0, d0, rfl, rfl, hx0⟩ := dp_one hp (by
        have : lenOf z = 1 := by rcases h4 with rfl | rfl <;> decide +kernel
        omega)
      refine ite2 (fun _ => ?_) (fun c => absurd e4 c)
      refine ⟨_, rfl, rfl, _, rfl, ?_⟩
      rcases hk with rfl | rfl
      · refine strF (by decide +kernel) ?_
        have e : isPlain (.tuple [.str z, d0]) "teller" = false := by rcases h4 with rfl | rfl <;> exact plainE0 (by decide +kernel)
        rw [e] at q
        exact q _ s3
      · refine strT ⟨_, rfl, p, _, _, _, rfl, rfl, SqT.of e3, atI_nat (j := 0) rfl, x0, d0, rfl, dp_mono s3 _ _ hx0, lm _ (by simp), fun H4 s4 => ?_⟩
        have e : isPlain (.tuple [.str z, d0]) "collector" = isTerm d0 := by rcases h4 with rfl | rfl <;> rw [plainE1 (by first | exact roles_grow | exact roles_list), part_term]
        rw [e] at q
        exact q _ (s3.trans s4)
    have e4 : inS (.str z) ["grow", "list"] = false := by
      show (["grow", "list"] : List Str).any (· == z) = false
      rw [List.any_eq_false]
      intro y my hy
      have hy' : y = z := eq_of_beq hy
      subst hy'
      simp only [List.mem_cons, List.not_mem_nil, or_false] at my
      exact h4 my
    refine ite2 (fun c => absurd c (by rw [show (if false = true then !inS (.str z) ["grow", "list"] else inS (.str z) ["grow", "list"]) = inS (.str z) ["grow", "list"] from rfl, e4]; decide)) (fun _ => ?_)
    refine ⟨_, rfl, rfl, _, rfl, ?_⟩
    by_cases h5 : z = "answer"
    · subst h5
      obtain ⟨x0, d0, rfl, rfl, hx0⟩ := dp_one hp (by rw [l_answer] at hlen; omega)
      refine strT ⟨_, rfl, rfl, _, rfl, ?_⟩
      rcases hk with rfl | rfl
      · rw [plainE1 roles_answer, part_answer] at q
        refine strT ⟨_, rfl, p, _, _, _, rfl, rfl, SqT.of e3, atI_nat (j := 0) rfl, x0, d0, rfl, dp_mono s3 _ _ hx0, lm _ (by simp), fun H4 s4 => ⟨_, rfl, ?_⟩⟩
        cases c1 : isInt d0 with
        | false => rw [(within hx0).2 c1] at q; exact iteF (q _ (s3.trans s4))
        | true =>
          obtain ⟨i, rfl, rfl⟩ := (within (lo := 0) (hi := 0) hx0).1 c1
          refine iteT ⟨_, rfl, p, _, _, _, rfl, rfl, SqT.of (s4 _ _ e3), atI_nat (j := 0) rfl, _, _, rfl, rfl, _, rfl, ?_⟩
          have e : intIn (.int i) 0 1 = (decide ((0 : Int) ≤ i) && decide (i ≤ 1)) := rfl
          rw [e] at q
          by_cases c : (0 : Int) ≤ i
          · rw [decide_eq_true c] at q ⊢
            exact iteT ⟨_, _, rfl, rfl, q _ (s3.trans s4)⟩
          · rw [decide_eq_false c] at q ⊢
            exact iteF (q _ (s3.trans s4))
      · rw [plainE0 (by decide +kernel)] at q
        exact strF (by decide +kernel) (q _ s3)
    refine strF h5 ?_
    have h6 : z = "ask" := by
      have h7 : ¬ z = "grow" := fun e => h4 (.inl e)
      have h8 : ¬ z = "list" := fun e => h4 (.inr e)
      by_cases h6 : z = "ask"
      · exact h6
      · have : lenOf z = -1 := by
          unfold lenOf
          rw [if_neg h1, if_neg h2, if_neg h3, if_neg h6, if_neg h5, if_neg h7, if_neg h8]
        omega
    subst h6
    obtain ⟨x0, x1, x2, d0, d1, d2, rfl, rfl, hx0, hx1, hx2⟩ := dp_three hp (by rw [l_ask] at hlen; omega)
    have eask : isPlain (.tuple [.str "ask", d0, d1, d2]) k = (inS d0 asks && (isTerm d1 && (decide (k = "teller") && isVar d2))) := by
      rcases hk with rfl | rfl
      · rw [plainE3 roles_ask, part_sign, part_term, part_variable, decide_eq_true rfl, Bool.true_and]
        rfl
      · rw [plainE0 (by decide +kernel), decide_eq_false (by decide +kernel), Bool.false_and, Bool.and_false, Bool.and_false]
    rw [eask] at q
    refine ⟨_, rfl, p, _, _, _, rfl, rfl, SqT.of e3, atI_nat (j := 0) rfl, x0, .ty "str", _, _, _, rfl, .ty _, dp_ty (dp_mono s3 _ _ hx0), kit_isT d0 (by simp) (dp_nd hx0), _, rfl, ?_⟩
    cases hz : isT d0 "str" with
    | false =>
      have e : inS d0 asks = false := by cases d0 <;> first | rfl | (simp [isT, tyN] at hz)
      rw [e, Bool.false_and] at q
      exact iteT (iteT (q _ s3))
    | true =>
      refine iteF ⟨_, rfl, p, _, _, _, rfl, rfl, SqT.of e3, atI_nat (j := 0) rfl, (by show 3 ≤ sizeLine; decide), fun l nl => ?_⟩
      have s4 := s3.trans (same_new nl (.lst [.str "+", .str "-", .str "="]))
      have e4' := same_new nl (.lst [.str "+", .str "-", .str "="]) _ _ e3
      refine ⟨d0, asks, l, rfl, dp_mono s4 _ _ hx0, lm _ (by simp), upd_same, by decide +kernel, _, rfl, ?_⟩
      generalize upd H3 l (.lst [.str "+", .str "-", .str "="]) = H4 at s4 e4' ⊢
      cases c0 : inS d0 asks with
      | false =>
        rw [c0, Bool.false_and] at q
        exact iteT (iteT (q _ s4))
      | true =>
        rw [c0, Bool.true_and] at q
        refine iteF ⟨_, rfl, p, _, _, _, rfl, rfl, SqT.of e4', atI_nat (j := 1) rfl, x1, d1, rfl, dp_mono s4 _ _ hx1, lm _ (by simp), fun H5 s5 => ⟨_, rfl, ?_⟩⟩
        have s45 := s4.trans s5
        cases c1 : isTerm d1 with
        | false =>
          rw [c1, Bool.false_and] at q
          exact iteT (q _ s45)
        | true =>
          rw [c1, Bool.true_and] at q
          refine iteF ⟨_, rfl, rfl, _, rfl, ?_⟩
          rcases hk with rfl | rfl
          · rw [decide_eq_true rfl, Bool.true_and] at q
            exact strT ⟨_, rfl, p, _, _, _, rfl, rfl, SqT.of (s5 _ _ e4'), atI_nat (j := 2) rfl, x2, d2, rfl, dp_mono s45 _ _ hx2, lm _ (by simp), fun H6 s6 => q _ (s45.trans s6)⟩
          · rw [decide_eq_false (by decide +kernel), Bool.false_and] at q
            exact strF (by decide +kernel) (q _ s45)
end
abbrev sOne : Stmt := top 57
abbrev sCnt : Stmt := top 58
abbrev sIsProgL : Stmt := top 59
def oV : Option Nat → V
  | some n => .int (n : Nat)
  | none => .non
def oneN (k : Str) : Nat → PyData → Option Nat
  | 0, _ => none
  | n + 1, d => stN k n d
theorem body_oneN (k : Str) (n : Nat) (ss : List PyData) : bodyN k n (.tuple ss) = sumO (ss.map (oneN k n)) := by
  cases n with
  | zero =>
    cases ss with
    | nil => rfl
    | cons s t =>
      show none = _
      simp only [List.map_cons, sumO, oneN, none_addO]
  | succ n => exact bodyN_tup k n ss
theorem flat_oV : ∀ os : List (Option Nat), (os.map oV).all flatV = true
  | [] => rfl
  | o :: r => by
    rw [List.map_cons, List.all_cons, flat_oV r, Bool.and_true]
    cases o <;> rfl
theorem inV_oV : ∀ os : List (Option Nat), inV .non (os.map oV) = os.any (·.isNone)
  | [] => rfl
  | o :: r => by
    have ih := inV_oV r
    unfold inV at ih ⊢
    rw [List.map_cons, List.any_cons, List.any_cons, ih]
    cases o <;> rfl
theorem sumO_any : ∀ {os : List (Option Nat)}, os.any (·.isNone) = true → sumO os = none
  | o :: r, h => by
    rw [List.any_cons, Bool.or_eq_true] at h
    simp only [sumO]
    rcases h with h | h
    · cases o with
      | none => exact none_addO _
      | some _ => cases h
    · rw [sumO_any h, addO_none]
theorem sumO_some : ∀ {os : List (Option Nat)}, os.any (·.isNone) = false → ∃ ns : List Nat, os.map oV = (ns.map (fun n : Nat => (n : Int))).map V.int ∧ sumO os = some ns.sum
  | [], _ => ⟨[], rfl, rfl⟩
  | o :: r, h => by
    rw [List.any_cons, Bool.or_eq_false_iff] at h
    obtain ⟨ns, e1, e2⟩ := sumO_some h.2
    cases o with
    | none => cases h.1
    | some n =>
      refine ⟨n :: ns, ?_, ?_⟩
      · rw [List.map_cons, e1]; rfl
      · simp only [sumO, e2, addO, List.sum_cons]
theorem sum_cast (ns : List Nat) : (ns.map (fun n : Nat => (n : Int))).sum = ((ns.sum : Nat) : Int) := by
  induction ns with
  | nil => rfl
  | cons n r ih => rw [List.map_cons, List.sum_cons, ih, List.sum_cons]; omega
mutual
def wd (m : Nat) : PyData → Bool
  | .tuple xs => decide (xs.length ≤ m) && wdAll m xs
  | .list xs => decide (xs.length ≤ m) && wdAll m xs
  | .none | .bool _ | .int _ | .str _ | .dict _ => true
def wdAll (m : Nat) : List PyData → Bool
  | [] => true
  | x :: xs => wd m x && wdAll m xs
end
mutual
theorem wd_mono {m m' : Nat} (h : m ≤ m') : ∀ d : PyData, wd m d = true → wd m' d = true
  | .none, _ => by simp only [wd]
  | .bool _, _ => by simp only [wd]
  | .int _, _ => by simp only [wd]
  | .str _, _ => by simp only [wd]
  | .dict _, _ => by simp only [wd]
  | .tuple xs, e => by
    simp only [wd, Bool.and_eq_true, decide_eq_true_eq] at e ⊢
    exact ⟨by omega, wdAll_mono h xs e.2⟩
  | .list xs, e => by
    simp only [wd, Bool.and_eq_true, decide_eq_true_eq] at e ⊢
    exact ⟨by omega, wdAll_mono h xs e.2⟩
theorem wdAll_mono {m m' : Nat} (h : m ≤ m') : ∀ ds : List PyData, wdAll m ds = true → wdAll m' ds = true
  | [], _ => by simp only [wdAll]
  | x :: xs, e => by
    simp only [wdAll, Bool.and_eq_true] at e ⊢
    exact ⟨wd_mono h x e.1, wdAll_mono h xs e.2⟩
end
theorem wdAll_iff {m : Nat} : ∀ {ds : List PyData}, wdAll m ds = true ↔ ∀ d ∈ ds, wd m d = true
  | [] => by simp [wdAll]
  | x :: xs => by
    simp only [wdAll, Bool.and_eq_true, wdAll_iff (ds := xs)]
    constructor
    · intro h d md
      rcases List.mem_cons.mp md with e | md
      · rw [e]; exact h.1
      · exact h.2 d md
    · intro h
      exact ⟨h x (by simp), fun d md => h d (List.mem_cons_of_mem _ md)⟩
theorem wd_tup {m : Nat} {ds : List PyData} : wd m (.tuple ds) = true ↔ ds.length ≤ m ∧ ∀ d ∈ ds, wd m d = true := by
  simp only [wd, Bool.and_eq_true, decide_eq_true_eq, wdAll_iff]
theorem wd_of_noDeep {m : Nat} {d : PyData} (h : isT d "tuple" = false) (h2 : noL d = true) : wd m d = true := by
  cases d with
  | tuple xs => cases h
  | list xs => simp [noL] at h2
  | _ => simp only [wd]
theorem part_wd {m : Nat} {p : PyData} {r : Str} (h : isPart p r = true) : wd m p = true := by
  cases p with
  | list xs => unfold isPart at h; repeat' split at h
               all_goals simp [inS, isTerm, intIn] at h
  | tuple xs => unfold isPart at h; repeat' split at h
                all_goals simp [inS, isTerm, intIn] at h
  | _ => simp only [wd]
theorem parts_wd {m : Nat} : ∀ {ps : List PyData} {rs : List Str}, ps.length = rs.length → allParts ps rs = true → wdAll m ps = true
  | [], _, _, _ => by simp only [wdAll]
  | p :: ps, [], l, _ => by simp at l
  | p :: ps, r :: rs, l, h => by
    have h' : isPart p r = true ∧ allParts ps rs = true := by
      simpa [allParts] using h
    simp only [wdAll, Bool.and_eq_true]
    exact ⟨part_wd h'.1, parts_wd (by simpa using l) h'.2⟩
theorem plain_wd {d : PyData} {k : Str} (h : isPlain d k = true) : wd 30 d = true := by
  obtain ⟨z, ps, rs, rfl, hz, hl, hp⟩ := plain_inv h
  have h3 := roles_short hz
  simp only [wd, wdAll, Bool.true_and, Bool.and_eq_true, decide_eq_true_eq, List.length_cons]
  exact ⟨by omega, parts_wd hl hp⟩
theorem cond_wd {d : PyData} (h : isCond d = true) : wd 30 d = true := by
  match d, h with
  | .tuple [x, y, z], h =>
    have h' : (inS x vars && inS y signs && isTerm z) = true := h
    rw [Bool.and_eq_true, Bool.and_eq_true] at h'
    have a1 : wd 30 x = true := part_wd (r := "variable") (by rw [part_variable]; exact h'.1.1)
    have a2 : wd 30 y = true := by
      cases y with
      | list _ => simp [inS] at h'
      | tuple _ => simp [inS] at h'
      | _ => simp only [wd]
    have a3 : wd 30 z = true := part_wd (r := "term") (by rw [part_term]; exact h'.2)
    simp only [wd, wdAll, a1, a2, a3]
    rfl
theorem addO_le {x y : Option Nat} {c : Nat} (h : addO x y = some c) : ∃ a b, x = some a ∧ y = some b ∧ a ≤ c ∧ b ≤ c := by
  cases x with
  | none => rw [none_addO] at h; cases h
  | some a =>
    cases y with
    | none => cases h
    | some b =>
      have e : a + b = c := by injection h
      exact ⟨a, b, rfl, rfl, by omega, by omega⟩
theorem sumO_mem {xs : List (Option Nat)} : ∀ {c : Nat}, sumO xs = some c → ∀ x ∈ xs, ∃ a, x = some a ∧ a ≤ c := by
  induction xs with
  | nil => intro c _ x m; cases m
  | cons y r ih =>
    intro c h x m
    obtain ⟨a, b, e1, e2, l1, l2⟩ := addO_le (show addO y (sumO r) = some c from h)
    rcases List.mem_cons.mp m with rfl | m
    · exact ⟨a, e1, l1⟩
    · obtain ⟨a', e, l⟩ := ih e2 x m
      exact ⟨a', e, by omega⟩
theorem body_wd {k : Str} : ∀ {n c : Nat} {d : PyData}, c ≤ 24 → bodyN k n d = some c → wd 30 d = true
  | 0, c, d, hc, h => by
    match d, h with
    | .tuple [], _ => rfl
  | n + 1, c, d, hc, h => by
    cases ht : isT d "tuple" with
    | false => rw [bodyN_no k _ ht] at h; cases h
    | true =>
      obtain ⟨ss, rfl⟩ := isT_tup ht
      rw [bodyN_tup] at h
      have hl := sumO_ge h
      rw [wd_tup]
      refine ⟨by omega, fun s ms => ?_⟩
      obtain ⟨a, ea, la⟩ := sumO_mem h (stN k n s) (List.mem_map_of_mem ms)
      unfold stN at ea
      split at ea
      · rename_i ho
        obtain ⟨a1, b1, _, e2, _, l2⟩ := addO_le ea
        obtain ⟨z, ps, rfl⟩ := out_word ho
        have hb : ∀ b ∈ bodsOf (.tuple (.str z :: ps)), wd 30 b = true := fun b mb => by
          obtain ⟨x, ex, lx⟩ := sumO_mem e2 _ (List.mem_map_of_mem mb)
          exact body_wd (n := n) (c := x) (by omega) ex
        by_cases h1 : z = "if"
        · subst h1
          rw [out_if] at ho
          rw [bods_if] at hb
          match ps, ho, hb with
          | [c0, b1, b2], ho, hb =>
            have w1 := cond_wd (d := c0) ho
            have w2 := hb b1 (by simp)
            have w3 := hb b2 (by simp)
            simp only [wd, wdAll, w1, w2, w3]
            rfl
        by_cases h2 : z = "while"
        · subst h2
          rw [out_while] at ho
          rw [bods_while] at hb
          match ps, ho, hb with
          | [c0, b1], ho, hb =>
            have w1 := cond_wd (d := c0) ho
            have w2 := hb b1 (by simp)
            simp only [wd, wdAll, w1, w2]
            rfl
        · rw [out_else h1 h2] at ho
          exact plain_wd ho
      · cases ea
theorem prog_wd {d : PyData} (h : isProg d = true) : wd 30 d = true := by
  match d, h with
  | .tuple [.str k, b], h =>
    have h' : (inS (.str k) kinds && okN 0 (bodyN k 4 b)) = true := h
    rw [Bool.and_eq_true] at h'
    cases e : bodyN k 4 b with
    | none => rw [e] at h'; cases h'.2
    | some c =>
      rw [e] at h'
      have hc : 0 + c ≤ 24 := of_decide_eq_true h'.2
      have w := body_wd (by omega) e
      simp only [wd, wdAll, w]
      rfl
def spOne (K : PySem.W.Frag) (n : Nat) : Sp := fun vs H Q _ => ∃ (v : V) (d : PyData) (k : Str) (dep : Int), vs = [.str k, v, .int dep] ∧ dep = 5 - (n : Int) ∧ n ≤ 4 ∧ Dp K H v d ∧ Lay d ∧ wd 31 d = true ∧ (k = "teller" ∨ k = "collector") ∧ ∀ H', Same H H' → Q (oV (oneN k n d)) H'
def spCnt (K : PySem.W.Frag) (n : Nat) : Sp := fun vs H Q _ => ∃ (v : V) (d : PyData) (k : Str) (dep : Int), vs = [.str k, v, .int dep] ∧ dep = 5 - (n : Int) ∧ n ≤ 4 ∧ Dp K H v d ∧ Lay d ∧ wd 31 d = true ∧ (k = "teller" ∨ k = "collector") ∧ ∀ H', Same H H' → Q (oV (bodyN k n d)) H'
section
variable {P : Program} {w : World} {K : PySem.W.Frag} {mg : Str → Option Value} {base : Heap}
theorem scCnt : FnScope ["_law_kind_here", "_law_body_here", "_law_depth", "_law_counts", "_law_statement_here"] ["_law_kind_here", "_law_body_here", "_law_depth"] (defScope sCnt) := ⟨rfl, rfl, rfl, by decide +kernel, rfl, by decide +kernel, by decide +kernel⟩
theorem ok_cnt {f : Addr} {fd : FuncData} {lv n : Nat} (F : Fun K "_law_count" "_law_count" sCnt f fd) (T : Gs K mg) (ms : mg "sum" = none) (CO : Cal P w K mg base lv "_law_count_one" ["_law_kind_here", "_law_thing", "_law_depth"] (spOne K n)) :
    FnOk P w K mg base CX0 (lv + 1) f fd ["_law_kind_here", "_law_body_here", "_law_depth"] (spCnt K n) := by
  refine F.ok scCnt (fun vs H Q E h => ?_) (fun cdv A outer s H vs Q E hr h => ?_)
  · obtain ⟨v, d, k, dep, rfl, _⟩ := h
    rfl
  obtain ⟨v, d, k, dep, rfl, hdep, hn, hd, ld, wdd, hk, q⟩ := h
  refine ⟨_, pss_cons (ps_if (pt_not (pt_val (pe_callB call_isi (by rfl) T.isi (by decide +kernel) (pa_cons (pv 1) (pa_cons (pe_bltn (v := .ty "tuple") (by rfl) T.tup (by decide +kernel) rfl) pa_nil))))) (pss_one (ps_ret pe_non)) pss_nil)
    (pss_cons (ps_setLc (i := 3) (own := [("_law_statement_here", 4)]) (g := gName 4) (tt := tYes) rfl scCnt.nd rfl rfl (sw_true rfl rfl rfl (by decide +kernel)) (pi_tup (pv 1))
        (blkOk_by (N := ["_law_kind_here", "_law_body_here", "_law_depth", "_law_counts", "_law_statement_here"]) (sc := defScope sCnt) (by decide +kernel))
        (fun _ _ _ _ _ => pg_name (i := 4) scCnt.nd rfl (.inl rfl)) (fun _ _ _ _ _ => pts_nil)
        (fun _ _ _ _ _ => pe_call CO.G hr rfl CO.m CO.kp CO.b .nil pass0 (pa_cons (pv 0) (pa_cons (pv 4) (pa_cons (pv 2) pa_nil)))))
    (pss_cons (ps_if (pt_cmpR op_in_seq pe_non (pv 3) (by rfl)) (pss_one (ps_ret pe_non)) pss_nil)
    (pss_one (ps_ret (pe_callB (cr_sum rfl) (by rfl) ms (by decide +kernel) (pa_cons (pv 3) pa_nil)))))), ?_⟩
  refine ⟨_, rfl, v, .ty "tuple", _, _, _, rfl, .ty _, dp_ty hd, kit_isT d (by simp) (dp_nd hd), _, rfl, ?_⟩
  cases ht : isT d "tuple" with
  | false =>
    rw [bodyN_no k n ht] at q
    exact iteT (q H (Same.refl H))
  | true =>
    obtain ⟨ds, rfl⟩ := isT_tup ht
    obtain ⟨a, xs, rfl, hs, ha⟩ := dp_tup_inv hd
    have hl := dpAll_len ha
    have lm := lay_mem (lay_tup ld)
    refine iteF ⟨_, rfl, a, rfl, ⟨_, hs⟩, fun D nD => ?_⟩
    have wds := wd_tup.mp wdd
    refine lc_tup (K := K) (a := a) (xs := xs) (fun j H' => Same H H' ∧ H' D = some (.lst (((ds.take j).map (oneN k n)).map oV))) ⟨same_upd (Same.refl _) nD _, upd_same⟩ (fun j H' _ P => Same.tup P.1 hs) ?_ ?_
    · rintro j x H1 hx ⟨s1, eD⟩
      obtain ⟨dj, hdj, hxd⟩ := dpAll_get ha hx
      refine ⟨rfl, ?_⟩
      refine ⟨_, rfl, _, rfl, _, rfl, x, dj, k, dep, rfl, hdep, hn, dp_mono s1 _ _ hxd, lm _ (List.mem_of_getElem? hdj), wds.2 _ (List.mem_of_getElem? hdj), hk, fun H2 s2 => ⟨_, s2 _ _ eD, ?_, same_upd (s1.trans s2) nD _, ?_⟩⟩
      · have hj : j < xs.length := (List.getElem?_eq_some_iff.mp hx).1
        rw [List.length_map, List.length_map, List.length_take]
        have := wds.1
        exact Nat.lt_of_le_of_lt (by omega : _ ≤ 1000) (by decide)
      · rw [upd_same, take_snoc hdj, List.map_append, List.map_append]
        rfl
    · rintro H1 ⟨s1, eD⟩
      rw [hl, List.take_length] at eD
      refine ⟨_, rfl, D, _, rfl, .inl (SqL.of eD), rfl, flat_oV _, _, rfl, ?_⟩
      rw [body_oneN] at q
      cases hany : (ds.map (oneN k n)).any (·.isNone) with
      | true =>
        rw [sumO_any hany] at q
        refine ite2 (fun _ => q _ s1) (fun c => absurd ?_ c)
        show inV .non ((ds.map (oneN k n)).map oV) = true
        rw [inV_oV, hany]
      | false =>
        obtain ⟨ns, e1, e2⟩ := sumO_some hany
        rw [e2] at q
        refine ite2 (fun c => absurd c ?_) (fun _ => ?_)
        · show ¬ inV .non ((ds.map (oneN k n)).map oV) = true
          rw [inV_oV, hany]
          decide
        · rw [e1] at eD
          refine ⟨_, rfl, D, ns.map (fun n : Nat => (n : Int)), rfl, SqL.of eD, ?_⟩
          rw [sum_cast]
          exact q _ s1
theorem scOne : FnScope ["_law_kind_here", "_law_thing", "_law_depth", "_law_counts", "_law_body_here"] ["_law_kind_here", "_law_thing", "_law_depth"] (defScope sOne) := ⟨rfl, rfl, rfl, by decide +kernel, rfl, by decide +kernel, by decide +kernel⟩
theorem oneN_no {k : Str} {n : Nat} {d : PyData} (h : isOut d k = false) : oneN k n d = none := by
  cases n with
  | zero => rfl
  | succ n => show stN k n d = none; unfold stN; rw [if_neg (by rw [h]; decide)]
theorem ok_one {f : Addr} {fd : FuncData} {lv n : Nat} (hlv : 3 ≤ lv) (F : Fun K "_law_count_one" "_law_count_one" sOne f fd) (T : Gs K mg) (ms : mg "sum" = none) (CM : Cal P w K mg base 3 "_law_is_simple" ["_law_kind_here", "_law_thing"] (spSimpleL K)) (CC : Cal P w K mg base 3 "_law_is_condition" ["_law_thing"] (spL1 isCond K))
    (CN : Cal P w K mg base lv "_law_count" ["_law_kind_here", "_law_body_here", "_law_depth"] (fun vs H Q E => n ≠ 0 ∧ spCnt K (n - 1) vs H Q E)) :
    FnOk P w K mg base CX0 (lv + 1) f fd ["_law_kind_here", "_law_thing", "_law_depth"] (spOne K n) := by
  refine F.ok scOne (fun vs H Q E h => ?_) (fun cdv A outer s H vs Q E hr h => ?_)
  · obtain ⟨v, d, k, dep, rfl, _⟩ := h
    rfl
  obtain ⟨v, d, k, dep, rfl, hdep, hn, hd, ld, wdd, hk, q⟩ := h
  have hr3 : Room 3 _ := hr.mono hlv
  refine ⟨_, pss_cons (ps_if (PW.pt (pw_or (pt_not (pt_val (pe_callB call_isi (by rfl) T.isi (by decide +kernel) (pa_cons (pv 1) (pa_cons (pe_bltn (v := .ty "tuple") (by rfl) T.tup (by decide +kernel) rfl) pa_nil)))))
      (pw_or (pt_cmpR op_eq (pe_callB call_len_seq (by rfl) T.len PySem.boot_len (pa_cons (pv 1) pa_nil)) pe_int (nomark _))
      (pw_or (pt_not (pt_val (pe_callB call_isi (by rfl) T.isi (by decide +kernel) (pa_cons (pe_ix ix_tup (pv 1) pe_int (fun _ _ => rfl)) (pa_cons (pe_bltn (v := .ty "str") (by rfl) T.str (by decide +kernel) rfl) pa_nil)))))
      (pw_or1 (pt_cmpR op_gt (pv 2) pe_int (nomark _))))))) (pss_one (ps_ret pe_non)) pss_nil)
    (pss_cons (ps_if (pt_cmpR (op_notInSL (hu65 hr)) (pe_ix ix_tup (pv 1) pe_int (fun _ _ => rfl)) (pe_lst (pa_cons pe_str (pa_cons pe_str pa_nil))) (by rfl))
      (pss_one (ps_ret (pe_ix ix_list (pe_lst (pa_cons pe_non (pa_cons pe_int pa_nil))) (pe_callTy call_int1 (by rfl) T.int (by decide +kernel) (pa_cons (pe_call CM.G hr3 rfl CM.m CM.kp CM.b .nil pass0 (pa_cons (pv 0) (pa_cons (pv 1) pa_nil))) pa_nil)) (fun _ _ => rfl)))) pss_nil)
    (pss_cons (ps_if (PW.pt (pw_or (pt_cmpR op_ne (pe_callB call_len_seq (by rfl) T.len PySem.boot_len (pa_cons (pv 1) pa_nil)) (pe_op op_add pe_int (pe_callTy call_int1 (by rfl) T.int (by decide +kernel) (pa_cons (pe_cmpR op_eq (pe_ix ix_tup (pv 1) pe_int (fun _ _ => rfl)) pe_str (nomark _)) pa_nil))) (nomark _))
      (pw_or1 (pt_not (pt_val (pe_call CC.G hr3 rfl CC.m CC.kp CC.b .nil pass0 (pa_cons (pe_ix ix_tup (pv 1) pe_int (fun _ _ => rfl)) pa_nil))))))) (pss_one (ps_ret pe_non)) pss_nil)
    (pss_cons (ps_setLc (i := 3) (own := [("_law_body_here", 4)]) (g := gName 4) (tt := tYes) rfl scOne.nd rfl rfl (sw_true rfl rfl rfl (by decide +kernel)) (pi_tup (pe_slice sl_tup (pv 1) (po_some pe_int) po_none))
        (blkOk_by (N := ["_law_kind_here", "_law_thing", "_law_depth", "_law_counts", "_law_body_here"]) (sc := defScope sOne) (by decide +kernel))
        (fun _ _ _ _ _ => pg_name (i := 4) scOne.nd rfl (.inl rfl)) (fun _ _ _ _ _ => pts_nil)
        (fun _ _ _ _ _ => pe_call CN.G hr rfl CN.m CN.kp CN.b .nil pass0 (pa_cons (pv 0) (pa_cons (pv 4) (pa_cons (pe_op op_add (pv 2) pe_int) pa_nil)))))
    (pss_cons (ps_if (pt_cmpR op_in_seq pe_non (pv 3) (by rfl)) (pss_one (ps_ret pe_non)) pss_nil)
    (pss_one (ps_ret (pe_op op_add pe_int (pe_callB (cr_sum rfl) (by rfl) ms (by decide +kernel) (pa_cons (pv 3) pa_nil))))))))), ?_⟩
  refine ⟨_, rfl, v, .ty "tuple", _, _, _, rfl, .ty _, dp_ty hd, kit_isT d (by simp) (dp_nd hd), _, rfl, ?_⟩
  have noW : wordOf d = none → Q .non H := fun hw => by
    have ho : isOut d k = false := by rw [out_none hw]; exact plain_none (by rw [hw]; rfl)
    rw [oneN_no ho] at q
    exact q H (Same.refl H)
  cases ht : isT d "tuple" with
  | false =>
    refine iteT (iteT (noW ?_))
    cases d <;> first | rfl | (simp [isT, tyN] at ht)
  | true =>
    obtain ⟨ds, rfl⟩ := isT_tup ht
    obtain ⟨a, xs, rfl, hs, ha⟩ := dp_tup_inv hd
    have hl := dpAll_len ha
    have lm := lay_mem (lay_tup ld)
    have wds := wd_tup.mp wdd
    refine iteF ⟨_, rfl, a, xs, rfl, .inr hs, rfl, _, rfl, ?_⟩
    cases ha with
    | nil => exact ite2 (fun _ => iteT (noW rfl)) (fun c => absurd (decide_eq_true rfl) c)
    | cons hx0 hxr =>
      rename_i x0 xr d0 dr
      refine ite2 (fun c => absurd (of_decide_eq_true c) ?_) (fun _ => ?_)
      · intro e
        have e' : (((x0 :: xr).length : Nat) : Int) = 0 := by injection e
        rw [List.length_cons] at e'
        omega
      refine ⟨_, rfl, a, _, _, _, rfl, rfl, hs, atI_nat (j := 0) rfl, x0, .ty "str", _, _, _, rfl, .ty _, dp_ty hx0, kit_isT d0 (by simp) (dp_nd hx0), _, rfl, ?_⟩
      cases hz : isT d0 "str" with
      | false =>
        refine iteT (iteT (noW ?_))
        cases d0 <;> first | rfl | (simp [isT, tyN] at hz)
      | true =>
        obtain ⟨z, rfl⟩ := isT_str hz
        cases hx0
        refine iteF ⟨_, rfl, _, _, rfl, rfl, _, rfl, ?_⟩
        by_cases c4 : (4 : Int) < dep
        · rw [decide_eq_true c4]
          have n0 : n = 0 := by omega
          subst n0
          exact iteT (q H (Same.refl H))
        rw [decide_eq_false c4]
        obtain ⟨n', rfl⟩ : ∃ n', n = n' + 1 := ⟨n - 1, by omega⟩
        have q' : ∀ H', Same H H' → Q (oV (stN k n' (.tuple (.str z :: dr)))) H' := q
        refine iteF ⟨_, rfl, a, _, _, _, rfl, rfl, hs, atI_nat (j := 0) rfl, (by show 2 ≤ sizeLine; decide), fun l nl => ?_⟩
        have s1 : Same H (upd H l (.lst [.str "if", .str "while"])) := same_new nl _
        refine ⟨.str z, ["if", "while"], l, rfl, .str z, lm _ (by simp), upd_same, by decide +kernel, _, rfl, ?_⟩
        generalize upd H l (.lst [.str "if", .str "while"]) = H1 at s1 ⊢
        by_cases hiw : z = "if" ∨ z = "while"
        rotate_left
        · have e4 : inS (.str z) ["if", "while"] = false := by
            show (["if", "while"] : List Str).any (· == z) = false
            rw [List.any_eq_false]
            intro y my hy
            have hy' : y = z := eq_of_beq hy
            subst hy'
            simp only [List.mem_cons, List.not_mem_nil, or_false] at my
            exact hiw my
          rw [e4]
          refine iteT ⟨(by show 2 ≤ sizeLine; decide), fun l2 nl2 => ?_⟩
          have s2 := s1.trans (same_new nl2 (.lst [.non, .int 1]))
          refine ⟨_, rfl, _, rfl, _, k, z, dr, rfl, dp_mono s2 _ _ hd, ld, hk, fun H3 s3 => .inr ⟨_, rfl, ?_⟩⟩
          have e : stN k n' (.tuple (.str z :: dr)) = if isPlain (.tuple (.str z :: dr)) k = true then some 1 else none := by
            unfold stN
            rw [out_else (fun e => hiw (.inl e)) (fun e => hiw (.inr e)), bods_else (fun e => hiw (.inl e)) (fun e => hiw (.inr e))]
            rfl
          rw [e] at q'
          cases hP : isPlain (.tuple (.str z :: dr)) k with
          | true =>
            rw [hP] at q'
            exact ⟨l2, _, _, _, rfl, rfl, SqL.of (s3 _ _ upd_same), atI_nat (j := 1) rfl, q' _ (s2.trans s3)⟩
          | false =>
            rw [hP] at q'
            exact ⟨l2, _, _, _, rfl, rfl, SqL.of (s3 _ _ upd_same), atI_nat (j := 0) rfl, q' _ (s2.trans s3)⟩
        have e4 : inS (.str z) ["if", "while"] = true := by rcases hiw with rfl | rfl <;> decide +kernel
        rw [e4]
        have hs1 : SqT K H1 a (.str z :: xr) := Same.tup s1 hs
        refine iteF ⟨_, rfl, a, _, rfl, .inr hs1, _, rfl, a, _, _, _, rfl, rfl, hs1, atI_nat (j := 0) rfl, rfl, .inr ⟨_, rfl, _, _, rfl, rfl, rfl, _, rfl, ?_⟩⟩
        have hxl := dpAll_len hxr
        have two : ∃ m : Nat, (3 : Int) + (if decide (V.str z = V.str "if") = true then 1 else 0) = ((m + 1 : Nat) : Int) ∧ 2 ≤ m ∧ m ≤ 3 ∧ (dr.length ≠ m → isOut (.tuple (.str z :: dr)) k = false) ∧ (∀ c0 bs, dr = c0 :: bs → dr.length = m → isOut (.tuple (.str z :: dr)) k = isCond c0) ∧ bodsOf (.tuple (.str z :: dr)) = dr.drop 1 := by
          rcases hiw with rfl | rfl
          · refine ⟨3, by rw [if_pos (decide_eq_true rfl)]; rfl, by decide, by decide, fun h => ?_, fun c0 bs e h => ?_, bods_if⟩
            · rw [out_if]
              match dr, h with
              | [], _ => rfl
              | [_], _ => rfl
              | [_, _], _ => rfl
              | [_, _, _], h => exact absurd rfl h
              | _ :: _ :: _ :: _ :: _, _ => rfl
            · subst e
              rw [out_if]
              match bs, h with
              | [_, _], _ => rfl
          · refine ⟨2, by rw [if_neg (by decide +kernel)]; rfl, by decide, by decide, fun h => ?_, fun c0 bs e h => ?_, bods_while⟩
            · rw [out_while]
              match dr, h with
              | [], _ => rfl
              | [_], _ => rfl
              | [_, _], h => exact absurd rfl h
              | _ :: _ :: _ :: _, _ => rfl
            · subst e
              rw [out_while]
              match bs, h with
              | [_], _ => rfl
        obtain ⟨m, em, m2, m3, hno, hyes, hbod⟩ := two
        have noO : isOut (.tuple (.str z :: dr)) k = false → ∀ H', Same H H' → Q .non H' := fun ho H' s' => by
          have e : stN k n' (.tuple (.str z :: dr)) = none := oneN_no (n := n' + 1) ho
          rw [e] at q'
          exact q' H' s'
        by_cases hm : dr.length = m
        rotate_left
        · refine ite2 (fun _ => iteT (noO (hno hm) H1 s1)) (fun c => absurd ?_ c)
          rw [Bool.not_eq_true', decide_eq_false_iff_not]
          intro e
          have e' : (((V.str z :: xr).length : Nat) : Int) = (3 : Int) + (if decide (V.str z = V.str "if") = true then 1 else 0) := by injection e
          rw [em, List.length_cons] at e'
          omega
        refine iteNS (congrArg V.int (by rw [em, List.length_cons, hxl, hm])) ?_
        cases hxr with
        | nil => simp at hm; omega
        | cons hc hbs =>
          rename_i x1 xb c0 bs _hx
          refine ⟨_, rfl, a, _, _, _, rfl, rfl, hs1, atI_nat (j := 1) rfl, x1, c0, rfl, dp_mono s1 _ _ hc, lm _ (by simp), fun H2 s2 => ⟨_, rfl, ?_⟩⟩
          have ho := hyes c0 bs rfl hm
          have s12 := s1.trans s2
          cases hcc : isCond c0 with
          | false => exact iteT (noO (ho.trans hcc) H2 s12)
          | true =>
            have hst : stN k n' (.tuple (.str z :: c0 :: bs)) = addO (some 1) (sumO (bs.map (bodyN k n'))) := by
              unfold stN
              rw [if_pos (ho.trans hcc), hbod]
              rfl
            rw [hst] at q'
            refine iteF ⟨_, rfl, _, rfl, a, _, rfl, Same.tup s12 hs, not_whole2 (by rw [List.length_cons]; omega), fun p np => ?_⟩
            rw [cut2]
            have s3 : Same H2 (upd H2 p (.tup xb)) := same_new np _
            have e3 : (upd H2 p (.tup xb)) p = some (.tup xb) := upd_same
            show _
            refine ⟨p, rfl, ⟨_, SqT.of upd_same⟩, fun D nD => ?_⟩
            rw [show (V.str z :: x1 :: xb).drop 2 = xb from rfl] at nD ⊢
            generalize upd H2 p (.tup xb) = H3 at s3 e3 nD ⊢
            have s13 := s12.trans s3
            refine lc_tup (K := K) (a := p) (xs := xb) (fun j H' => Same H3 H' ∧ H' D = some (.lst (((bs.take j).map (bodyN k n')).map oV))) ⟨same_upd (Same.refl _) nD _, upd_same⟩ (fun j H' _ P => SqT.of (P.1 _ _ e3)) ?_ ?_
            · rintro j x H4 hx ⟨s4, eD⟩
              obtain ⟨dj, hdj, hxd⟩ := dpAll_get hbs hx
              have mj : dj ∈ PyData.str z :: c0 :: bs := List.mem_cons_of_mem _ (List.mem_cons_of_mem _ (List.mem_of_getElem? hdj))
              refine ⟨rfl, ?_⟩
              refine ⟨_, rfl, _, rfl, _, rfl, _, _, rfl, rfl, by omega, x, dj, k, _, rfl, by omega, by omega, dp_mono (s13.trans s4) _ _ hxd, lm _ mj, wds.2 _ mj, hk, fun H5 s5 => ⟨_, s5 _ _ eD, ?_, same_upd (s4.trans s5) nD _, ?_⟩⟩
              · rw [List.length_map, List.length_map, List.length_take]
                rw [List.length_cons] at hm
                exact Nat.lt_of_le_of_lt (by omega : _ ≤ 1000) (by decide)
              · rw [upd_same, take_snoc hdj, List.map_append, List.map_append]
                rfl
            · rintro H4 ⟨s4, eD⟩
              have s14 := s13.trans s4
              rw [dpAll_len hbs, List.take_length] at eD
              refine ⟨_, rfl, D, _, rfl, .inl (SqL.of eD), rfl, flat_oV _, _, rfl, ?_⟩
              cases hany : (bs.map (bodyN k n')).any (·.isNone) with
              | true =>
                rw [sumO_any hany] at q'
                refine ite2 (fun _ => q' _ s14) (fun c => absurd ?_ c)
                show inV .non ((bs.map (bodyN k n')).map oV) = true
                rw [inV_oV, hany]
              | false =>
                obtain ⟨ns, e1, e2⟩ := sumO_some hany
                rw [e2] at q'
                refine ite2 (fun c => absurd c ?_) (fun _ => ?_)
                · show ¬ inV .non ((bs.map (bodyN k n')).map oV) = true
                  rw [inV_oV, hany]
                  decide
                · rw [e1] at eD
                  refine ⟨_, rfl, D, ns.map (fun n : Nat => (n : Int)), rfl, SqL.of eD, _, _, rfl, rfl, ?_⟩
                  rw [sum_cast]
                  exact q' _ s14
theorem none_cnt {f : Addr} {fd : FuncData} (lv : Nat) : FnOk P w K mg base CX0 lv f fd ["_law_kind_here", "_law_body_here", "_law_depth"] (fun vs H Q E => 0 ≠ 0 ∧ spCnt K (0 - 1) vs H Q E) :=
  ⟨fun vs H Q E h => absurd rfl h.1, fun A outer s H args us vs Q E _ _ _ _ h => absurd rfl h.1⟩
theorem bothC {f g : Addr} {fd gd : FuncData} (FC : Fun K "_law_count" "_law_count" sCnt f fd) (bC : Binds K fd ["_law_kind_here", "_law_body_here", "_law_depth"] []) (mC : mg "_law_count" = some (.ref f))
    (FO : Fun K "_law_count_one" "_law_count_one" sOne g gd) (bO : Binds K gd ["_law_kind_here", "_law_thing", "_law_depth"] []) (mO : mg "_law_count_one" = some (.ref g)) (T : Gs K mg) (ms : mg "sum" = none)
    (CM : Cal P w K mg base 3 "_law_is_simple" ["_law_kind_here", "_law_thing"] (spSimpleL K)) (CC : Cal P w K mg base 3 "_law_is_condition" ["_law_thing"] (spL1 isCond K)) :
    ∀ n : Nat, FnOk P w K mg base CX0 (5 + 2 * n) f fd ["_law_kind_here", "_law_body_here", "_law_depth"] (spCnt K n)
  | 0 => ok_cnt (lv := 4) FC T ms ⟨g, gd, ok_one (lv := 3) (by decide) FO T ms CM CC ⟨f, fd, none_cnt 3, bC, FC.kp, mC⟩, bO, FO.kp, mO⟩
  | n + 1 => by
    have ih := bothC FC bC mC FO bO mO T ms CM CC n
    have c2 : FnOk P w K mg base CX0 (5 + 2 * n) f fd ["_law_kind_here", "_law_body_here", "_law_depth"] (fun vs H Q E => n + 1 ≠ 0 ∧ spCnt K (n + 1 - 1) vs H Q E) :=
      ⟨fun vs H Q E h => ih.len vs H Q E h.2, fun A outer s H args us vs Q E h1 h2 h3 h4 h => ih.run A outer s H args us vs Q E h1 h2 h3 h4 h.2⟩
    have on := ok_one (lv := 5 + 2 * n) (n := n + 1) (by omega) FO T ms CM CC ⟨f, fd, c2, bC, FC.kp, mC⟩
    exact ok_cnt (lv := 5 + 2 * n + 1) (n := n + 1) FC T ms ⟨g, gd, on, bO, FO.kp, mO⟩
def spProgC (K : PySem.W.Frag) : Sp := fun vs H Q _ => ∃ (v : V) (d : PyData), vs = [v] ∧ Dp K H v d ∧ Lay d ∧ wd 31 d = true ∧ ∀ H', Same H H' → Q (.bl (isProg d)) H'
theorem scIsProgL : FnScope ["_law_thing", "_law_count_here"] ["_law_thing"] (defScope sIsProgL) := ⟨rfl, rfl, rfl, by decide +kernel, rfl, by decide +kernel, by decide +kernel⟩
theorem ok_isProgL {f : Addr} {fd : FuncData} (F : Fun K "_law_is_program" "_law_is_program" sIsProgL f fd) (T : Gs K mg) (CC : Cal P w K mg base 13 "_law_count" ["_law_kind_here", "_law_body_here", "_law_depth"] (spCnt K 4)) :
    FnOk P w K mg base CX0 14 f fd ["_law_thing"] (spProgC K) := by
  refine F.ok scIsProgL (fun vs H Q E h => ?_) (fun cdv A outer s H vs Q E hr h => ?_)
  · obtain ⟨v, d, rfl, _⟩ := h
    rfl
  obtain ⟨v, d, rfl, hd, ld, wdd, q⟩ := h
  refine ⟨_, pss_cons (ps_if (PW.pt (pw_or (pt_not (pt_val (pe_callB call_isi (by rfl) T.isi (by decide +kernel) (pa_cons (pv 0) (pa_cons (pe_bltn (v := .ty "tuple") (by rfl) T.tup (by decide +kernel) rfl) pa_nil)))))
      (pw_or (pt_cmpR op_ne (pe_callB call_len_seq (by rfl) T.len PySem.boot_len (pa_cons (pv 0) pa_nil)) pe_int (nomark _))
      (pw_or1 (pt_not (pt_val (pe_callB call_isi (by rfl) T.isi (by decide +kernel) (pa_cons (pe_ix ix_tup (pv 0) pe_int (fun _ _ => rfl)) (pa_cons (pe_bltn (v := .ty "str") (by rfl) T.str (by decide +kernel) rfl) pa_nil))))))))) (pss_one (ps_ret pe_bl)) pss_nil)
    (pss_cons (ps_if (pt_cmpR (op_notInSL (hu65 hr)) (pe_ix ix_tup (pv 0) pe_int (fun _ _ => rfl)) (pe_lst (pa_cons pe_str (pa_cons pe_str pa_nil))) (by rfl)) (pss_one (ps_ret pe_bl)) pss_nil)
    (pss_cons (ps_set (i := 1) scIsProgL.nd rfl (.inl rfl) (pe_call CC.G hr rfl CC.m CC.kp CC.b .nil pass0 (pa_cons (pe_ix ix_tup (pv 0) pe_int (fun _ _ => rfl)) (pa_cons (pe_ix ix_tup (pv 0) pe_int (fun _ _ => rfl)) (pa_cons pe_int pa_nil)))))
    (pss_one (ps_ret (pe_and (pe_cmpR op_notN (pv 1) pe_non (nomark _)) (pe_one (pe_cmpR op_lt (pv 1) pe_int (nomark _)))))))), ?_⟩
  refine ⟨_, rfl, v, .ty "tuple", _, _, _, rfl, .ty _, dp_ty hd, kit_isT d (by simp) (dp_nd hd), _, rfl, ?_⟩
  cases ht : isT d "tuple" with
  | false =>
    refine iteT (iteT ?_)
    rw [prog_no (fun k b e => by rw [e] at ht; cases ht)] at q
    exact q H (Same.refl H)
  | true =>
    obtain ⟨ds, rfl⟩ := isT_tup ht
    obtain ⟨a0, xs, rfl, h0, ha⟩ := dp_tup_inv hd
    have hl := dpAll_len ha
    refine iteF ⟨_, rfl, a0, xs, rfl, .inr h0, rfl, _, rfl, ?_⟩
    by_cases h2 : ds.length = 2
    · refine iteNS (show V.int ((xs.length : Nat) : Int) = V.int 2 by rw [hl, h2]; rfl) ?_
      obtain ⟨x0, x1, d0, d1, rfl, rfl, hx0, hx1⟩ := dp_two ha h2
      have lm := lay_mem (lay_tup ld)
      have wds := wd_tup.mp wdd
      refine ⟨_, rfl, a0, _, _, _, rfl, rfl, h0, atI_nat (j := 0) rfl, x0, .ty "str", _, _, _, rfl, .ty _, dp_ty hx0, kit_isT d0 (by simp) (dp_nd hx0), _, rfl, ?_⟩
      cases hz : isT d0 "str" with
      | false =>
        refine iteT ?_
        rw [prog_no (fun k b e => by injection e with e; injection e with e1 e2; rw [e1] at hz; cases hz)] at q
        exact q H (Same.refl H)
      | true =>
        obtain ⟨k, rfl⟩ := isT_str hz
        cases hx0
        refine iteF ⟨_, rfl, a0, _, _, _, rfl, rfl, h0, atI_nat (j := 0) rfl, (by show 2 ≤ sizeLine; decide), fun l nl => ?_⟩
        have s1 : Same H (upd H l (.lst [.str "teller", .str "collector"])) := same_new nl _
        refine ⟨.str k, kinds, l, rfl, .str k, lm _ (by simp), upd_same, by decide +kernel, _, rfl, ?_⟩
        generalize upd H l (.lst [.str "teller", .str "collector"]) = H1 at s1 ⊢
        have eP : isProg (.tuple [.str k, d1]) = (inS (.str k) kinds && okN 0 (bodyN k 4 d1)) := rfl
        cases hk : inS (.str k) kinds with
        | false =>
          rw [eP, hk] at q
          exact iteT (q _ s1)
        | true =>
          rw [eP, hk, Bool.true_and] at q
          have hk' : k = "teller" ∨ k = "collector" := by
            have h' : kinds.any (· == k) = true := hk
            rw [List.any_eq_true] at h'
            obtain ⟨y, my, hy⟩ := h'
            have hy' : y = k := eq_of_beq hy
            subst hy'
            simp only [kinds, List.mem_cons, List.not_mem_nil, or_false] at my
            exact my
          refine iteF ⟨_, rfl, a0, _, _, _, rfl, rfl, Same.tup s1 h0, atI_nat (j := 0) rfl, _, rfl, a0, _, _, _, rfl, rfl, Same.tup s1 h0, atI_nat (j := 1) rfl, x1, d1, k, 1, rfl, by decide, by decide, dp_mono s1 _ _ hx1, lm _ (by simp), wds.2 _ (by simp), hk', fun H2 s2 => ?_⟩
          have s12 := s1.trans s2
          cases hb : bodyN k 4 d1 with
          | none =>
            rw [hb] at q
            exact ⟨_, rfl, rfl, _, rfl, ite2 (fun c => absurd c (by decide)) (fun _ => q _ s12)⟩
          | some c =>
            rw [hb] at q
            refine ⟨_, rfl, rfl, _, rfl, ite2 (fun _ => ⟨_, rfl, _, _, rfl, rfl, ?_⟩) (fun c2 => absurd (by rfl) c2)⟩
            have e : okN 0 (some c) = decide (((c : Nat) : Int) < 25) := by
              show decide (0 + c ≤ 24) = _
              exact decide_eq_decide.mpr (by omega)
            rw [e] at q
            exact q _ s12
    · refine ite2 (fun _ => iteT ?_) (fun c => absurd ?_ c)
      · rw [prog_no (fun k b e => h2 (by injection e with e; rw [e]; rfl))] at q
        exact q H (Same.refl H)
      · rw [Bool.not_eq_true', decide_eq_false_iff_not]
        intro z
        have z' : ((xs.length : Nat) : Int) = 2 := by injection z
        omega
end
abbrev sOdd : Stmt := top 60
abbrev sSpoilt : Stmt := top 61
theorem alloc_tup {K : PySem.W.Frag} {b p : Addr} {H : Hp} {xs : List V} {ds : List PyData} (hb : Bag H b) (np : H p = none) (ha : DpAll K (hide b H) xs ds) :
    Bag (upd H p (.tup xs)) b ∧ Fr b H (upd H p (.tup xs)) ∧ Da K b (upd H p (.tup xs)) (.ref p) (.tuple ds) :=
  ⟨hb.keep (same_new np _), Fr.of (same_new np _), da_tup (hb.ne np).symm upd_same (dpAll_mono (hide_mono (Fr.of (same_new np _))) _ _ ha)⟩
theorem alloc_lst {K : PySem.W.Frag} {b p : Addr} {H : Hp} {xs : List V} {ds : List PyData} (hb : Bag H b) (np : H p = none) (ha : DpAll K (hide b H) xs ds) :
    Bag (upd H p (.lst xs)) b ∧ Fr b H (upd H p (.lst xs)) ∧ Da K b (upd H p (.lst xs)) (.ref p) (.list ds) :=
  ⟨hb.keep (same_new np _), Fr.of (same_new np _), .lst (SqL.of (hide_get (hb.ne np).symm upd_same)) (dpAll_mono (hide_mono (Fr.of (same_new np _))) _ _ ha)⟩
def odd1 : List PyData := [.none, .bool true, .bool false, .int 0, .int 1, .int 2, .int 15, .int 16, .int (-1), .int longest, .int (longest + 1), .str "", .str "a", .str "b", .str "c", .str "==", .str "<=", .str "x", .str "3"]
def odd2 : List PyData := [.tuple [], .list [], .tuple [.str "a"], .tuple [.str "a", .str "==", .int 3], .list [.str "a", .str "==", .int 3], .tuple [.str "set", .str "a", .int 3], .tuple [.str "answer", .int 1], .tuple [.str "list", .str "b"]]
def odd3 : List PyData := [.tuple [.str "wait", .int 0], .tuple [.str "while", .tuple [.str "a", .str "<", .int 3], .tuple []], .tuple [.str "if", .tuple [.str "a", .str "<", .int 3], .tuple []], .str "teller", .str "collector", .str "set"]
theorem odd_ok : (odd1 ++ odd2 ++ odd3).all (fun d => d.canLay0 && wd 30 d) = true := by decide +kernel
theorem odd_mem {d : PyData} (h : d ∈ odd1 ++ odd2 ++ odd3) : Lay d ∧ wd 30 d = true := by
  have e := List.all_eq_true.mp odd_ok d h
  rw [Bool.and_eq_true] at e
  exact e
def vals1 : List V := [.non, .bl true, .bl false, .int 0, .int 1, .int 2, .int 15, .int 16, .int (-1), .int longest, .int (longest + 1), .str "", .str "a", .str "b", .str "c", .str "==", .str "<=", .str "x", .str "3"]
theorem dp_odd1 {K : PySem.W.Frag} {H : Hp} : DpAll K H vals1 odd1 :=
  .cons .non (.cons (.bl _) (.cons (.bl _) (.cons (.int _) (.cons (.int _) (.cons (.int _) (.cons (.int _) (.cons (.int _) (.cons (.int _) (.cons (.int _) (.cons (.int _) (.cons (.str _) (.cons (.str _) (.cons (.str _) (.cons (.str _) (.cons (.str _) (.cons (.str _) (.cons (.str _) (.cons (.str _) .nil))))))))))))))))))
theorem sq_keep {b p : Addr} {H H' : Hp} {o : HO} (f : Fr b H H') (n : p ≠ b) (h : H p = some o) : H' p = some o := f p o n h
def spOdd (K : PySem.W.Frag) : Sp := fun vs H Q _ => ∃ (b : Addr), vs = [.ref b] ∧ Bag H b ∧ ∀ H' v d, Fr b H H' → Bag H' b → Da K b H' v d → Lay d → wd 30 d = true → Q v H'
theorem Da.lift {K : PySem.W.Frag} {b : Addr} {H H' : Hp} {vs : List V} {ds : List PyData} (h : DpAll K (hide b H) vs ds) (x : Fr b H H') : DpAll K (hide b H') vs ds := dpAll_mono (hide_mono x) _ _ h
section
variable {P : Program} {w : World} {K : PySem.W.Frag} {mg : Str → Option Value} {base : Heap}
theorem scOdd : FnScope ["_law_bag_here", "_law_some"] ["_law_bag_here"] (defScope sOdd) := ⟨rfl, rfl, rfl, by decide +kernel, rfl, by decide +kernel, by decide +kernel⟩
theorem ok_odd {f : Addr} {fd : FuncData} (F : Fun K "_law_odd" "_law_odd" sOdd f fd) (CD : Cal P w K mg base 1 "_law_draw" ["_law_bag_here", "_law_many"] spDraw) : FnOk P w K mg base CX0 2 f fd ["_law_bag_here"] (spOdd K) := by
  refine F.ok scOdd (fun vs H Q E h => ?_) (fun cdv A outer s H vs Q E hr h => ?_)
  · obtain ⟨b, rfl, _⟩ := h
    rfl
  obtain ⟨b, rfl, hb, q⟩ := h
  refine ⟨_, pss_cons (ps_set (i := 1) scOdd.nd rfl (.inl rfl) (pe_lst (pa_cons pe_non (pa_cons pe_bl (pa_cons pe_bl (pa_cons pe_int (pa_cons pe_int (pa_cons pe_int (pa_cons pe_int (pa_cons pe_int (pa_cons (pe_un un_neg pe_int) (pa_cons (pe_op op_pow pe_int pe_int) (pa_cons (pe_op op_add (pe_op op_pow pe_int pe_int) pe_int)
      (pa_cons pe_str (pa_cons pe_str (pa_cons pe_str (pa_cons pe_str (pa_cons pe_str (pa_cons pe_str (pa_cons pe_str (pa_cons pe_str pa_nil)))))))))))))))))))))
    (pss_cons (ps_set (i := 1) scOdd.nd rfl (.inl rfl) (pe_op op_cat (pv 1) (pe_lst (pa_cons (pe_tup pa_nil) (pa_cons (pe_lst pa_nil) (pa_cons (pe_tup (pa_cons pe_str pa_nil)) (pa_cons (pe_tup (pa_cons pe_str (pa_cons pe_str (pa_cons pe_int pa_nil)))) (pa_cons (pe_lst (pa_cons pe_str (pa_cons pe_str (pa_cons pe_int pa_nil))))
      (pa_cons (pe_tup (pa_cons pe_str (pa_cons pe_str (pa_cons pe_int pa_nil)))) (pa_cons (pe_tup (pa_cons pe_str (pa_cons pe_int pa_nil))) (pa_cons (pe_tup (pa_cons pe_str (pa_cons pe_str pa_nil))) pa_nil)))))))))))
    (pss_cons (ps_set (i := 1) scOdd.nd rfl (.inl rfl) (pe_op op_cat (pv 1) (pe_lst (pa_cons (pe_tup (pa_cons pe_str (pa_cons pe_int pa_nil))) (pa_cons (pe_tup (pa_cons pe_str (pa_cons (pe_tup (pa_cons pe_str (pa_cons pe_str (pa_cons pe_int pa_nil)))) (pa_cons (pe_tup pa_nil) pa_nil))))
      (pa_cons (pe_tup (pa_cons pe_str (pa_cons (pe_tup (pa_cons pe_str (pa_cons pe_str (pa_cons pe_int pa_nil)))) (pa_cons (pe_tup pa_nil) pa_nil)))) (pa_cons pe_str (pa_cons pe_str (pa_cons pe_str pa_nil)))))))))
    (pss_one (ps_ret (pe_ix ix_list (pv 1) (pe_call CD.G hr rfl CD.m CD.kp CD.b .nil pass0 (pa_cons (pv 0) (pa_cons pe_int pa_nil))) (fun _ _ => rfl)))))), ?_⟩
  refine ⟨_, rfl, _, _, rfl, rfl, ⟨by decide, by decide, by decide⟩, _, _, rfl, rfl, ⟨by decide, by decide, by decide⟩, _, _, rfl, rfl, (by show 19 ≤ sizeLine; decide), fun l1 n1 => ?_⟩
  rw [show (fun i : Int => V.int (-i)) 1 = V.int (-1) from rfl, show (fun i j : Int => V.int (i ^ j.toNat)) 10 30 = V.int longest from congrArg V.int pow30, show (fun i j : Int => V.int (i + j)) (10 ^ (30 : Int).toNat) 1 = V.int (longest + 1) from congrArg V.int (by rw [pow30])]
  have a1 : (upd H l1 (.lst vals1)) l1 = some (.lst vals1) := upd_same
  have b1 := hb.keep (same_new n1 (.lst vals1))
  have f1 : Fr b H (upd H l1 (.lst vals1)) := Fr.of (same_new n1 _)
  have nl1 : l1 ≠ b := (hb.ne n1).symm
  change tSeq _ _ _ _ (upd H l1 (.lst vals1))
  generalize upd H l1 (.lst vals1) = H1 at a1 b1 f1 ⊢
  refine ⟨_, rfl, (by show 0 ≤ sizeLine; decide), fun e1 ne1 => ?_⟩
  obtain ⟨be1, g1, d1⟩ := alloc_tup (K := K) (xs := []) b1 ne1 (.nil)
  generalize upd H1 e1 (.tup []) = K1 at be1 g1 d1 ⊢
  refine ⟨(by show 0 ≤ sizeLine; decide), fun e2 ne2 => ?_⟩
  obtain ⟨be2, g2, d2⟩ := alloc_lst (K := K) (xs := []) be1 ne2 (.nil)
  generalize upd K1 e2 (.lst []) = K2 at be2 g2 d2 ⊢
  refine ⟨(by show 1 ≤ sizeLine; decide), fun e3 ne3 => ?_⟩
  obtain ⟨be3, g3, d3⟩ := alloc_tup (K := K) (xs := [.str "a"]) be2 ne3 (.cons (.str _) .nil)
  generalize upd K2 e3 (.tup [.str "a"]) = K3 at be3 g3 d3 ⊢
  refine ⟨(by show 3 ≤ sizeLine; decide), fun e4 ne4 => ?_⟩
  obtain ⟨be4, g4, d4⟩ := alloc_tup (K := K) (xs := [.str "a", .str "==", .int 3]) be3 ne4 (.cons (.str _) (.cons (.str _) (.cons (.int _) .nil)))
  generalize upd K3 e4 (.tup [.str "a", .str "==", .int 3]) = K4 at be4 g4 d4 ⊢
  refine ⟨(by show 3 ≤ sizeLine; decide), fun e5 ne5 => ?_⟩
  obtain ⟨be5, g5, d5⟩ := alloc_lst (K := K) (xs := [.str "a", .str "==", .int 3]) be4 ne5 (.cons (.str _) (.cons (.str _) (.cons (.int _) .nil)))
  generalize upd K4 e5 (.lst [.str "a", .str "==", .int 3]) = K5 at be5 g5 d5 ⊢
  refine ⟨(by show 3 ≤ sizeLine; decide), fun e6 ne6 => ?_⟩
  obtain ⟨be6, g6, d6⟩ := alloc_tup (K := K) (xs := [.str "set", .str "a", .int 3]) be5 ne6 (.cons (.str _) (.cons (.str _) (.cons (.int _) .nil)))
  generalize upd K5 e6 (.tup [.str "set", .str "a", .int 3]) = K6 at be6 g6 d6 ⊢
  refine ⟨(by show 2 ≤ sizeLine; decide), fun e7 ne7 => ?_⟩
  obtain ⟨be7, g7, d7⟩ := alloc_tup (K := K) (xs := [.str "answer", .int 1]) be6 ne7 (.cons (.str _) (.cons (.int _) .nil))
  generalize upd K6 e7 (.tup [.str "answer", .int 1]) = K7 at be7 g7 d7 ⊢
  refine ⟨(by show 2 ≤ sizeLine; decide), fun e8 ne8 => ?_⟩
  obtain ⟨be8, g8, d8⟩ := alloc_tup (K := K) (xs := [.str "list", .str "b"]) be7 ne8 (.cons (.str _) (.cons (.str _) .nil))
  generalize upd K7 e8 (.tup [.str "list", .str "b"]) = K8 at be8 g8 d8 ⊢
  refine ⟨(by show 8 ≤ sizeLine; decide), fun l2 n2 => ?_⟩
  have v2 : DpAll K (hide b K8) [.ref e1, .ref e2, .ref e3, .ref e4, .ref e5, .ref e6, .ref e7, .ref e8] odd2 := .cons (d1.fr (g2.trans (g3.trans (g4.trans (g5.trans (g6.trans (g7.trans (g8)))))))) (.cons (d2.fr (g3.trans (g4.trans (g5.trans (g6.trans (g7.trans (g8))))))) (.cons (d3.fr (g4.trans (g5.trans (g6.trans (g7.trans (g8)))))) (.cons (d4.fr (g5.trans (g6.trans (g7.trans (g8))))) (.cons (d5.fr (g6.trans (g7.trans (g8)))) (.cons (d6.fr (g7.trans (g8))) (.cons (d7.fr (g8)) (.cons (d8) (.nil))))))))
  obtain ⟨bl2, gl2, _⟩ := alloc_lst be8 n2 v2
  have al2 : (upd K8 l2 (.lst [.ref e1, .ref e2, .ref e3, .ref e4, .ref e5, .ref e6, .ref e7, .ref e8])) l2 = some (.lst [.ref e1, .ref e2, .ref e3, .ref e4, .ref e5, .ref e6, .ref e7, .ref e8]) := upd_same
  have v2' := Da.lift v2 gl2
  generalize upd K8 l2 (.lst [.ref e1, .ref e2, .ref e3, .ref e4, .ref e5, .ref e6, .ref e7, .ref e8]) = L2 at bl2 gl2 al2 v2' ⊢
  have g18 : Fr b H1 L2 := g1.trans (g2.trans (g3.trans (g4.trans (g5.trans (g6.trans (g7.trans (g8.trans gl2)))))))
  refine ⟨l1, l2, _, _, rfl, rfl, g18 _ _ nl1 a1, al2, (by show 27 ≤ sizeLine; decide), fun l3 n3 => ?_⟩
  have v3 : DpAll K (hide b L2) (vals1 ++ [.ref e1, .ref e2, .ref e3, .ref e4, .ref e5, .ref e6, .ref e7, .ref e8]) (odd1 ++ odd2) := dpAll_append dp_odd1 v2'
  generalize (vals1 ++ [.ref e1, .ref e2, .ref e3, .ref e4, .ref e5, .ref e6, .ref e7, .ref e8]) = vals2 at v3 ⊢
  have hv2 : vals2.length = 27 := dpAll_len v3
  obtain ⟨bl3, gl3, _⟩ := alloc_lst bl2 n3 v3
  have al3 : (upd L2 l3 (.lst vals2)) l3 = some (.lst vals2) := upd_same
  have nl3 : l3 ≠ b := (bl2.ne n3).symm
  have v3' := Da.lift v3 gl3
  generalize upd L2 l3 (.lst vals2) = L3 at bl3 gl3 al3 v3' ⊢
  refine ⟨_, rfl, (by show 2 ≤ sizeLine; decide), fun e9 ne9 => ?_⟩
  obtain ⟨be9, g9, d9⟩ := alloc_tup (K := K) (xs := [.str "wait", .int 0]) bl3 ne9 (.cons (.str _) (.cons (.int _) .nil))
  generalize upd L3 e9 (.tup [.str "wait", .int 0]) = K9 at be9 g9 d9 ⊢
  refine ⟨(by show 3 ≤ sizeLine; decide), fun e10 ne10 => ?_⟩
  obtain ⟨be10, g10, d10⟩ := alloc_tup (K := K) (xs := [.str "a", .str "<", .int 3]) be9 ne10 (.cons (.str _) (.cons (.str _) (.cons (.int _) .nil)))
  generalize upd K9 e10 (.tup [.str "a", .str "<", .int 3]) = K10 at be10 g10 d10 ⊢
  refine ⟨(by show 0 ≤ sizeLine; decide), fun e11 ne11 => ?_⟩
  obtain ⟨be11, g11, d11⟩ := alloc_tup (K := K) (xs := []) be10 ne11 (.nil)
  generalize upd K10 e11 (.tup []) = K11 at be11 g11 d11 ⊢
  refine ⟨(by show 3 ≤ sizeLine; decide), fun e12 ne12 => ?_⟩
  obtain ⟨be12, g12, d12⟩ := alloc_tup (K := K) (xs := [.str "while", .ref e10, .ref e11]) be11 ne12 (.cons (.str _) (.cons (d10.fr g11) (.cons d11 .nil)))
  generalize upd K11 e12 (.tup [.str "while", .ref e10, .ref e11]) = K12 at be12 g12 d12 ⊢
  refine ⟨(by show 3 ≤ sizeLine; decide), fun e13 ne13 => ?_⟩
  obtain ⟨be13, g13, d13⟩ := alloc_tup (K := K) (xs := [.str "a", .str "<", .int 3]) be12 ne13 (.cons (.str _) (.cons (.str _) (.cons (.int _) .nil)))
  generalize upd K12 e13 (.tup [.str "a", .str "<", .int 3]) = K13 at be13 g13 d13 ⊢
  refine ⟨(by show 0 ≤ sizeLine; decide), fun e14 ne14 => ?_⟩
  obtain ⟨be14, g14, d14⟩ := alloc_tup (K := K) (xs := []) be13 ne14 (.nil)
  generalize upd K13 e14 (.tup []) = K14 at be14 g14 d14 ⊢
  refine ⟨(by show 3 ≤ sizeLine; decide), fun e15 ne15 => ?_⟩
  obtain ⟨be15, g15, d15⟩ := alloc_tup (K := K) (xs := [.str "if", .ref e13, .ref e14]) be14 ne15 (.cons (.str _) (.cons (d13.fr g14) (.cons d14 .nil)))
  generalize upd K14 e15 (.tup [.str "if", .ref e13, .ref e14]) = K15 at be15 g15 d15 ⊢
  refine ⟨(by show 6 ≤ sizeLine; decide), fun l4 n4 => ?_⟩
  have v4 : DpAll K (hide b K15) [.ref e9, .ref e12, .ref e15, .str "teller", .str "collector", .str "set"] odd3 := .cons (d9.fr (g10.trans (g11.trans (g12.trans (g13.trans (g14.trans (g15))))))) (.cons (d12.fr (g13.trans (g14.trans (g15)))) (.cons d15 (.cons (.str _) (.cons (.str _) (.cons (.str _) .nil)))))
  obtain ⟨bl4, gl4, _⟩ := alloc_lst be15 n4 v4
  have al4 : (upd K15 l4 (.lst [.ref e9, .ref e12, .ref e15, .str "teller", .str "collector", .str "set"])) l4 = some (.lst [.ref e9, .ref e12, .ref e15, .str "teller", .str "collector", .str "set"]) := upd_same
  have v4' := Da.lift v4 gl4
  generalize upd K15 l4 (.lst [.ref e9, .ref e12, .ref e15, .str "teller", .str "collector", .str "set"]) = L4 at bl4 gl4 al4 v4' ⊢
  have g915 : Fr b L3 L4 := g9.trans (g10.trans (g11.trans (g12.trans (g13.trans (g14.trans (g15.trans (gl4)))))))
  refine ⟨l3, l4, _, _, rfl, rfl, g915 _ _ nl3 al3, al4, ?_, fun l5 n5 => ?_⟩
  · rw [hv2]; show 33 ≤ sizeLine; decide
  have v5 := dpAll_append (Da.lift v3' g915) v4'
  generalize (vals2 ++ [.ref e9, .ref e12, .ref e15, .str "teller", .str "collector", .str "set"]) = vals3 at v5 ⊢
  obtain ⟨bl5, gl5, _⟩ := alloc_lst bl4 n5 v5
  have al5 : (upd L4 l5 (.lst vals3)) l5 = some (.lst vals3) := upd_same
  have nl5 : l5 ≠ b := (bl4.ne n5).symm
  have v5' := Da.lift v5 gl5
  generalize upd L4 l5 (.lst vals3) = L5 at bl5 gl5 al5 v5' ⊢
  refine ⟨_, rfl, _, rfl, b, 33, rfl, bl5, by decide, by decide, fun H9 r f9 b9 r0 r1 => ?_⟩
  obtain ⟨rn, rfl⟩ : ∃ rn : Nat, r = rn := ⟨r.toNat, by omega⟩
  have hlen : vals3.length = 33 := dpAll_len v5
  have hrn : rn < vals3.length := by omega
  obtain ⟨d, hd, hdd⟩ := dpAll_get (Da.lift v5' f9) (List.getElem?_eq_getElem hrn)
  have hm := odd_mem (List.mem_of_getElem? hd)
  refine ⟨l5, _, _, _, rfl, rfl, SqL.of (f9 _ _ nl5 al5), atI_nat (List.getElem?_eq_getElem hrn), ?_⟩
  exact q _ _ d (f1.trans (g18.trans (gl3.trans (g915.trans (gl5.trans f9))))) b9 hdd hm.1 hm.2
end
theorem cut_whole {xs : List V} {lo hi : Option Int} (h : HT.sIx xs.length 0 lo = 0 ∧ HT.sIx xs.length xs.length hi = xs.length) : cutV xs lo hi = xs := by
  unfold cutV
  rw [h.1, h.2, List.drop_zero, Nat.sub_zero, List.take_length]
section
variable {X : Cx}
def rSlE (K : PySem.W.Frag) : V → Option Int → Option Int → Hp → VK → Prop := fun x lo hi H Q => ∃ bg a xs, x = .ref a ∧ SqT K (hide bg H) a xs ∧ Bag H bg ∧ ∀ w H', Same H H' → SqT K (hide bg H') w (cutV xs lo hi) → Q (.ref w) H'
theorem sl_tupE : SlR X (rSlE X.K) := by
  intro pins s σ H x v vl vu lo hi sl Q I rx hs pl pu h
  obtain ⟨bg, a, xs, rfl, ha, hB, q⟩ := h
  refine sl_tupA pins s σ H _ v vl vu lo hi sl Q I rx hs pl pu ⟨a, xs, rfl, Same.tup (hide_same _ _) ha, fun hw => ?_, fun _ p np => ?_⟩
  · exact q a H (Same.refl H) (by rw [cut_whole hw]; exact ha)
  · exact q p _ (same_new np _) (SqT.of (hide_get (hB.ne np).symm upd_same))
def rCatH (K : PySem.W.Frag) (bg : Addr) : R2 := fun x y H Q => ∃ a b xs ys, x = .ref a ∧ y = .ref b ∧ SqT K (hide bg H) a xs ∧ SqT K (hide bg H) b ys ∧ xs.length + ys.length ≤ sizeLine ∧ Bag H bg ∧ ∀ w H', Same H H' → SqT K (hide bg H') w (xs ++ ys) → Q (.ref w) H'
theorem op_catH (bg : Addr) : OpR X (binaryOp .Add) (rCatH X.K bg) := by
  intro pins s σ H x y v u Q I rx ry h
  obtain ⟨a, b, xs, ys, rfl, rfl, ha, hb, hz, hB, q⟩ := h
  refine op_catA pins s σ H _ _ v u Q I rx ry ⟨a, b, xs, ys, rfl, rfl, Same.tup (hide_same _ _) ha, Same.tup (hide_same _ _) hb, hz, fun e => ?_, fun _ e => ?_, fun _ _ p np => ?_⟩
  · exact q b H (Same.refl H) (by rw [e]; exact hb)
  · exact q a H (Same.refl H) (by rw [e, List.append_nil]; exact ha)
  · exact q p _ (same_new np _) (SqT.of (hide_get (hB.ne np).symm upd_same))
def rCatE (K : PySem.W.Frag) : R2 := fun x y H Q => ∃ bg, rCatH K bg x y H Q
theorem op_catE : OpR X (binaryOp .Add) (rCatE X.K) := by
  intro pins s σ H x y v u Q I rx ry h
  obtain ⟨bg, h⟩ := h
  exact op_catH bg pins s σ H x y v u Q I rx ry h
end
def spSpoilt (K : PySem.W.Frag) (n : Nat) : Sp := fun vs H Q _ => ∃ (b : Addr) (v : V) (d : PyData), vs = [.ref b, v] ∧ Bag H b ∧ Da K b H v d ∧ Lay d ∧ wd 30 d = true ∧ d.depth ≤ n ∧ ∀ H' v' d', Fr b H H' → Bag H' b → Da K b H' v' d' → Lay d' → wd 31 d' = true → Q v' H'
theorem depth_mem {ds : List PyData} : ∀ {d : PyData}, d ∈ ds → d.depth ≤ PyData.depthAll ds := by
  induction ds with
  | nil => intro d m; cases m
  | cons x r ih =>
    intro d m
    simp only [PyData.depthAll]
    rcases List.mem_cons.mp m with rfl | m
    · omega
    · have := ih m
      omega
theorem depth_tup (ds : List PyData) : (PyData.tuple ds).depth = PyData.depthAll ds + 1 := by simp only [PyData.depth]
theorem depth_all {ds : List PyData} {n : Nat} (h : ∀ d ∈ ds, d.depth ≤ n) : PyData.depthAll ds ≤ n := by
  induction ds with
  | nil => exact Nat.zero_le _
  | cons x r ih =>
    simp only [PyData.depthAll]
    have h1 := h x (by simp)
    have h2 := ih fun d m => h d (List.mem_cons_of_mem _ m)
    omega
section
variable {P : Program} {w : World} {K : PySem.W.Frag} {mg : Str → Option Value} {base : Heap}
theorem scSpoilt : FnScope ["_law_bag_here", "_law_thing", "_law_at", "_law_way"] ["_law_bag_here", "_law_thing"] (defScope sSpoilt) := ⟨rfl, rfl, rfl, by decide +kernel, rfl, by decide +kernel, by decide +kernel⟩
theorem ok_spoilt {f : Addr} {fd : FuncData} {lv n : Nat} (hlv : 2 ≤ lv) (F : Fun K "_law_spoilt" "_law_spoilt" sSpoilt f fd) (T : Gs K mg) (ml : mg "list" = none) (CD : Cal P w K mg base 1 "_law_draw" ["_law_bag_here", "_law_many"] spDraw) (CO : Cal P w K mg base 2 "_law_odd" ["_law_bag_here"] (spOdd K))
    (CS : Cal P w K mg base lv "_law_spoilt" ["_law_bag_here", "_law_thing"] (fun vs H Q E => n ≠ 0 ∧ spSpoilt K (n - 1) vs H Q E)) :
    FnOk P w K mg base CX0 (lv + 1) f fd ["_law_bag_here", "_law_thing"] (spSpoilt K n) := by
  refine F.ok scSpoilt (fun vs H Q E h => ?_) (fun cdv A outer s H vs Q E hr h => ?_)
  · obtain ⟨b, v, d, rfl, _⟩ := h
    rfl
  obtain ⟨b, v, d, rfl, hb, hd, ld, wdd, hdep, q⟩ := h
  have hr1 : Room 1 _ := hr.mono (by omega)
  have hr2 : Room 2 _ := hr.mono hlv
  refine ⟨_, pss_cons (ps_if (PW.pt (pw_and (pt_val (pe_callB call_isi (by rfl) T.isi (by decide +kernel) (pa_cons (pv 1) (pa_cons (pe_bltn (v := .ty "tuple") (by rfl) T.tup (by decide +kernel) rfl) pa_nil))))
      (pw_and (pt_cmpR op_gt (pe_callB call_len_seq (by rfl) T.len PySem.boot_len (pa_cons (pv 1) pa_nil)) pe_int (nomark _)) (pw_and1 (pt_cmpR op_gt (pe_call CD.G hr1 rfl CD.m CD.kp CD.b .nil pass0 (pa_cons (pv 0) (pa_cons pe_int pa_nil))) pe_int (nomark _))))))
      (pss_cons (ps_set (i := 2) scSpoilt.nd rfl (.inl rfl) (pe_call CD.G hr1 rfl CD.m CD.kp CD.b .nil pass0 (pa_cons (pv 0) (pa_cons (pe_callB call_len_seq (by rfl) T.len PySem.boot_len (pa_cons (pv 1) pa_nil)) pa_nil))))
      (pss_one (ps_ret (pe_op op_catE (pe_op op_catE (pe_slice sl_tupE (pv 1) po_none (po_some (pv 2))) (pe_tup (pa_cons (pe_call CS.G hr rfl CS.m CS.kp CS.b .nil pass0 (pa_cons (pv 0) (pa_cons (pe_ix ix_tup (pv 1) (pv 2) (fun _ _ => rfl)) pa_nil))) pa_nil))) (pe_slice sl_tupE (pv 1) (po_some (pe_op op_add (pv 2) pe_int)) po_none))))) pss_nil)
    (pss_cons (ps_set (i := 3) scSpoilt.nd rfl (.inl rfl) (pe_call CD.G hr1 rfl CD.m CD.kp CD.b .nil pass0 (pa_cons (pv 0) (pa_cons pe_int pa_nil))))
    (pss_cons (ps_if (PW.pt (pw_or (pt_not (pt_val (pe_callB call_isi (by rfl) T.isi (by decide +kernel) (pa_cons (pv 1) (pa_cons (pe_bltn (v := .ty "tuple") (by rfl) T.tup (by decide +kernel) rfl) pa_nil))))) (pw_or1 (pt_cmpR op_gt (pv 3) pe_int (nomark _))))) (pss_one (ps_ret (pe_call CO.G hr2 rfl CO.m CO.kp CO.b .nil pass0 (pa_cons (pv 0) pa_nil)))) pss_nil)
    (pss_cons (ps_if (pt_cmpR op_eq (pv 3) pe_int (nomark _)) (pss_one (ps_ret (pe_callTy call_list_of (by rfl) ml (by decide +kernel) (pa_cons (pv 1) pa_nil)))) pss_nil)
    (pss_cons (ps_if (pt_cmpR op_eq (pv 3) pe_int (nomark _)) (pss_one (ps_ret (pe_op op_catE (pv 1) (pe_tup (pa_cons (pe_call CO.G hr2 rfl CO.m CO.kp CO.b .nil pass0 (pa_cons (pv 0) pa_nil)) pa_nil))))) pss_nil)
    (pss_one (ps_ret (pe_slice sl_tupE (pv 1) (po_some pe_int) po_none))))))), ?_⟩
  refine ⟨_, rfl, v, .ty "tuple", _, _, _, rfl, .ty _, dp_ty hd.dp, kit_isT d (by simp) (dp_nd hd), _, rfl, ?_⟩
  -- what an odd thing gives
  have odd : ∀ {H1 : Hp}, Fr b H H1 → ∀ (H' : Hp) (v' : V) (d' : PyData), Fr b H1 H' → Bag H' b → Da K b H' v' d' → Lay d' → wd 30 d' = true → Q v' H' := fun f1 H' v' d' f2 b2 h2 l2 w2 => q _ _ d' (f1.trans f2) b2 h2 l2 (wd_mono (by decide) _ w2)
  cases ht : isT d "tuple" with
  | false =>
    refine iteF (iteF ⟨_, rfl, b, 5, rfl, hb, by decide, by decide, fun H1 wy f1 b1 w0 w1 => ?_⟩)
    refine ⟨_, rfl, v, .ty "tuple", _, _, _, rfl, .ty _, dp_ty (hd.fr f1).dp, kit_isT d (by simp) (dp_nd hd), _, rfl, ?_⟩
    rw [ht]
    exact iteT (iteT ⟨_, rfl, b, rfl, b1, odd f1⟩)
  | true =>
    obtain ⟨ds, rfl⟩ := isT_tup ht
    obtain ⟨a, xs, rfl, hs, ha⟩ := dp_tup_inv hd
    have hl := dpAll_len ha
    have lm := lay_mem (lay_tup ld)
    have wds := wd_tup.mp wdd
    have hsH : SqT K H a xs := Same.tup (hide_same _ _) hs
    refine iteT ⟨_, rfl, a, xs, rfl, .inr hsH, _, _, rfl, rfl, _, rfl, ?_⟩
    -- the lower half, from any later heap
    have low : ∀ {H1 : Hp}, Fr b H H1 → Bag H1 b → ∀ {D : Ends}, (∀ v' H', Q v' H' → D.rt v' H') → ∀ (s2 s3 : Option V),
        tSeq (tAsg (tCall spDraw [] E0 (tCons (tVar 0) (tCons (tC (.int 5)) tNil))) (gName 3)) (tSeq (tIfS (tOr (tNot (tB (tCB (rIsi K) (tCons (tVar 1) (tCons (tC (.ty "tuple")) tNil))))) (tTest (tOp (rI0 fun i j => V.bl (decide (j < i))) (tVar 3) (tC (.int 2))))) (tRet (tCall (spOdd K) [] E0 (tCons (tVar 0) tNil))) tNext)
          (tSeq (tIfS (tTest (tOp rEq (tVar 3) (tC (.int 0)))) (tRet (tCB (fun xs H Q => ∃ p ys, xs = [.ref p] ∧ (SqL K H p ys ∨ SqT K H p ys) ∧ ∀ l, H l = none → Q (.ref l) (upd H l (.lst ys))) (tCons (tVar 1) tNil))) tNext)
          (tSeq (tIfS (tTest (tOp rEq (tVar 3) (tC (.int 1)))) (tRet (tOp (rCatE K) (tVar 1) (tTup (tCons (tCall (spOdd K) [] E0 (tCons (tVar 0) tNil)) tNil)))) tNext) (tRet (tSl (rSlE K) (tVar 1) (tPart (tC (.int 1))) tNoPart))))) D [some (.ref b), some (.ref a), s2, s3] H1 := by
      intro H1 f1 b1 D hD s2 s3
      refine ⟨_, rfl, b, 5, rfl, b1, by decide, by decide, fun H2 wy f2 b2 w0 w1 => ?_⟩
      have f12 := f1.trans f2
      have hd2 : Da K b H2 (.ref a) (.tuple ds) := hd.fr f12
      have hs2 : SqT K (hide b H2) a xs := Same.tup (hide_mono f12) hs
      have ha2 : DpAll K (hide b H2) xs ds := Da.lift ha f12
      refine ⟨_, rfl, _, .ty "tuple", _, _, _, rfl, .ty _, dp_ty hd2.dp, kit_isT (.tuple ds) (by simp) (dp_nd hd2), _, rfl, ?_⟩
      refine ite2 (fun c => absurd c (by simp [isT, tyN])) (fun _ => ⟨_, rfl, _, _, rfl, rfl, _, rfl, ite2 (fun _ => ?_) (fun _ => ?_)⟩)
      · exact ⟨_, rfl, b, rfl, b2, fun H' v' d' g1 g2 g3 g4 g5 => hD _ _ (odd f12 H' v' d' g1 g2 g3 g4 g5)⟩
      refine ⟨_, rfl, rfl, _, rfl, ite2 (fun _ => ?_) (fun _ => ?_)⟩
      · refine ⟨_, rfl, a, xs, rfl, .inr (Same.tup (hide_same _ _) hs2), fun l nl => ?_⟩
        obtain ⟨b3, g3, d3⟩ := alloc_lst b2 nl ha2
        refine hD _ _ (q _ _ (.list ds) (f12.trans g3) b3 d3 ?_ ?_)
        · unfold Lay; simp only [PyData.canLay0]; exact lay_all lm
        · simp only [wd, Bool.and_eq_true, decide_eq_true_eq]
          exact ⟨by omega, wdAll_mono (by decide) _ (wdAll_iff.mpr wds.2)⟩
      refine ⟨_, rfl, rfl, _, rfl, ite2 (fun _ => ?_) (fun _ => ?_)⟩
      · refine ⟨_, rfl, _, rfl, b, rfl, b2, fun H3 v3 d3 f3 b3 h3 l3 w3 => ⟨(by show 1 ≤ sizeLine; decide), fun t nt => ?_⟩⟩
        obtain ⟨b4, g4, d4⟩ := alloc_tup b3 nt (.cons h3 .nil)
        have hs4 : SqT K (hide b (upd H3 t (.tup [v3]))) a xs := Same.tup (hide_mono (f3.trans g4)) hs2
        have hst : SqT K (hide b (upd H3 t (.tup [v3]))) t [v3] := SqT.of (hide_get (b3.ne nt).symm upd_same)
        refine ⟨b, a, t, xs, [v3], rfl, rfl, hs4, hst, ?_, b4, fun w H5 s5 hw => ?_⟩
        · have := wds.1
          rw [hl]
          exact Nat.le_of_lt (Nat.lt_of_le_of_lt (by show _ + 1 ≤ 1000; omega : _ ≤ 1000) (by decide))
        have fr5 : Fr b H2 H5 := f3.trans (g4.trans (Fr.of s5))
        refine hD _ _ (q _ _ (.tuple (ds ++ [d3])) (f12.trans fr5) (b4.keep s5) (.tup hw (dpAll_append (Da.lift ha2 fr5) (.cons (h3.fr (g4.trans (Fr.of s5))) .nil))) ?_ ?_)
        · refine lay_tuple fun x mx => ?_
          rcases List.mem_append.mp mx with mx | mx
          · exact lm x mx
          · rw [List.mem_singleton.mp mx]; exact l3
        · rw [wd_tup]
          refine ⟨by rw [List.length_append]; show ds.length + 1 ≤ 31; omega, fun x mx => ?_⟩
          rcases List.mem_append.mp mx with mx | mx
          · exact wd_mono (by decide) _ (wds.2 x mx)
          · rw [List.mem_singleton.mp mx]; exact wd_mono (by decide) _ w3
      · refine ⟨_, rfl, _, rfl, b, a, xs, rfl, hs2, b2, fun w H5 s5 hw => ?_⟩
        have hw' : SqT K (hide b H5) w (xs.drop 1) := by
          have e := cut_hi xs 1
          rw [← e]
          exact hw
        refine hD _ _ (q _ _ (.tuple (ds.drop 1)) (f12.trans (Fr.of s5)) (b2.keep s5) (.tup hw' (dpAll_drop 1 (Da.lift ha2 (Fr.of s5)))) (lay_tuple fun x mx => lm x (List.mem_of_mem_drop mx)) ?_)
        rw [wd_tup]
        exact ⟨by rw [List.length_drop]; omega, fun x mx => wd_mono (by decide) _ (wds.2 x (List.mem_of_mem_drop mx))⟩
    by_cases c0 : (0 : Int) < (xs.length : Nat)
    rotate_left
    · rw [decide_eq_false c0]
      exact iteF (iteF (low (Fr.refl _ _) hb (fun _ _ h => h) none none))
    rw [decide_eq_true c0]
    refine iteT ⟨_, rfl, b, 5, rfl, hb, by decide, by decide, fun H1 r1 f1 b1 r10 r11 => ⟨_, _, rfl, rfl, _, rfl, ite2 (fun _ => ?_) (fun _ => ?_)⟩⟩
    rotate_left
    · exact low f1 b1 (fun _ _ h => h) none none
    have hs1 : SqT K (hide b H1) a xs := Same.tup (hide_mono f1) hs
    refine ⟨_, rfl, _, rfl, a, xs, rfl, .inr (Same.tup (hide_same _ _) hs1), b, _, rfl, b1, by omega, by omega, fun H2 at' f2 b2 a0 a1 => ?_⟩
    obtain ⟨at0, rfl⟩ : ∃ at0 : Nat, at' = at0 := ⟨at'.toNat, by omega⟩
    have hat : at0 < xs.length := by omega
    have f12 := f1.trans f2
    have hs2 : SqT K (hide b H2) a xs := Same.tup (hide_mono f12) hs
    have ha2 : DpAll K (hide b H2) xs ds := Da.lift ha f12
    refine ⟨_, rfl, _, rfl, _, rfl, b, a, xs, rfl, hs2, b2, fun w3 H3 s3 hw3 => ?_⟩
    rw [cut_lo] at hw3
    have b3 := b2.keep s3
    have hs3 : SqT K (hide b H3) a xs := Same.tup (hide_mono (Fr.of s3)) hs2
    obtain ⟨da, hda, hxa⟩ := dpAll_get ha2 (List.getElem?_eq_getElem hat)
    have mda := List.mem_of_getElem? hda
    have dpd := depth_mem mda
    rw [depth_tup] at hdep
    refine ⟨_, rfl, _, rfl, _, rfl, a, _, _, _, rfl, rfl, Same.tup (hide_same _ _) hs3, atI_nat (List.getElem?_eq_getElem hat), by omega, b, _, da, rfl, b3, Da.fr hxa (Fr.of s3), lm _ mda, wds.2 _ mda, by omega, fun H4 v4 d4 f4 b4 h4 l4 w4 => ⟨(by show 1 ≤ sizeLine; decide), fun t nt => ?_⟩⟩
    obtain ⟨b5, g5, d5⟩ := alloc_tup b4 nt (.cons h4 .nil)
    have hst : SqT K (hide b (upd H4 t (.tup [v4]))) t [v4] := SqT.of (hide_get (b4.ne nt).symm upd_same)
    have h45 : Da K b (upd H4 t (.tup [v4])) v4 d4 := h4.fr g5
    generalize upd H4 t (.tup [v4]) = H5 at b5 g5 d5 hst h45 ⊢
    have fr35 : Fr b H3 H5 := f4.trans g5
    have xl : xs.length ≤ 30 := by have := wds.1; omega
    refine ⟨b, w3, t, _, _, rfl, rfl, Same.tup (hide_mono fr35) hw3, hst, ?_, b5, fun w6 H6 s6 hw6 => ?_⟩
    · rw [List.length_take]
      exact Nat.le_of_lt (Nat.lt_of_le_of_lt (by show _ + 1 ≤ 1000; omega : _ ≤ 1000) (by decide))
    have fr36 : Fr b H3 H6 := fr35.trans (Fr.of s6)
    have hs6 : SqT K (hide b H6) a xs := Same.tup (hide_mono fr36) hs3
    refine ⟨_, rfl, _, rfl, _, _, rfl, rfl, _, rfl, b, a, xs, rfl, hs6, b5.keep s6, fun w7 H7 s7 hw7 => ?_⟩
    have hw7' : SqT K (hide b H7) w7 (xs.drop (at0 + 1)) := by
      have e := cut_hi xs (at0 + 1)
      rw [← e]
      exact hw7
    refine ⟨b, w6, w7, _, _, rfl, rfl, Same.tup (hide_mono (Fr.of s7)) hw6, hw7', ?_, (b5.keep s6).keep s7, fun w8 H8 s8 hw8 => ?_⟩
    · rw [List.length_append, List.length_take, List.length_drop]
      exact Nat.le_of_lt (Nat.lt_of_le_of_lt (by show _ + 1 + _ ≤ 1000; omega : _ ≤ 1000) (by decide))
    have fr28 : Fr b H2 H8 := (Fr.of s3).trans (fr36.trans ((Fr.of s7).trans (Fr.of s8)))
    have ha8 := Da.lift ha2 fr28
    have h48 : Da K b H8 v4 d4 := h45.fr ((Fr.of s6).trans ((Fr.of s7).trans (Fr.of s8)))
    refine q _ _ (.tuple ((ds.take at0 ++ [d4]) ++ ds.drop (at0 + 1))) (f12.trans fr28) (((b5.keep s6).keep s7).keep s8) (.tup hw8 (dpAll_append (dpAll_append (dpAll_take at0 ha8) (.cons h48 .nil)) (dpAll_drop (at0 + 1) ha8))) ?_ ?_
    · refine lay_tuple fun x mx => ?_
      rcases List.mem_append.mp mx with mx | mx
      · rcases List.mem_append.mp mx with mx | mx
        · exact lm x (List.mem_of_mem_take mx)
        · rw [List.mem_singleton.mp mx]; exact l4
      · exact lm x (List.mem_of_mem_drop mx)
    · rw [wd_tup]
      refine ⟨?_, fun x mx => ?_⟩
      · rw [List.length_append, List.length_append, List.length_take, List.length_drop]
        show _ + 1 + _ ≤ 31
        have := wds.1
        omega
      · rcases List.mem_append.mp mx with mx | mx
        · rcases List.mem_append.mp mx with mx | mx
          · exact wd_mono (by decide) _ (wds.2 x (List.mem_of_mem_take mx))
          · rw [List.mem_singleton.mp mx]; exact w4
        · exact wd_mono (by decide) _ (wds.2 x (List.mem_of_mem_drop mx))
theorem none_spoilt {f : Addr} {fd : FuncData} (lv : Nat) : FnOk P w K mg base CX0 lv f fd ["_law_bag_here", "_law_thing"] (fun vs H Q E => 0 ≠ 0 ∧ spSpoilt K (0 - 1) vs H Q E) :=
  ⟨fun vs H Q E h => absurd rfl h.1, fun A outer s H args us vs Q E _ _ _ _ h => absurd rfl h.1⟩
theorem recS {f : Addr} {fd : FuncData} (FS : Fun K "_law_spoilt" "_law_spoilt" sSpoilt f fd) (bS : Binds K fd ["_law_bag_here", "_law_thing"] []) (mS : mg "_law_spoilt" = some (.ref f)) (T : Gs K mg) (ml : mg "list" = none)
    (CD : Cal P w K mg base 1 "_law_draw" ["_law_bag_here", "_law_many"] spDraw) (CO : Cal P w K mg base 2 "_law_odd" ["_law_bag_here"] (spOdd K)) :
    ∀ n : Nat, FnOk P w K mg base CX0 (3 + n) f fd ["_law_bag_here", "_law_thing"] (spSpoilt K n)
  | 0 => ok_spoilt (lv := 2) (by decide) FS T ml CD CO ⟨f, fd, none_spoilt 2, bS, FS.kp, mS⟩
  | n + 1 => by
    have ih := recS FS bS mS T ml CD CO n
    have c2 : FnOk P w K mg base CX0 (3 + n) f fd ["_law_bag_here", "_law_thing"] (fun vs H Q E => n + 1 ≠ 0 ∧ spSpoilt K (n + 1 - 1) vs H Q E) :=
      ⟨fun vs H Q E h => ih.len vs H Q E h.2, fun A outer s H args us vs Q E h1 h2 h3 h4 h => ih.run A outer s H args us vs Q E h1 h2 h3 h4 h.2⟩
    exact ok_spoilt (lv := 3 + n) (n := n + 1) (by omega) FS T ml CD CO ⟨f, fd, c2, bS, FS.kp, mS⟩
end
theorem part_flat {p : PyData} {r : Str} (h : isPart p r = true) : p.depth = 0 := by
  cases p with
  | list xs => unfold isPart at h; repeat' split at h
               all_goals simp [inS, isTerm, intIn] at h
  | tuple xs => unfold isPart at h; repeat' split at h
                all_goals simp [inS, isTerm, intIn] at h
  | dict xs => unfold isPart at h; repeat' split at h
               all_goals simp [inS, isTerm, intIn] at h
  | _ => simp only [PyData.depth]
theorem inS_flat {d : PyData} {zs : List Str} (h : inS d zs = true) : d.depth = 0 := by
  cases d with
  | list xs => simp [inS] at h
  | tuple xs => simp [inS] at h
  | dict xs => simp [inS] at h
  | _ => simp only [PyData.depth]
theorem parts_flat : ∀ {ps : List PyData} {rs : List Str}, ps.length = rs.length → allParts ps rs = true → PyData.depthAll ps = 0
  | [], _, _, _ => by simp only [PyData.depthAll]
  | p :: ps, [], l, _ => by simp at l
  | p :: ps, r :: rs, l, h => by
    have h' : isPart p r = true ∧ allParts ps rs = true := by
      simpa [allParts] using h
    simp only [PyData.depthAll, part_flat h'.1, parts_flat (by simpa using l) h'.2]
    rfl
theorem plain_depth {d : PyData} {k : Str} (h : isPlain d k = true) : d.depth ≤ 1 := by
  obtain ⟨z, ps, rs, rfl, hz, hl, hp⟩ := plain_inv h
  simp only [PyData.depth, PyData.depthAll, parts_flat hl hp]
  decide
theorem cond_depth {d : PyData} (h : isCond d = true) : d.depth ≤ 1 := by
  match d, h with
  | .tuple [x, y, z], h =>
    have h' : (inS x vars && inS y signs && isTerm z) = true := h
    rw [Bool.and_eq_true, Bool.and_eq_true] at h'
    have a3 : z.depth = 0 := part_flat (r := "term") (by rw [part_term]; exact h'.2)
    simp only [PyData.depth, PyData.depthAll, inS_flat h'.1.1, inS_flat h'.1.2, a3]
    decide
def isNil : PyData → Bool
  | .tuple [] => true
  | _ => false
/-- the three shapes of a statement -/
theorem st_shape {k : Str} {n c : Nat} {s : PyData} (h : stN k n s = some c) :
    (∃ z ps, s = .tuple (.str z :: ps) ∧ ¬ z = "if" ∧ ¬ z = "while" ∧ isPlain s k = true ∧ c = 1) ∨
    (∃ co b c', s = .tuple [.str "while", co, b] ∧ isCond co = true ∧ bodyN k n b = some c' ∧ c = 1 + c') ∨
    (∃ co b1 b2 c1 c2, s = .tuple [.str "if", co, b1, b2] ∧ isCond co = true ∧ bodyN k n b1 = some c1 ∧ bodyN k n b2 = some c2 ∧ c = 1 + (c1 + c2)) := by
  unfold stN at h
  split at h
  · rename_i ho
    obtain ⟨z, ps, rfl⟩ := out_word ho
    by_cases h1 : z = "if"
    · subst h1
      rw [out_if] at ho
      rw [bods_if] at h
      match ps, ho, h with
      | [co, b1, b2], ho, h =>
        simp only [List.drop_succ_cons, List.drop_zero, List.map_cons, List.map_nil, sumO, addO_zero] at h
        cases e1 : bodyN k n b1 with
        | none => rw [e1] at h; simp [addO] at h
        | some c1 =>
          cases e2 : bodyN k n b2 with
          | none => rw [e1, e2] at h; simp [addO] at h
          | some c2 =>
            rw [e1, e2] at h
            have e : 1 + (c1 + c2) = c := by injection h
            exact .inr (.inr ⟨co, b1, b2, c1, c2, rfl, ho, e1, e2, e.symm⟩)
    by_cases h2 : z = "while"
    · subst h2
      rw [out_while] at ho
      rw [bods_while] at h
      match ps, ho, h with
      | [co, b1], ho, h =>
        simp only [List.drop_succ_cons, List.drop_zero, List.map_cons, List.map_nil, sumO, addO_zero] at h
        cases e1 : bodyN k n b1 with
        | none => rw [e1] at h; simp [addO] at h
        | some c1 =>
          rw [e1] at h
          have e : 1 + c1 = c := by injection h
          exact .inr (.inl ⟨co, b1, c1, rfl, ho, e1, e.symm⟩)
    · rw [out_else h1 h2] at ho
      have hp : isPlain (.tuple (.str z :: ps)) k = true := ho
      rw [bods_else h1 h2] at h
      have e : 1 = c := by injection h
      exact .inl ⟨z, ps, rfl, h1, h2, hp, e.symm⟩
  · cases h
theorem body_tuple {k : Str} {n c : Nat} {d : PyData} (h : bodyN k n d = some c) : ∃ ss, d = .tuple ss := by
  cases ht : isT d "tuple" with
  | false => rw [bodyN_no k n ht] at h; cases h
  | true => exact isT_tup ht
theorem sum_le {k : Str} {n c : Nat} {ss : List PyData} (h : bodyN k (n + 1) (.tuple ss) = some c) {s : PyData} (m : s ∈ ss) : ∃ a, stN k n s = some a ∧ a ≤ c := by
  rw [bodyN_tup] at h
  exact sumO_mem h _ (List.mem_map_of_mem m)
theorem noL_mem {ds : List PyData} (h : noLAll ds = true) : ∀ d ∈ ds, noL d = true := by
  induction ds with
  | nil => intro d m; cases m
  | cons x r ih =>
    simp only [noLAll, Bool.and_eq_true] at h
    intro d m
    rcases List.mem_cons.mp m with rfl | m
    · exact h.1
    · exact ih h.2 d m
theorem noL_tup {ds : List PyData} (h : noL (.tuple ds) = true) : noLAll ds = true := by simpa only [noL] using h
theorem noLAll_of {ds : List PyData} (h : ∀ d ∈ ds, noL d = true) : noLAll ds = true := by
  induction ds with
  | nil => rfl
  | cons x r ih =>
    simp only [noLAll, Bool.and_eq_true]
    exact ⟨h x (by simp), ih fun d m => h d (List.mem_cons_of_mem _ m)⟩
theorem body_depth {k : Str} : ∀ {n c : Nat} {d : PyData}, bodyN k n d = some c → d.depth ≤ 2 * n + 1
  | 0, c, d, h => by
    match d, h with
    | .tuple [], _ => simp [PyData.depth, PyData.depthAll]
  | n + 1, c, d, h => by
    cases ht : isT d "tuple" with
    | false => rw [bodyN_no k _ ht] at h; cases h
    | true =>
      obtain ⟨ss, rfl⟩ := isT_tup ht
      rw [bodyN_tup] at h
      rw [depth_tup]
      suffices hs : PyData.depthAll ss ≤ 2 * n + 2 by omega
      refine depth_all fun s ms => ?_
      obtain ⟨a, ea, la⟩ := sumO_mem h (stN k n s) (List.mem_map_of_mem ms)
      unfold stN at ea
      split at ea
      · rename_i ho
        obtain ⟨a1, b1, _, e2, _, l2⟩ := addO_le ea
        obtain ⟨z, ps, rfl⟩ := out_word ho
        have hb : ∀ b ∈ bodsOf (.tuple (.str z :: ps)), b.depth ≤ 2 * n + 1 := fun b mb => by
          obtain ⟨x, ex, lx⟩ := sumO_mem e2 _ (List.mem_map_of_mem mb)
          exact body_depth (n := n) (c := x) ex
        by_cases h1 : z = "if"
        · subst h1
          rw [out_if] at ho
          rw [bods_if] at hb
          match ps, ho, hb with
          | [c0, b1, b2], ho, hb =>
            have w1 := cond_depth (d := c0) ho
            have w2 := hb b1 (by simp)
            have w3 := hb b2 (by simp)
            simp only [PyData.depth, PyData.depthAll]
            omega
        by_cases h2 : z = "while"
        · subst h2
          rw [out_while] at ho
          rw [bods_while] at hb
          match ps, ho, hb with
          | [c0, b1], ho, hb =>
            have w1 := cond_depth (d := c0) ho
            have w2 := hb b1 (by simp)
            simp only [PyData.depth, PyData.depthAll]
            omega
        · rw [out_else h1 h2] at ho
          have := plain_depth ho
          omega
      · cases ea
theorem eqv_nil (ss : List PyData) : PyData.eqv (.tuple ss) (.tuple []) = isNil (.tuple ss) := by
  cases ss <;> simp [PyData.eqv, PyData.eqvAll, isNil]
theorem dp_four {K : PySem.W.Frag} {H : Hp} {xs : List V} {d0 d1 d2 d3 : PyData} (h : DpAll K H xs [d0, d1, d2, d3]) : ∃ x0 x1 x2 x3, xs = [x0, x1, x2, x3] ∧ Dp K H x0 d0 ∧ Dp K H x1 d1 ∧ Dp K H x2 d2 ∧ Dp K H x3 d3 := by
  match h with
  | .cons (v := x0) h0 (.cons (v := x1) h1 (.cons (v := x2) h2 (.cons (v := x3) h3 .nil))) => exact ⟨x0, x1, x2, x3, rfl, h0, h1, h2, h3⟩
abbrev sShow : Stmt := top 33
abbrev sBL : Stmt := top 34
abbrev sSL : Stmt := top 35
abbrev sPL : Stmt := top 36
abbrev sJn : Stmt := top 37
/-- a part of a line as its text -/
def strD : PyData → Str
  | .str z => z
  | .int i => Str.ofString (toString i)
  | _ => Str.empty
def okW (d : PyData) : Prop := (∃ z, d = .str z ∧ z.length ≤ 60) ∨ ∃ i : Int, d = .int i ∧ 0 ≤ i ∧ i ≤ longest
def joinD (ds : List PyData) : Str := Txt.join " " (ds.map strD)
def rStrW : List V → Hp → VK → Prop := fun xs H Q => (∃ z, xs = [.str z] ∧ Q (.str z) H) ∨ ∃ i : Int, xs = [.int i] ∧ i.natAbs.log2 < 1920 ∧ Q (.str (Str.ofString (toString i))) H
theorem call_strW {X : Cx} : CallR X (.type "str") rStrW := by
  intro pins s σ H xs us Q I r h
  rcases h with ⟨z, rfl, q⟩ | ⟨i, rfl, hi, q⟩
  · exact SkE.call_str_str pins s σ H _ us Q I r ⟨z, rfl, q⟩
  · exact call_str_int pins s σ H _ us Q I r ⟨i, rfl, hi, q⟩
theorem wait_log {i : Int} (h0 : 0 ≤ i) (h1 : i ≤ longest) : i.natAbs.log2 < 1920 := by
  have h2 : i.natAbs ≤ 10 ^ 30 := by
    have : longest = 10 ^ 30 := by decide
    omega
  by_cases e : i.natAbs = 0
  · rw [e]; decide
  · exact (Nat.log2_lt e).mpr (Nat.lt_of_le_of_lt h2 (Nat.lt_of_lt_of_le (by decide : 10 ^ 30 < 2 ^ 100) (Nat.pow_le_pow_right (by decide) (by decide))))
theorem rStrW_of {K : PySem.W.Frag} {H H' : Hp} {v : V} {d : PyData} {Q : VK} (hd : Dp K H' v d) (ho : okW d) (q : Q (.str (strD d)) H) : rStrW [v] H Q := by
  rcases ho with ⟨z, rfl, _⟩ | ⟨i, rfl, h0, h1⟩
  · cases hd
    exact .inl ⟨z, rfl, q⟩
  · cases hd
    exact .inr ⟨i, rfl, wait_log h0 h1, q⟩
theorem strD_len {d : PyData} (h : okW d) : (strD d).length ≤ 60 := by
  rcases h with ⟨z, rfl, h⟩ | ⟨i, rfl, h0, h1⟩
  · exact h
  · refine Nat.le_trans (PyProof.Rows.toString_length_le (k := 31) h0 (by decide) ?_) (by decide)
    have : longest = 10 ^ 30 := by decide
    omega
theorem sum_len : ∀ {ds : List PyData}, (∀ d ∈ ds, okW d) → ((ds.map strD).map (·.length)).sum ≤ 60 * ds.length
  | [], _ => by simp
  | d :: r, h => by
    have h1 := strD_len (h d (by simp))
    have h2 := sum_len (ds := r) fun x m => h x (List.mem_cons_of_mem _ m)
    simp only [List.map_cons, List.sum_cons, List.length_cons]
    omega
def spJn (K : PySem.W.Frag) : Sp := fun vs H Q _ => ∃ (v : V) (ds : List PyData), vs = [v] ∧ Dp K H v (.tuple ds) ∧ ds.length ≤ 8 ∧ (∀ d ∈ ds, okW d) ∧ ∀ H', Same H H' → Q (.str (joinD ds)) H'
section
variable {P : Program} {w : World} {K : PySem.W.Frag} {mg : Str → Option Value} {base : Heap}
theorem scJn : FnScope ["parts", "part"] ["parts"] (defScope sJn) := ⟨rfl, rfl, rfl, by decide +kernel, rfl, by decide +kernel, by decide +kernel⟩
theorem ok_Jn {f : Addr} {fd : FuncData} (F : Fun K "joined" "joined" sJn f fd) (T : Gs K mg) : FnOk P w K mg base CX0 1 f fd ["parts"] (spJn K) := by
  refine F.ok scJn (fun vs H Q E h => ?_) (fun cdv A outer s H vs Q E hr h => ?_)
  · obtain ⟨v, ds, rfl, _⟩ := h
    rfl
  obtain ⟨v, ds, rfl, hd, hl8, hw, q⟩ := h
  refine ⟨_, pss_one (ps_ret (pe_join pe_str (pe_lc (own := [("part", 1)]) (g := gName 1) (tt := tYes) rfl scJn.nd (pi_tup (pv 0))
    (blkOk_by (N := ["parts", "part"]) (sc := defScope sJn) (by decide +kernel))
    (fun _ _ _ _ _ => pg_name (i := 1) scJn.nd rfl (.inl rfl)) (fun _ _ _ _ _ => pts_nil)
    (fun _ _ _ _ _ => pe_callTy call_strW (by rfl) T.str (by decide +kernel) (pa_cons (pv 1) pa_nil))))), ?_⟩
  obtain ⟨a, xs, rfl, hs, ha⟩ := dp_tup_inv hd
  have hl := dpAll_len ha
  refine ⟨⟨_, rfl⟩, _, rfl, a, rfl, ⟨_, hs⟩, fun D nD => lc_tup (K := K) (a := a) (xs := xs) (fun i H' => Same H H' ∧ H' D = some (.lst (((ds.take i).map strD).map V.str))) ⟨same_new nD _, upd_same⟩ (fun i H' _ ⟨s1, _⟩ => Same.tup s1 hs) ?_ ?_⟩
  · rintro i x H1 hx ⟨s1, h1⟩
    obtain ⟨di, hdi, hxd⟩ := dpAll_get ha hx
    have mdi := List.mem_of_getElem? hdi
    refine ⟨rfl, ?_⟩
    dsimp only [tYes]
    rw [if_pos rfl]
    refine ⟨_, rfl, ?_⟩
    dsimp only [tNil]
    refine rStrW_of (K := K) hxd (hw _ mdi) ⟨_, h1, ?_, same_upd s1 nD _, ?_⟩
    · rw [List.length_map, List.length_map]
      refine Nat.lt_of_le_of_lt (m := 8) ?_ (by decide)
      exact Nat.le_trans (by rw [List.length_take]; omega) hl8
    · rw [upd_same, take_snoc hdi]
      simp
  · rintro H1 ⟨s1, h1⟩
    rw [hl, List.take_length] at h1
    refine ⟨_, D, ds.map strD, rfl, rfl, .inl (SqL.of h1), ?_, q _ s1⟩
    have := sum_len hw
    have e : (PySem.Str.ofString " ").length = 1 := by decide
    rw [e, List.length_map]
    omega
end
theorem inS_short {d : PyData} {zs : List Str} (h : inS d zs = true) (hz : ∀ z ∈ zs, z.length ≤ 9) : ∃ z, d = .str z ∧ z.length ≤ 9 := by
  cases d with
  | str z =>
    have h' : zs.any (· == z) = true := h
    obtain ⟨y, m, e⟩ := List.any_eq_true.mp h'
    have e' : y = z := by simpa using e
    exact ⟨z, rfl, hz z (e' ▸ m)⟩
  | _ => cases h
def okP (d : PyData) : Prop := (∃ z, d = .str z ∧ z.length ≤ 9) ∨ ∃ i : Int, d = .int i ∧ 0 ≤ i ∧ i ≤ longest
theorem okP_W {d : PyData} (h : okP d) : okW d := by
  rcases h with ⟨z, rfl, h⟩ | h
  · exact .inl ⟨z, rfl, by omega⟩
  · exact .inr h
theorem intIn_okP {d : PyData} {lo hi : Int} (h : intIn d lo hi = true) (h0 : 0 ≤ lo) (h1 : hi ≤ longest) : okP d := by
  cases d with
  | int i =>
    have h' : (decide (lo ≤ i) && decide (i ≤ hi)) = true := h
    rw [Bool.and_eq_true, decide_eq_true_iff, decide_eq_true_iff] at h'
    exact .inr ⟨i, rfl, by omega, by omega⟩
  | _ => cases h
theorem term_okP {d : PyData} (h : isTerm d = true) : okP d := by
  have h' : (inS d vars || intIn d 0 15) = true := h
  rcases Bool.or_eq_true _ _ ▸ h' with h | h
  · exact .inl (inS_short h (by decide))
  · exact intIn_okP h (by decide) (by decide)
theorem part_okP {d : PyData} {r : Str} (h : isPart d r = true) : okP d := by
  unfold isPart at h
  split at h
  · exact .inl (inS_short h (by decide))
  split at h
  · exact term_okP h
  split at h
  · exact .inl (inS_short h (by decide))
  split at h
  · exact intIn_okP h (by decide) (by decide)
  split at h
  · exact intIn_okP h (by decide) (by decide)
  · exact intIn_okP h (by decide) (by decide)
theorem parts_okP : ∀ {ps : List PyData} {rs : List Str}, ps.length = rs.length → allParts ps rs = true → ∀ p ∈ ps, okP p
  | [], _, _, _ => fun p m => nomatch m
  | p :: ps, [], l, _ => by simp at l
  | p :: ps, r :: rs, l, h => by
    have h' : isPart p r = true ∧ allParts ps rs = true := by
      simpa [allParts] using h
    intro x m
    rcases List.mem_cons.mp m with rfl | m
    · exact part_okP h'.1
    · exact parts_okP (by simpa using l) h'.2 x m
theorem word_short {z kind : Str} {rs : List Str} (h : rolesZ z kind = some rs) : z.length ≤ 9 := by
  unfold rolesZ at h
  repeat' split at h
  all_goals first | (subst_vars; decide) | (cases h)
theorem word_ask {kind : Str} {rs : List Str} (h : rolesZ "ask" kind = some rs) : rs = (["sign", "term", "variable"] : List Str) := by
  unfold rolesZ at h
  rw [if_neg (by decide +kernel), if_neg (by decide +kernel), if_neg (by decide +kernel)] at h
  split at h
  · rw [if_pos rfl] at h
    cases h
    rfl
  · rw [if_neg (by decide +kernel), if_neg (by decide +kernel)] at h
    cases h
/-- the middle word of an ask -/
def askW (g : Str) (t : PyData) : PyData := if g = "=" then t else .str ((("x" : Str) ++ g) ++ strD t)
/-- the line of a statement without bodies -/
def plainT (s : PyData) : Str := match s with
  | .tuple [.str z, .str g, t, x] => if z = "ask" then joinD [.str z, askW g t, x] else joinD [.str z, .str g, t, x]
  | .tuple ds => joinD ds
  | _ => Str.empty
theorem plainT_ask {g : Str} {t x : PyData} : plainT (.tuple [.str "ask", .str g, t, x]) = joinD [.str "ask", askW g t, x] := by
  simp [plainT]
theorem plainT_no {z : Str} {ps : List PyData} (h : ¬ z = "ask") : plainT (.tuple (.str z :: ps)) = joinD (.str z :: ps) := by
  unfold plainT
  split
  · rename_i z' g t x e
    injection e with e; injection e with e1 e2; injection e1 with e1
    subst e1
    rw [if_neg h, e2]
  · rename_i e
    injection e with e
    rw [e]
  · rename_i h1 h2
    exact absurd rfl (h2 _)
theorem plain_cases {s : PyData} {k : Str} (h : isPlain s k = true) : (∃ z ps, s = .tuple (.str z :: ps) ∧ ¬ z = "ask" ∧ z.length ≤ 9 ∧ ps.length ≤ 3 ∧ ∀ p ∈ ps, okP p) ∨ ∃ g t x, s = .tuple [.str "ask", .str g, t, x] ∧ g.length ≤ 9 ∧ okP t ∧ okP x := by
  obtain ⟨z, ps, rs, rfl, hz, hl, hp⟩ := plain_inv h
  by_cases c : z = "ask"
  · subst c
    have e := word_ask hz
    subst e
    match ps, hl, hp with
    | [a, b, x], _, hp =>
      have h' : isPart a "sign" = true ∧ isPart b "term" = true ∧ isPart x "variable" = true := by simpa [allParts] using hp
      rw [part_sign] at h'
      obtain ⟨g, rfl, hg⟩ := inS_short h'.1 (by decide)
      exact .inr ⟨g, b, x, rfl, hg, part_okP h'.2.1, part_okP h'.2.2⟩
  · exact .inl ⟨z, ps, rfl, c, word_short hz, by have := roles_short hz; omega, parts_okP hl hp⟩
theorem strD_short {d : PyData} (h : okP d) : (strD d).length ≤ 31 := by
  rcases h with ⟨z, rfl, h⟩ | ⟨i, rfl, h0, h1⟩
  · exact Nat.le_trans h (by decide)
  · refine PyProof.Rows.toString_length_le (k := 31) h0 (by decide) ?_
    have : longest = 10 ^ 30 := by decide
    omega
theorem len_app (a b : Str) : (a ++ b).length = a.length + b.length := by
  show (a.cps ++ b.cps).size = _
  rw [Array.size_append]
  rfl
theorem fmt_of {K : PySem.W.Frag} {H H' : Hp} {v : V} {d : PyData} {R : VK} (hd : Dp K H' v d) (ho : okP d) (q : R (.str (strD d)) H) : (∃ y : Str, v = .str y ∧ y.length ≤ sizeLine ∧ R (.str y) H) ∨ ∃ i : Int, v = .int i ∧ i.natAbs.log2 < 1920 ∧ R (.str (Str.ofString (toString i))) H := by
  rcases ho with ⟨z, rfl, h⟩ | ⟨i, rfl, h0, h1⟩
  · cases hd
    exact .inl ⟨z, rfl, Nat.le_trans h (by decide), q⟩
  · cases hd
    exact .inr ⟨i, rfl, wait_log h0 h1, q⟩
def spPL (K : PySem.W.Frag) : Sp := fun vs H Q _ => ∃ (v : V) (d : PyData) (k : Str), vs = [v] ∧ Dp K H v d ∧ isPlain d k = true ∧ ∀ H', Same H H' → Q (.str (plainT d)) H'
section
variable {P : Program} {w : World} {K : PySem.W.Frag} {mg : Str → Option Value} {base : Heap}
theorem scPL : FnScope ["statement", "word", "sign", "term", "variable"] ["statement"] (defScope sPL) := ⟨rfl, rfl, rfl, by decide +kernel, rfl, by decide +kernel, by decide +kernel⟩
theorem ok_PL {f : Addr} {fd : FuncData} (F : Fun K "plain_line" "plain_line" sPL f fd) (CJ : Cal P w K mg base 1 "joined" ["parts"] (spJn K)) : FnOk P w K mg base CX0 2 f fd ["statement"] (spPL K) := by
  refine F.ok scPL (fun vs H Q E h => ?_) (fun cdv A outer s H vs Q E hr h => ?_)
  · obtain ⟨v, d, k, rfl, _⟩ := h
    rfl
  obtain ⟨v, d, k, rfl, hd, hp, q⟩ := h
  refine ⟨_, pss_cons (ps_if (pt_cmpR op_ne (pe_ix ix_tup (pv 0) pe_int (fun _ _ => rfl)) pe_str (nomark _)) (pss_one (ps_ret (pe_call CJ.G hr rfl CJ.m CJ.kp CJ.b .nil pass0 (pa_cons (pv 0) pa_nil)))) pss_nil)
    (pss_cons (ps_asg (pv 0) (pg_tup (by rfl) (pgs_cons (pg_name (i := 1) scPL.nd rfl (.inl rfl)) (pgs_cons (pg_name (i := 2) scPL.nd rfl (.inl rfl)) (pgs_cons (pg_name (i := 3) scPL.nd rfl (.inl rfl)) (pgs_cons (pg_name (i := 4) scPL.nd rfl (.inl rfl)) pgs_nil))))))
    (pss_one (ps_ret (pe_call CJ.G hr rfl CJ.m CJ.kp CJ.b .nil pass0 (pa_cons (pe_tup (pa_cons (pv 1) (pa_cons (pe_ifExp (pt_cmpR op_eq (pv 2) pe_str (nomark _)) (pv 3) (pe_joined (.cons pe_str (.cons (pe_fmt (pv 2)) (.cons (pe_fmt (pv 3)) .nil))))) (pa_cons (pv 4) pa_nil)))) pa_nil))))), ?_⟩
  rcases plain_cases hp with ⟨z, ps, rfl, hz, lz, lp, hps⟩ | ⟨g, t, x, rfl, lg, ht, hx⟩
  · rw [plainT_no hz] at q
    have hd' := hd
    obtain ⟨a, xs, rfl, hs, ha⟩ := dp_tup_inv hd
    cases ha with
    | cons h0 hr' =>
      cases h0
      refine ⟨_, rfl, a, _, _, _, rfl, rfl, hs, atI_nat (j := 0) rfl, rfl, _, rfl, ?_⟩
      refine ite2 (fun _ => ?_) (fun c => absurd ?_ c)
      · refine ⟨_, rfl, _, _, rfl, hd', by rw [List.length_cons]; omega, ?_, q⟩
        intro d m
        rcases List.mem_cons.mp m with rfl | m
        · exact .inl ⟨z, rfl, by omega⟩
        · exact okP_W (hps d m)
      · rw [decide_eq_false (fun e => hz (by injection e))]
        rfl
  · rw [plainT_ask] at q
    obtain ⟨a, xs, rfl, hs, ha⟩ := dp_tup_inv hd
    obtain ⟨x0, x1, x2, x3, rfl, h0, h1, h2, h3⟩ := dp_four ha
    cases h0
    cases h1
    refine ⟨_, rfl, a, _, _, _, rfl, rfl, hs, atI_nat (j := 0) rfl, rfl, _, rfl, ?_⟩
    refine ite2 (fun c => absurd c ?_) (fun _ => ?_)
    · rw [decide_eq_true rfl]
      decide
    refine ⟨_, rfl, a, _, rfl, hs, rfl, ?_⟩
    refine ⟨_, _, rfl, _, _, rfl, _, _, rfl, _, _, rfl, rfl, ?_⟩
    refine ⟨_, rfl, ?_⟩
    have okA : ∀ d ∈ [PyData.str "ask", askW g t, x], okW d := by
      intro d m
      simp only [List.mem_cons, List.not_mem_nil, or_false] at m
      rcases m with rfl | rfl | rfl
      · exact .inl ⟨_, rfl, by decide⟩
      · unfold askW
        split
        · exact okP_W ht
        · refine .inl ⟨_, rfl, ?_⟩
          have e : (("x" : Str) ++ g ++ strD t).length = 1 + g.length + (strD t).length := by
            rw [len_app, len_app]
            rfl
          have := strD_short ht
          omega
      · exact okP_W hx
    by_cases c : g = "="
    · subst c
      have eA : askW "=" t = t := if_pos rfl
      rw [eA] at q okA
      refine ⟨_, rfl, rfl, _, rfl, strT ?_⟩
      refine ⟨_, rfl, _, rfl, (by show 3 ≤ sizeLine; decide), fun p np => ?_⟩
      have s1 := same_new np (HO.tup [V.str "ask", x2, x3])
      exact ⟨_, _, rfl, .tup (SqT.of upd_same) (.cons (.str _) (.cons (dp_mono s1 _ _ h2) (.cons (dp_mono s1 _ _ h3) .nil))), (by show 3 ≤ 8; decide), okA, fun H' s' => q _ (s1.trans s')⟩
    · have eA : askW g t = .str ((("x" : Str) ++ g) ++ strD t) := if_neg c
      rw [eA] at q okA
      refine ⟨_, rfl, rfl, _, rfl, strF c ?_⟩
      have big : ∀ n : Nat, n ≤ 100 → n ≤ sizeLine := fun n h => Nat.le_trans h (by decide)
      have e0 : Str.empty ++ ("x" : Str) = "x" := by decide +kernel
      have l1 : ("x" : Str).length = 1 := by decide +kernel
      have l2 := strD_short ht
      dsimp only [tJs, tC]
      refine ⟨_, rfl, ?_, ?_⟩
      · rw [e0]; decide +kernel
      rw [e0]
      refine ⟨_, rfl, .inl ⟨g, rfl, big _ (by omega), g, rfl, ?_, ?_⟩⟩
      · rw [len_app, l1]; exact big _ (by omega)
      refine ⟨_, rfl, ?_⟩
      have fin : ∀ y : Str, y = strD t → (("x" : Str) ++ g ++ y).length ≤ sizeLine := by
        rintro y rfl
        rw [len_app, len_app, l1]; exact big _ (by omega)
      have fin2 : ∀ (y : Str) (p : Addr), y = strD t → H p = none → spJn K [V.ref p] (upd H p (HO.tup [V.str "ask", V.str ("x" ++ g ++ y), x3])) Q E0 := by
        rintro y p rfl np
        have s1 := same_new np (HO.tup [V.str "ask", V.str ("x" ++ g ++ strD t), x3])
        exact ⟨_, _, rfl, .tup (SqT.of upd_same) (.cons (.str _) (.cons (.str _) (.cons (dp_mono s1 _ _ h3) .nil))), (by show 3 ≤ 8; decide), okA, fun H' s' => q _ (s1.trans s')⟩
      rcases ht with ⟨z, rfl, hz⟩ | ⟨i, rfl, hi0, hi1⟩
      · cases h2
        exact .inl ⟨z, rfl, big _ (by omega), z, rfl, fin z rfl, _, rfl, (by show 3 ≤ sizeLine; decide), fun p np => fin2 z p rfl np⟩
      · cases h2
        exact .inr ⟨i, rfl, wait_log hi0 hi1, _, rfl, fin _ rfl, _, rfl, (by show 3 ≤ sizeLine; decide), fun p np => fin2 _ p rfl np⟩
end
/-- the line that opens an if or a while -/
def condT (w : Str) (co : PyData) : Str := match co with
  | .tuple ds => joinD (.str w :: ds)
  | _ => Str.empty
def stT (g : PyData → List Str) (s : PyData) : List Str := match s with
  | .tuple [.str z, c, b] => if z = "while" then condT z c :: (g b ++ [("end" : Str)]) else [plainT s]
  | .tuple [.str z, c, b1, b2] => if z = "if" then condT z c :: (g b1 ++ (if isNil b2 = true then [] else ("else" : Str) :: g b2) ++ [("end" : Str)]) else [plainT s]
  | _ => [plainT s]
/-- the lines of a body -/
def bodyT : Nat → PyData → List Str
  | 0, _ => []
  | n + 1, .tuple ss => (ss.map (stT (bodyT n))).flatten
  | _ + 1, _ => []
theorem stT_plain {g : PyData → List Str} {z : Str} {ps : List PyData} (h1 : ¬ z = "if") (h2 : ¬ z = "while") : stT g (.tuple (.str z :: ps)) = [plainT (.tuple (.str z :: ps))] := by
  unfold stT
  split
  · rename_i z' c b e
    injection e with e; injection e with e1 e2; injection e1 with e1
    subst e1
    rw [if_neg h2]
  · rename_i z' c b1 b2 e
    injection e with e; injection e with e1 e2; injection e1 with e1
    subst e1
    rw [if_neg h1]
  · rfl
theorem stT_while {g : PyData → List Str} {c b : PyData} : stT g (.tuple [.str "while", c, b]) = condT "while" c :: (g b ++ [("end" : Str)]) := by
  simp [stT]
theorem stT_if {g : PyData → List Str} {c b1 b2 : PyData} : stT g (.tuple [.str "if", c, b1, b2]) = condT "if" c :: (g b1 ++ (if isNil b2 = true then [] else ("else" : Str) :: g b2) ++ [("end" : Str)]) := by
  simp [stT]
theorem flat_snoc {f : PyData → List Str} {ss : List PyData} {i : Nat} {s : PyData} (h : ss[i]? = some s) : ((ss.take (i + 1)).map f).flatten = ((ss.take i).map f).flatten ++ f s := by
  rw [take_snoc h]
  simp
/-- so many lines, each so long -/
def okT (c : Nat) (ys : List Str) : Prop := ys.length ≤ 3 * c ∧ ∀ y ∈ ys, y.length ≤ 600
theorem glue_len (sep : Str) (hs : sep.length ≤ 1) : ∀ (ys : List Str) (acc : Array Nat), (List.foldl (fun acc (p : Str) => acc ++ sep.cps ++ p.cps) acc ys).size ≤ acc.size + (ys.map (·.length)).sum + ys.length
  | [], acc => by simp
  | y :: r, acc => by
    have ih := glue_len sep hs r (acc ++ sep.cps ++ y.cps)
    rw [List.foldl_cons]
    refine Nat.le_trans ih ?_
    rw [Array.size_append, Array.size_append]
    have e1 : sep.cps.size = sep.length := rfl
    have e2 : y.cps.size = y.length := rfl
    simp only [List.map_cons, List.sum_cons, List.length_cons]
    omega
theorem join_len {ds : List PyData} (h : ∀ d ∈ ds, okW d) (l : ds.length ≤ 8) : (joinD ds).length ≤ 600 := by
  have hs := sum_len h
  have e : (joinD ds).length ≤ ((ds.map strD).map (·.length)).sum + ds.length := by
    show (List.foldl (fun acc (p : Str) => acc ++ (" " : Str).cps ++ p.cps) ((ds.map strD).headD Str.empty).cps (List.drop 1 (ds.map strD))).size ≤ _
    refine Nat.le_trans (glue_len " " (by decide +kernel) _ _) ?_
    cases ds with
    | nil => simp [Str.empty]
    | cons d r =>
      have e2 : (strD d).cps.size = (strD d).length := rfl
      simp only [List.map_cons, List.headD_cons, List.drop_succ_cons, List.drop_zero, List.sum_cons, List.length_cons, List.length_map]
      omega
  omega
theorem plainT_len {d : PyData} {k : Str} (h : isPlain d k = true) : (plainT d).length ≤ 600 := by
  rcases plain_cases h with ⟨z, ps, rfl, hz, lz, lp, hps⟩ | ⟨g, t, x, rfl, lg, ht, hx⟩
  · rw [plainT_no hz]
    refine join_len (fun d m => ?_) (by rw [List.length_cons]; omega)
    rcases List.mem_cons.mp m with rfl | m
    · exact .inl ⟨z, rfl, by omega⟩
    · exact okP_W (hps d m)
  · rw [plainT_ask]
    refine join_len (fun d m => ?_) (by show 3 ≤ 8; decide)
    simp only [List.mem_cons, List.not_mem_nil, or_false] at m
    rcases m with rfl | rfl | rfl
    · exact .inl ⟨_, rfl, by decide⟩
    · unfold askW
      split
      · exact okP_W ht
      · refine .inl ⟨_, rfl, ?_⟩
        have l1 : ("x" : Str).length = 1 := by decide +kernel
        have := strD_short ht
        rw [len_app, len_app, l1]
        omega
    · exact okP_W hx
theorem cond_three {co : PyData} (h : isCond co = true) : ∃ x y z, co = .tuple [x, y, z] ∧ okP x ∧ okP y ∧ okP z := by
  match co, h with
  | .tuple [x, y, z], h =>
    have h' : (inS x vars && inS y signs && isTerm z) = true := h
    rw [Bool.and_eq_true, Bool.and_eq_true] at h'
    exact ⟨x, y, z, rfl, .inl (inS_short h'.1.1 (by decide)), .inl (inS_short h'.1.2 (by decide)), term_okP h'.2⟩
theorem cond_okW {w : Str} {x y z : PyData} (hw : w.length ≤ 9) (h1 : okP x) (h2 : okP y) (h3 : okP z) : ∀ d ∈ [PyData.str w, x, y, z], okW d := by
  intro d m
  simp only [List.mem_cons, List.not_mem_nil, or_false] at m
  rcases m with rfl | rfl | rfl | rfl
  · exact .inl ⟨_, rfl, by omega⟩
  · exact okP_W h1
  · exact okP_W h2
  · exact okP_W h3
theorem condT_len {w : Str} {co : PyData} (hw : w.length ≤ 9) (h : isCond co = true) : (condT w co).length ≤ 600 := by
  obtain ⟨x, y, z, rfl, h1, h2, h3⟩ := cond_three h
  exact join_len (cond_okW hw h1 h2 h3) (by show 4 ≤ 8; decide)
theorem st_okT {k : Str} {n c : Nat} {s : PyData} {g : PyData → List Str} (hg : ∀ d c, bodyN k n d = some c → okT c (g d)) (h : stN k n s = some c) : okT c (stT g s) := by
  have l1 : ("end" : Str).length ≤ 600 := by decide +kernel
  have l2 : ("else" : Str).length ≤ 600 := by decide +kernel
  rcases st_shape h with ⟨z, ps, rfl, h1, h2, hp, rfl⟩ | ⟨co, bb, c', rfl, hco, hb, rfl⟩ | ⟨co, b1, b2, c1, c2, rfl, hco, hb1, hb2, rfl⟩
  · rw [stT_plain h1 h2]
    refine ⟨by show 1 ≤ 3; decide, fun y m => ?_⟩
    rw [List.mem_singleton] at m
    subst m
    exact plainT_len hp
  · rw [stT_while]
    obtain ⟨a1, a2⟩ := hg _ _ hb
    refine ⟨by simp only [List.length_cons, List.length_append, List.length_nil]; omega, fun y m => ?_⟩
    simp only [List.mem_cons, List.mem_append, List.not_mem_nil, or_false] at m
    rcases m with rfl | m | rfl
    · exact condT_len (by decide) hco
    · exact a2 _ m
    · exact l1
  · rw [stT_if]
    obtain ⟨a1, a2⟩ := hg _ _ hb1
    obtain ⟨b1', b2'⟩ := hg _ _ hb2
    have e : okT (c2 + 1) (if isNil b2 = true then [] else ("else" : Str) :: g b2) ∧ (if isNil b2 = true then [] else ("else" : Str) :: g b2).length ≤ 3 * c2 + 1 := by
      split
      · exact ⟨⟨by simp, fun y m => nomatch m⟩, by simp⟩
      · refine ⟨⟨by rw [List.length_cons]; omega, fun y m => ?_⟩, by rw [List.length_cons]; omega⟩
        rcases List.mem_cons.mp m with rfl | m
        · exact l2
        · exact b2' _ m
    obtain ⟨⟨_, e2⟩, e3⟩ := e
    generalize (if isNil b2 = true then [] else ("else" : Str) :: g b2) = w2 at e2 e3 ⊢
    refine ⟨by simp only [List.length_cons, List.length_append, List.length_nil]; omega, fun y m => ?_⟩
    simp only [List.mem_cons, List.mem_append, List.not_mem_nil, or_false] at m
    rcases m with rfl | (m | m) | rfl
    · exact condT_len (by decide) hco
    · exact a2 _ m
    · exact e2 _ m
    · exact l1
theorem flat_okT {k : Str} {n : Nat} {g : PyData → List Str} (hg : ∀ d c, bodyN k n d = some c → okT c (g d)) : ∀ {ss : List PyData} {c : Nat}, sumO (ss.map (stN k n)) = some c → okT c ((ss.map (stT g)).flatten)
  | [], _, _ => ⟨by simp, fun y m => by simp at m⟩
  | s :: r, c, h => by
    simp only [List.map_cons, sumO] at h
    cases e1 : stN k n s with
    | none => rw [e1, none_addO] at h; cases h
    | some a =>
      cases e2 : sumO (r.map (stN k n)) with
      | none => rw [e2, addO_none] at h; cases h
      | some b =>
        rw [e1, e2] at h
        have e : a + b = c := by injection h
        obtain ⟨a1, a2⟩ := st_okT hg e1
        obtain ⟨b1, b2⟩ := flat_okT hg e2
        rw [List.map_cons, List.flatten_cons]
        refine ⟨by rw [List.length_append]; omega, fun y m => ?_⟩
        rcases List.mem_append.mp m with m | m
        · exact a2 _ m
        · exact b2 _ m
theorem body_okT {k : Str} : ∀ (n : Nat) (d : PyData) (c : Nat), bodyN k n d = some c → okT c (bodyT n d)
  | 0, d, c, h => ⟨by simp [bodyT], fun y m => by simp [bodyT] at m⟩
  | n + 1, d, c, h => by
    obtain ⟨ss, rfl⟩ := body_tuple h
    rw [bodyN_tup] at h
    exact flat_okT (body_okT n) h
theorem body_take {k : Str} {n c : Nat} {ss : List PyData} (h : bodyN k (n + 1) (.tuple ss) = some c) (i : Nat) : okT c (bodyT (n + 1) (.tuple (ss.take i))) := by
  have e : ∃ c', bodyN k (n + 1) (.tuple (ss.take i)) = some c' ∧ c' ≤ c := by
    rw [bodyN_tup] at h ⊢
    have e2 : ss = ss.take i ++ ss.drop i := (List.take_append_drop i ss).symm
    rw [e2, List.map_append, sumO_append] at h
    cases e3 : sumO ((ss.take i).map (stN k n)) with
    | none => rw [e3, none_addO] at h; cases h
    | some a =>
      cases e4 : sumO ((ss.drop i).map (stN k n)) with
      | none => rw [e4, addO_none] at h; cases h
      | some b =>
        rw [e3, e4] at h
        have e : a + b = c := by injection h
        exact ⟨a, rfl, by omega⟩
  obtain ⟨c', h1, h2⟩ := e
  obtain ⟨a1, a2⟩ := body_okT (n + 1) _ _ h1
  exact ⟨by omega, a2⟩
def spBL (K : PySem.W.Frag) (n : Nat) : Sp := fun vs H Q _ => ∃ (v : V) (d : PyData) (k : Str) (c : Nat), vs = [v] ∧ Dp K H v d ∧ bodyN k n d = some c ∧ c ≤ 24 ∧
  ∀ H' p, Same H H' → H p = none → H' p = some (.lst ((bodyT n d).map V.str)) → Q (.ref p) H'
def spSL (K : PySem.W.Frag) (n : Nat) : Sp := fun vs H Q _ => ∃ (v : V) (d : PyData) (k : Str) (c : Nat), vs = [v] ∧ Dp K H v d ∧ stN k n d = some c ∧ c ≤ 24 ∧
  ∀ H' p, Same H H' → H p = none → H' p = some (.lst ((stT (bodyT n) d).map V.str)) → Q (.ref p) H'
section
variable {P : Program} {w : World} {K : PySem.W.Frag} {mg : Str → Option Value} {base : Heap}
theorem scBL : FnScope ["body", "lines", "statement"] ["body"] (defScope sBL) := ⟨rfl, rfl, rfl, by decide +kernel, rfl, by decide +kernel, by decide +kernel⟩
theorem ok_BL {f : Addr} {fd : FuncData} {lv n : Nat} (F : Fun K "body_lines" "body_lines" sBL f fd) (CS : Cal P w K mg base lv "statement_lines" ["statement"] (fun vs H Q E => n ≠ 0 ∧ spSL K (n - 1) vs H Q E)) :
    FnOk P w K mg base CX0 (lv + 1) f fd ["body"] (spBL K n) := by
  refine F.ok scBL (fun vs H Q E h => ?_) (fun cdv A outer s H vs Q E hr h => ?_)
  · obtain ⟨v, d, k, c, rfl, _⟩ := h
    rfl
  obtain ⟨v, d, k, c, rfl, hd, hbc, hc, q⟩ := h
  refine ⟨_, pss_cons (ps_set (i := 1) scBL.nd rfl (.inl rfl) (pe_lst pa_nil))
    (pss_cons (ps_for PassesOwn.never rfl (pi_tup (pv 0)) (pg_name (i := 2) scBL.nd rfl (.inl rfl))
      (pss_one (ps_expr (pe_bm PySem.F.plainAttrs_list PySem.F.slot_list_extend PySem.F.type_list_extend mt_extend (pv 1) (pa_cons (pe_call CS.G hr rfl CS.m CS.kp CS.b .nil pass0 (pa_cons (pv 2) pa_nil)) pa_nil)))))
    (pss_one (ps_ret (pv 1)))), ?_⟩
  obtain ⟨ss, rfl⟩ := body_tuple hbc
  obtain ⟨a, xs, rfl, hs, ha⟩ := dp_tup_inv hd
  have hl := dpAll_len ha
  refine ⟨(by show 0 ≤ sizeLine; decide), fun l nl => ?_⟩
  have s0 : Same H (upd H l (.lst [])) := same_new nl _
  refine ⟨_, rfl, a, rfl, ⟨_, Same.tup s0 hs⟩, for_tup (K := K) (a := a) (xs := xs) (fun i σ H' => ∃ (s2 : Option V), σ = [some (.ref a), some (.ref l), s2] ∧ Same H H' ∧ H' l = some (.lst ((bodyT n (.tuple (ss.take i))).map V.str)))
    ⟨none, rfl, s0, by rw [upd_same]; cases n <;> rfl⟩ (fun i σ H' _ ⟨_, _, s1, _⟩ => Same.tup s1 hs) ?_ ?_⟩
  · rintro i x σ H1 hx ⟨s2, rfl, s1, hl1⟩
    obtain ⟨si, hsi, hxd⟩ := dpAll_get ha hx
    have msi := List.mem_of_getElem? hsi
    cases n with
    | zero =>
      cases ss with
      | nil => cases msi
      | cons _ _ => cases hbc
    | succ n =>
      obtain ⟨ai, hai, lai⟩ := sum_le hbc msi
      refine ⟨_, rfl, .inl ⟨rfl, _, SqL.of hl1⟩, _, rfl, by omega, x, si, k, ai, rfl, dp_mono s1 _ _ hxd, hai, by omega, fun H2 p s2' np hp => ?_⟩
      have hp : H2 p = some (.lst ((stT (bodyT n) si).map V.str)) := hp
      have hl2 := s2' _ _ hl1
      have one := body_take hbc (i + 1)
      have esn : bodyT (n + 1) (.tuple (ss.take (i + 1))) = bodyT (n + 1) (.tuple (ss.take i)) ++ stT (bodyT n) si := flat_snoc hsi
      rw [esn] at one
      have ltot := one.1
      rw [List.length_append] at ltot
      refine ⟨l, p, _, _, rfl, rfl, hl2, hp, ?_, _, rfl, same_upd (s1.trans s2') nl _, ?_⟩
      · rw [List.length_map, List.length_map]
        exact Nat.le_of_lt (Nat.lt_of_le_of_lt (by omega : _ ≤ 1000) (by decide))
      · rw [upd_same, esn, List.map_append]
  · rintro σ H1 ⟨s2, rfl, s1, hl1⟩
    rw [hl, List.take_length] at hl1
    exact ⟨_, rfl, q _ _ s1 nl hl1⟩
end
section
variable {P : Program} {w : World} {K : PySem.W.Frag} {mg : Str → Option Value} {base : Heap}
theorem scSL : FnScope ["statement", "bodies", "word", "condition", "lines"] ["statement"] (defScope sSL) := ⟨rfl, rfl, rfl, by decide +kernel, rfl, by decide +kernel, by decide +kernel⟩
theorem ok_SL {f : Addr} {fd : FuncData} {lv n : Nat} (F : Fun K "statement_lines" "statement_lines" sSL f fd) (T : Gs K mg) (hlv : 2 ≤ lv) (CB : Cal P w K mg base 1 "bodies_of" ["statement"] (spBods K)) (CP : Cal P w K mg base 2 "plain_line" ["statement"] (spPL K)) (CJ : Cal P w K mg base 1 "joined" ["parts"] (spJn K)) (CL : Cal P w K mg base lv "body_lines" ["body"] (spBL K n)) :
    FnOk P w K mg base CX0 (lv + 1) f fd ["statement"] (spSL K n) := by
  refine F.ok scSL (fun vs H Q E h => ?_) (fun cdv A outer s H vs Q E hr h => ?_)
  · obtain ⟨v, d, k, c, rfl, _⟩ := h
    rfl
  obtain ⟨v, d, k, c, rfl, hd, hst, hc, q⟩ := h
  have hr2 : Room 2 _ := hr.mono hlv
  have hr1 : Room 1 _ := hr.mono (by omega)
  refine ⟨_, pss_cons (ps_set (i := 1) scSL.nd rfl (.inl rfl) (pe_call CB.G hr1 rfl CB.m CB.kp CB.b .nil pass0 (pa_cons (pv 0) pa_nil)))
    (pss_cons (ps_if (pt_cmpR op_eq (pe_callB call_len_seq (by rfl) T.len PySem.boot_len (pa_cons (pv 1) pa_nil)) pe_int (nomark _)) (pss_one (ps_ret (pe_lst (pa_cons (pe_call CP.G hr2 rfl CP.m CP.kp CP.b .nil pass0 (pa_cons (pv 0) pa_nil)) pa_nil)))) pss_nil)
    (pss_cons (ps_asg (pe_slice sl_tup (pv 0) po_none (po_some pe_int)) (pg_tup (by rfl) (pgs_cons (pg_name (i := 2) scSL.nd rfl (.inl rfl)) (pgs_cons (pg_name (i := 3) scSL.nd rfl (.inl rfl)) pgs_nil))))
    (pss_cons (ps_set (i := 4) scSL.nd rfl (.inl rfl) (pe_lst (pa_cons (pe_call CJ.G hr1 rfl CJ.m CJ.kp CJ.b .nil pass0 (pa_cons (pe_tup (pa_cons (pv 2) (StX.pa_star (pv 3) pa_nil))) pa_nil)) pa_nil)))
    (pss_cons (ps_expr (pe_bm PySem.F.plainAttrs_list PySem.F.slot_list_extend PySem.F.type_list_extend mt_extend (pv 4) (pa_cons (pe_call CL.G hr rfl CL.m CL.kp CL.b .nil pass0 (pa_cons (pe_ix ix_tup (pv 1) pe_int (fun _ _ => rfl)) pa_nil)) pa_nil)))
    (pss_cons (ps_if (PW.pt (pw_and (pt_cmpR op_eq (pe_callB call_len_seq (by rfl) T.len PySem.boot_len (pa_cons (pv 1) pa_nil)) pe_int (nomark _)) (pw_and1 (pt_cmpR op_gt (pe_callB call_len_seq (by rfl) T.len PySem.boot_len (pa_cons (pe_ix ix_tup (pv 1) pe_int (fun _ _ => rfl)) pa_nil)) pe_int (nomark _)))))
        (pss_cons (ps_expr (pe_bm PySem.F.plainAttrs_list PySem.F.slot_list_append PySem.F.type_list_append mt_append (pv 4) (pa_cons pe_str pa_nil)))
        (pss_one (ps_expr (pe_bm PySem.F.plainAttrs_list PySem.F.slot_list_extend PySem.F.type_list_extend mt_extend (pv 4) (pa_cons (pe_call CL.G hr rfl CL.m CL.kp CL.b .nil pass0 (pa_cons (pe_ix ix_tup (pv 1) pe_int (fun _ _ => rfl)) pa_nil)) pa_nil))))) pss_nil)
    (pss_cons (ps_expr (pe_bm PySem.F.plainAttrs_list PySem.F.slot_list_append PySem.F.type_list_append mt_append (pv 4) (pa_cons pe_str pa_nil)))
    (pss_one (ps_ret (pv 4))))))))), ?_⟩
  rcases st_shape hst with ⟨z, ps, rfl, h1, h2, hp, rfl⟩ | ⟨co, bb, c', rfl, hco, hb, rfl⟩ | ⟨co, b1, b2, c1, c2, rfl, hco, hb1, hb2, rfl⟩
  · refine ⟨_, rfl, v, z, ps, H, rfl, Same.refl H, hd, fun H1 b ys s1 hb hys => ?_⟩
    have eB : bodsOf (.tuple (.str z :: ps)) = [] := if_neg (fun e => e.elim h1 h2)
    rw [eB] at hys
    cases hys
    refine ⟨_, rfl, b, [], rfl, .inr hb, rfl, _, rfl, iteT ?_⟩
    refine ⟨_, rfl, v, _, k, rfl, dp_mono s1 _ _ hd, hp, fun H2 s2 => ⟨(by show 1 ≤ sizeLine; decide), fun p np => ?_⟩⟩
    refine q _ p ((s1.trans s2).trans (same_new np _)) ((s1.trans s2).free np) ?_
    rw [upd_same, stT_plain h1 h2]
    rfl
  · refine ⟨_, rfl, v, "while", [co, bb], H, rfl, Same.refl H, hd, fun H1 b ys s1 hbs hys => ?_⟩
    have eB : bodsOf (.tuple [.str "while", co, bb]) = [bb] := by rw [bods_while]; rfl
    rw [eB] at hys
    obtain ⟨y0, rfl, hy0⟩ : ∃ y0, ys = [y0] ∧ Dp K H y0 bb := by
      cases hys with
      | cons h t => cases t; exact ⟨_, rfl, h⟩
    obtain ⟨a, xs, rfl, hs, ha⟩ := dp_tup_inv hd
    obtain ⟨x0, x1, x2, d0, d1, d2, rfl, e3, h0, hx1, hx2⟩ := dp_three ha rfl
    injection e3 with e3 e4
    injection e4 with e4 e5
    injection e5 with e5 _
    subst e3 e4 e5
    cases h0
    obtain ⟨cx, cy, cz, rfl, o1, o2, o3⟩ := cond_three hco
    obtain ⟨ca, cxs, rfl, hcs, hca⟩ := dp_tup_inv hx1
    refine ⟨_, rfl, b, _, rfl, .inr hbs, rfl, _, rfl, ite2 (fun c => absurd (of_decide_eq_true c) (by simp)) (fun _ => ?_)⟩
    refine ⟨_, rfl, _, rfl, a, _, rfl, Same.tup s1 hs, (by show ¬ (HT.sIx 3 0 none = 0 ∧ HT.sIx 3 3 (some 2) = 3); decide), fun p np => ?_⟩
    have s2 : Same H1 (upd H1 p (.tup [.str "while", .ref ca])) := same_new np _
    have ep : (upd H1 p (.tup [.str "while", .ref ca])) p = some (.tup [.str "while", .ref ca]) := upd_same
    rw [show cutV [V.str "while", V.ref ca, x2] none (some 2) = [V.str "while", V.ref ca] from rfl]
    generalize upd H1 p (.tup [.str "while", .ref ca]) = H2 at s2 ep ⊢
    refine ⟨p, _, rfl, SqT.of ep, rfl, _, _, rfl, _, _, rfl, rfl, ?_⟩
    have s12 := s1.trans s2
    refine ⟨_, rfl, _, rfl, ca, cxs, rfl, .inl (Same.tup s12 hcs), ?_⟩
    have hcl : cxs.length = 3 := dpAll_len hca
    refine ⟨?_, fun t nt => ?_⟩
    · show ((cxs ++ []).length + 1) ≤ sizeLine
      rw [List.append_nil, hcl]
      decide
    rw [List.append_nil]
    have s3 : Same H2 (upd H2 t (.tup (.str "while" :: cxs))) := same_new nt _
    have et : (upd H2 t (.tup (.str "while" :: cxs))) t = some (.tup (.str "while" :: cxs)) := upd_same
    generalize upd H2 t (.tup (.str "while" :: cxs)) = H3 at s3 et ⊢
    have s13 := s12.trans s3
    refine ⟨_, _, rfl, .tup (SqT.of et) (.cons (.str _) (dpAll_mono s13 _ _ hca)), (by show 4 ≤ 8; decide), cond_okW (by decide) o1 o2 o3, fun H4 s4 => ?_⟩
    refine ⟨(by show 1 ≤ sizeLine; decide), fun l nl => ?_⟩
    have s14 := s13.trans s4
    have el : (upd H4 l (.lst [V.str (joinD [PyData.str "while", cx, cy, cz])])) l = some (.lst [V.str (joinD [PyData.str "while", cx, cy, cz])]) := upd_same
    have s5 : Same H4 (upd H4 l (.lst [V.str (joinD [PyData.str "while", cx, cy, cz])])) := same_new nl _
    generalize upd H4 l (.lst [V.str (joinD [PyData.str "while", cx, cy, cz])]) = H5 at s5 el ⊢
    have s15 := s14.trans s5
    have hbs5 : SqT K H5 b [y0] := Same.tup (s2.trans (s3.trans (s4.trans s5))) hbs
    refine ⟨_, rfl, .inl ⟨rfl, _, SqL.of el⟩, _, rfl, b, _, _, _, rfl, rfl, hbs5, atI_nat (j := 0) rfl, y0, bb, k, c', rfl, dp_mono s15 _ _ hy0, hb, by omega, fun H6 p6 s6 np6 hp6 => ?_⟩
    have el6 := s6 _ _ el
    obtain ⟨m1, m2⟩ := body_okT n _ _ hb
    refine ⟨l, p6, _, _, rfl, rfl, el6, hp6, ?_, ?_⟩
    · rw [List.length_map]
      exact Nat.le_of_lt (Nat.lt_of_le_of_lt (by show 1 + _ ≤ 1000; omega : _ ≤ 1000) (by decide))
    have nlH : H l = none := s14.free nl
    have s16 : Same H (upd H6 l (.lst ([V.str (joinD [PyData.str "while", cx, cy, cz])] ++ (bodyT n bb).map V.str))) := same_upd (s15.trans s6) nlH _
    have el7 : (upd H6 l (.lst ([V.str (joinD [PyData.str "while", cx, cy, cz])] ++ (bodyT n bb).map V.str))) l = some (.lst ([V.str (joinD [PyData.str "while", cx, cy, cz])] ++ (bodyT n bb).map V.str)) := upd_same
    have hbs7 : SqT K (upd H6 l (.lst ([V.str (joinD [PyData.str "while", cx, cy, cz])] ++ (bodyT n bb).map V.str))) b [y0] := Same.tup (same_upd (s2.trans (s3.trans (s4.trans (s5.trans s6)))) ((s2.trans (s3.trans s4)).free nl) _) hbs
    generalize upd H6 l (.lst ([V.str (joinD [PyData.str "while", cx, cy, cz])] ++ (bodyT n bb).map V.str)) = H7 at s16 el7 hbs7 ⊢
    refine ⟨_, rfl, b, _, rfl, .inr hbs7, rfl, _, rfl, ?_⟩
    refine ite2 (fun c => absurd (of_decide_eq_true c) (by simp)) (fun _ => iteF ?_)
    refine ⟨_, rfl, .inl ⟨rfl, _, SqL.of el7⟩, l, _, _, rfl, rfl, el7, ?_, _, rfl, q _ l (same_upd s16 nlH _) nlH ?_⟩
    · rw [List.length_append, List.length_map]
      exact Nat.lt_of_le_of_lt (by show 1 + _ ≤ 1000; omega : _ ≤ 1000) (by decide)
    · rw [upd_same, stT_while]
      simp [condT]
  · refine ⟨_, rfl, v, "if", [co, b1, b2], H, rfl, Same.refl H, hd, fun H1 b ys s1 hbs hys => ?_⟩
    have eB : bodsOf (.tuple [.str "if", co, b1, b2]) = [b1, b2] := by rw [bods_if]; rfl
    rw [eB] at hys
    obtain ⟨y0, y1, e0, e1, rfl, e2, hy0, hy1⟩ := dp_two hys rfl
    injection e2 with e2 e3
    injection e3 with e3 _
    subst e2 e3
    obtain ⟨a, xs, rfl, hs, ha⟩ := dp_tup_inv hd
    obtain ⟨x0, x1, x2, x3, rfl, h0, hx1, hx2, hx3⟩ := dp_four ha
    cases h0
    obtain ⟨cx, cy, cz, rfl, o1, o2, o3⟩ := cond_three hco
    obtain ⟨ca, cxs, rfl, hcs, hca⟩ := dp_tup_inv hx1
    refine ⟨_, rfl, b, _, rfl, .inr hbs, rfl, _, rfl, ite2 (fun c => absurd (of_decide_eq_true c) (by simp)) (fun _ => ?_)⟩
    refine ⟨_, rfl, _, rfl, a, _, rfl, Same.tup s1 hs, (by show ¬ (HT.sIx 4 0 none = 0 ∧ HT.sIx 4 4 (some 2) = 4); decide), fun p np => ?_⟩
    have s2 : Same H1 (upd H1 p (.tup [.str "if", .ref ca])) := same_new np _
    have ep : (upd H1 p (.tup [.str "if", .ref ca])) p = some (.tup [.str "if", .ref ca]) := upd_same
    rw [show cutV [V.str "if", V.ref ca, x2, x3] none (some 2) = [V.str "if", V.ref ca] from rfl]
    generalize upd H1 p (.tup [.str "if", .ref ca]) = H2 at s2 ep ⊢
    refine ⟨p, _, rfl, SqT.of ep, rfl, _, _, rfl, _, _, rfl, rfl, ?_⟩
    have s12 := s1.trans s2
    refine ⟨_, rfl, _, rfl, ca, cxs, rfl, .inl (Same.tup s12 hcs), ?_⟩
    have hcl : cxs.length = 3 := dpAll_len hca
    refine ⟨?_, fun t nt => ?_⟩
    · show ((cxs ++ []).length + 1) ≤ sizeLine
      rw [List.append_nil, hcl]
      decide
    rw [List.append_nil]
    have s3 : Same H2 (upd H2 t (.tup (.str "if" :: cxs))) := same_new nt _
    have et : (upd H2 t (.tup (.str "if" :: cxs))) t = some (.tup (.str "if" :: cxs)) := upd_same
    generalize upd H2 t (.tup (.str "if" :: cxs)) = H3 at s3 et ⊢
    have s13 := s12.trans s3
    refine ⟨_, _, rfl, .tup (SqT.of et) (.cons (.str _) (dpAll_mono s13 _ _ hca)), (by show 4 ≤ 8; decide), cond_okW (by decide) o1 o2 o3, fun H4 s4 => ?_⟩
    refine ⟨(by show 1 ≤ sizeLine; decide), fun l nl => ?_⟩
    have s14 := s13.trans s4
    have el : (upd H4 l (.lst [V.str (joinD [PyData.str "if", cx, cy, cz])])) l = some (.lst [V.str (joinD [PyData.str "if", cx, cy, cz])]) := upd_same
    have s5 : Same H4 (upd H4 l (.lst [V.str (joinD [PyData.str "if", cx, cy, cz])])) := same_new nl _
    generalize upd H4 l (.lst [V.str (joinD [PyData.str "if", cx, cy, cz])]) = H5 at s5 el ⊢
    have s15 := s14.trans s5
    have hbs5 : SqT K H5 b [y0, y1] := Same.tup (s2.trans (s3.trans (s4.trans s5))) hbs
    refine ⟨_, rfl, .inl ⟨rfl, _, SqL.of el⟩, _, rfl, b, _, _, _, rfl, rfl, hbs5, atI_nat (j := 0) rfl, y0, b1, k, c1, rfl, dp_mono s15 _ _ hy0, hb1, by omega, fun H6 p6 s6 np6 hp6 => ?_⟩
    have el6 := s6 _ _ el
    obtain ⟨m1, m2⟩ := body_okT n _ _ hb1
    refine ⟨l, p6, _, _, rfl, rfl, el6, hp6, ?_, ?_⟩
    · rw [List.length_map]
      exact Nat.le_of_lt (Nat.lt_of_le_of_lt (by show 1 + _ ≤ 1000; omega : _ ≤ 1000) (by decide))
    have nlH : H l = none := s14.free nl
    have s16 : Same H (upd H6 l (.lst ([V.str (joinD [PyData.str "if", cx, cy, cz])] ++ (bodyT n b1).map V.str))) := same_upd (s15.trans s6) nlH _
    have el7 : (upd H6 l (.lst ([V.str (joinD [PyData.str "if", cx, cy, cz])] ++ (bodyT n b1).map V.str))) l = some (.lst ([V.str (joinD [PyData.str "if", cx, cy, cz])] ++ (bodyT n b1).map V.str)) := upd_same
    have nl1 : H1 l = none := (s2.trans (s3.trans s4)).free nl
    have t17 : Same H1 (upd H6 l (.lst ([V.str (joinD [PyData.str "if", cx, cy, cz])] ++ (bodyT n b1).map V.str))) := same_upd (s2.trans (s3.trans (s4.trans (s5.trans s6)))) nl1 _
    have hbs7 : SqT K (upd H6 l (.lst ([V.str (joinD [PyData.str "if", cx, cy, cz])] ++ (bodyT n b1).map V.str))) b [y0, y1] := Same.tup (same_upd (s2.trans (s3.trans (s4.trans (s5.trans s6)))) ((s2.trans (s3.trans s4)).free nl) _) hbs
    generalize upd H6 l (.lst ([V.str (joinD [PyData.str "if", cx, cy, cz])] ++ (bodyT n b1).map V.str)) = H7 at s16 el7 hbs7 t17 ⊢
    refine ⟨_, rfl, b, _, rfl, .inr hbs7, rfl, _, rfl, ?_⟩
    refine ite2 (fun _ => ?_) (fun c => absurd (decide_eq_true (by simp)) c)
    obtain ⟨ss2, rfl⟩ := body_tuple hb2
    obtain ⟨a2, xs2, rfl, hs2, ha2⟩ := dp_tup_inv hy1
    have hl2 := dpAll_len ha2
    refine ⟨_, rfl, b, _, _, _, rfl, rfl, hbs7, atI_nat (j := 1) rfl, a2, xs2, rfl, .inr (Same.tup s16 hs2), _, _, rfl, rfl, _, rfl, ?_⟩
    by_cases z0 : ss2 = []
    · subst z0
      refine ite2 (fun c => ?_) (fun _ => ?_)
      · have c' : (0 : Int) < ((xs2.length : Nat) : Int) := of_decide_eq_true c
        have e : xs2.length = 0 := hl2
        omega
      refine ⟨_, rfl, .inl ⟨rfl, _, SqL.of el7⟩, l, _, _, rfl, rfl, el7, ?_, _, rfl, q _ l (same_upd s16 nlH _) nlH ?_⟩
      · rw [List.length_append, List.length_map]
        exact Nat.lt_of_le_of_lt (by show 1 + _ ≤ 1000; omega : _ ≤ 1000) (by decide)
      · rw [upd_same, stT_if]
        simp [condT, isNil]
    · have pos : 0 < xs2.length := by
        rw [hl2]
        exact List.length_pos_iff.mpr z0
      have hnil : isNil (.tuple ss2) = false := by
        cases ss2 with
        | nil => exact absurd rfl z0
        | cons _ _ => rfl
      obtain ⟨m3, m4⟩ := body_okT n _ _ hb2
      refine ite2 (fun _ => ?_) (fun c => absurd (decide_eq_true (by show (0 : Int) < ((xs2.length : Nat) : Int); omega)) c)
      refine ⟨_, rfl, .inl ⟨rfl, _, SqL.of el7⟩, l, _, _, rfl, rfl, el7, ?_, ?_⟩
      · rw [List.length_append, List.length_map]
        exact Nat.lt_of_le_of_lt (by show 1 + _ ≤ 1000; omega : _ ≤ 1000) (by decide)
      have s17 := same_upd s16 nlH (HO.lst (([V.str (joinD [PyData.str "if", cx, cy, cz])] ++ (bodyT n b1).map V.str) ++ [V.str "else"]))
      have el8 : (upd H7 l (.lst (([V.str (joinD [PyData.str "if", cx, cy, cz])] ++ (bodyT n b1).map V.str) ++ [V.str "else"]))) l = some (.lst (([V.str (joinD [PyData.str "if", cx, cy, cz])] ++ (bodyT n b1).map V.str) ++ [V.str "else"])) := upd_same
      have hbs8 : SqT K (upd H7 l (.lst (([V.str (joinD [PyData.str "if", cx, cy, cz])] ++ (bodyT n b1).map V.str) ++ [V.str "else"]))) b [y0, V.ref a2] := Same.tup (same_upd t17 nl1 _) hbs
      generalize upd H7 l (.lst (([V.str (joinD [PyData.str "if", cx, cy, cz])] ++ (bodyT n b1).map V.str) ++ [V.str "else"])) = H8 at s17 el8 hbs8 ⊢
      refine ⟨_, rfl, .inl ⟨rfl, _, SqL.of el8⟩, _, rfl, b, _, _, _, rfl, rfl, hbs8, atI_nat (j := 1) rfl, .ref a2, .tuple ss2, k, c2, rfl, dp_mono s17 _ _ hy1, hb2, by omega, fun H9 p9 s9 np9 hp9 => ?_⟩
      have el9 := s9 _ _ el8
      refine ⟨l, p9, _, _, rfl, rfl, el9, hp9, ?_, ?_⟩
      · rw [List.length_append, List.length_append, List.length_map, List.length_map]
        exact Nat.le_of_lt (Nat.lt_of_le_of_lt (by show 1 + _ + 1 + _ ≤ 1000; omega : _ ≤ 1000) (by decide))
      have s19 := same_upd (s17.trans s9) nlH (HO.lst ((([V.str (joinD [PyData.str "if", cx, cy, cz])] ++ (bodyT n b1).map V.str) ++ [V.str "else"]) ++ (bodyT n (.tuple ss2)).map V.str))
      refine ⟨_, rfl, .inl ⟨rfl, _, SqL.of upd_same⟩, l, _, _, rfl, rfl, upd_same, ?_, _, rfl, q _ l (same_upd s19 nlH _) nlH ?_⟩
      · rw [List.length_append, List.length_append, List.length_append, List.length_map, List.length_map]
        exact Nat.lt_of_le_of_lt (by show 1 + _ + 1 + _ ≤ 1000; omega : _ ≤ 1000) (by decide)
      · rw [upd_same, stT_if, if_neg (by rw [hnil]; decide)]
        simp [condT]
end
/-- the text of a program -/
def textT (k : Str) (d : PyData) : Str := Txt.join "\n" (k :: bodyT 4 d)
theorem lines_sum : ∀ {ys : List Str}, (∀ y ∈ ys, y.length ≤ 600) → (ys.map (·.length)).sum ≤ 600 * ys.length
  | [], _ => by simp
  | y :: r, h => by
    have h1 := h y (by simp)
    have h2 := lines_sum (ys := r) fun x m => h x (List.mem_cons_of_mem _ m)
    simp only [List.map_cons, List.sum_cons, List.length_cons]
    omega
theorem prog_body {k : Str} {d : PyData} (h : isProg (.tuple [.str k, d]) = true) : ∃ c, bodyN k 4 d = some c ∧ c ≤ 24 ∧ inS (.str k) kinds = true := by
  have h' : (inS (.str k) kinds && okN 0 (bodyN k 4 d)) = true := h
  rw [Bool.and_eq_true] at h'
  cases e : bodyN k 4 d with
  | none => rw [e] at h'; cases h'.2
  | some c =>
    rw [e] at h'
    have hc : 0 + c ≤ 24 := of_decide_eq_true h'.2
    exact ⟨c, rfl, by omega, h'.1⟩
theorem kind_len {k : Str} (h : inS (.str k) kinds = true) : k.length ≤ 9 := by
  obtain ⟨z, e, h⟩ := inS_short h (by decide)
  cases e
  exact h
theorem text_ok {k : Str} {d : PyData} {c : Nat} (hk : k.length ≤ 9) (hb : bodyN k 4 d = some c) (hc : c ≤ 24) : ((k :: bodyT 4 d).map (·.length)).sum + (k :: bodyT 4 d).length * ("\n" : Str).length ≤ 16777216 := by
  obtain ⟨m1, m2⟩ := body_okT 4 _ _ hb
  have := lines_sum m2
  have e : ("\n" : Str).length = 1 := by decide +kernel
  rw [e]
  simp only [List.map_cons, List.sum_cons, List.length_cons]
  omega
def spShow (K : PySem.W.Frag) : Sp := fun vs H Q _ => ∃ (v : V) (k : Str) (d : PyData), vs = [v] ∧ Dp K H v (.tuple [.str k, d]) ∧ Lay (.tuple [.str k, d]) ∧ isProg (.tuple [.str k, d]) = true ∧
  ∀ H', Same H H' → Q (.str (textT k d)) H'
section
variable {P : Program} {w : World} {K : PySem.W.Frag} {mg : Str → Option Value} {base : Heap}
theorem none_SL {f : Addr} {fd : FuncData} (lv : Nat) : FnOk P w K mg base CX0 lv f fd ["statement"] (fun vs H Q E => 0 ≠ 0 ∧ spSL K (0 - 1) vs H Q E) :=
  ⟨fun vs H Q E h => absurd rfl h.1, fun A outer s H args us vs Q E _ _ _ _ h => absurd rfl h.1⟩
theorem recT {fB fS : Addr} {dB dS : FuncData} (FB : Fun K "body_lines" "body_lines" sBL fB dB) (bB : Binds K dB ["body"] []) (mB : mg "body_lines" = some (.ref fB))
    (FS : Fun K "statement_lines" "statement_lines" sSL fS dS) (bS : Binds K dS ["statement"] []) (mS : mg "statement_lines" = some (.ref fS)) (T : Gs K mg)
    (CB : Cal P w K mg base 1 "bodies_of" ["statement"] (spBods K)) (CP : Cal P w K mg base 2 "plain_line" ["statement"] (spPL K)) (CJ : Cal P w K mg base 1 "joined" ["parts"] (spJn K)) :
    ∀ n : Nat, FnOk P w K mg base CX0 (2 + 2 * n) fB dB ["body"] (spBL K n)
  | 0 => ok_BL (lv := 1) FB ⟨fS, dS, none_SL 1, bS, FS.kp, mS⟩
  | n + 1 => by
    have ih := recT FB bB mB FS bS mS T CB CP CJ n
    have cb : Cal P w K mg base (2 + 2 * n) "body_lines" ["body"] (spBL K n) := ⟨fB, dB, ih, bB, FB.kp, mB⟩
    have st := ok_SL (lv := 2 + 2 * n) FS T (by omega) CB CP CJ cb
    have st2 : FnOk P w K mg base CX0 (2 + 2 * n + 1) fS dS ["statement"] (fun vs H Q E => n + 1 ≠ 0 ∧ spSL K (n + 1 - 1) vs H Q E) :=
      ⟨fun vs H Q E h => st.len vs H Q E h.2, fun A outer s H args us vs Q E h1 h2 h3 h4 h => st.run A outer s H args us vs Q E h1 h2 h3 h4 h.2⟩
    exact ok_BL (lv := 2 + 2 * n + 1) (n := n + 1) FB ⟨fS, dS, st2, bS, FS.kp, mS⟩
theorem scShow : FnScope ["program", "kind", "body"] ["program"] (defScope sShow) := ⟨rfl, rfl, rfl, by decide +kernel, rfl, by decide +kernel, by decide +kernel⟩
theorem ok_show {f : Addr} {fd : FuncData} (F : Fun K "show" "show" sShow f fd) (CP : Cal P w K mg base 7 "is_program" ["thing"] (spProg K)) (CB : Cal P w K mg base 10 "body_lines" ["body"] (spBL K 4)) : FnOk P w K mg base CX0 11 f fd ["program"] (spShow K) := by
  refine F.ok scShow (fun vs H Q E h => ?_) (fun cdv A outer s H vs Q E hr h => ?_)
  · obtain ⟨v, k, d, rfl, _⟩ := h
    rfl
  obtain ⟨v, k, d, rfl, hd, ld, hp, q⟩ := h
  have hr7 : Room 7 _ := hr.mono (by decide)
  refine ⟨_, pss_cons (ps_if (pt_not (pt_val (pe_call CP.G hr7 rfl CP.m CP.kp CP.b .nil pass0 (pa_cons (pv 0) pa_nil)))) (pss_one ps_never) pss_nil)
    (pss_cons (ps_asg (pv 0) (pg_tup (by rfl) (pgs_cons (pg_name (i := 1) scShow.nd rfl (.inl rfl)) (pgs_cons (pg_name (i := 2) scShow.nd rfl (.inl rfl)) pgs_nil))))
    (pss_one (ps_ret (pe_join pe_str (pe_op op_cat (pe_lst (pa_cons (pv 1) pa_nil)) (pe_call CB.G hr rfl CB.m CB.kp CB.b .nil pass0 (pa_cons (pv 2) pa_nil))))))), ?_⟩
  refine ⟨_, rfl, v, _, rfl, hd, ld, fun H1 s1 => ⟨_, rfl, ?_⟩⟩
  rw [hp]
  obtain ⟨a, xs, rfl, hs, ha⟩ := dp_tup_inv hd
  obtain ⟨x0, x1, d0, d1, rfl, e, hx0, hx1⟩ := dp_two ha rfl
  injection e with e0 e
  injection e with e1 e
  subst e0 e1
  cases hx0
  obtain ⟨c, hb, hc, hk⟩ := prog_body hp
  refine iteF ⟨_, rfl, a, _, rfl, Same.tup s1 hs, rfl, _, _, rfl, _, _, rfl, rfl, ?_⟩
  refine ⟨⟨_, rfl⟩, _, rfl, (by show 1 ≤ sizeLine; decide), fun l nl => ?_⟩
  have s2 : Same H1 (upd H1 l (.lst [V.str k])) := same_new nl _
  have el : (upd H1 l (.lst [V.str k])) l = some (.lst [V.str k]) := upd_same
  generalize upd H1 l (.lst [V.str k]) = H2 at s2 el ⊢
  refine ⟨_, rfl, x1, d, k, c, rfl, dp_mono (s1.trans s2) _ _ hx1, hb, hc, fun H3 p s3 np hp3 => ?_⟩
  obtain ⟨m1, m2⟩ := body_okT 4 _ _ hb
  refine ⟨l, p, _, _, rfl, rfl, s3 _ _ el, hp3, ?_, fun r nr => ?_⟩
  · rw [List.length_map]
    exact Nat.le_of_lt (Nat.lt_of_le_of_lt (by show 1 + _ ≤ 1000; omega : _ ≤ 1000) (by decide))
  refine ⟨_, r, k :: bodyT 4 d, rfl, rfl, .inl (SqL.of upd_same), text_ok (kind_len hk) hb hc, q _ (s1.trans (s2.trans (s3.trans (same_new nr _))))⟩
end
abbrev sLL : Stmt := top 51
/-- [str(part) for part in a tuple], the part in slot j -/
theorem lc_strW {K : PySem.W.Frag} {a : Addr} {xs : List V} {ds : List PyData} {j : Nat} {σ : L2.St} {H H0 : Hp} {D : Addr} {Qd : Hp → Prop} (hw : ∀ x : V, wipe ((wipe σ [j]).set j (some x)) [j] = wipe σ [j] ∧ ((wipe σ [j]).set j (some x))[j]? = some (some x))
    (hs : SqT K H a xs) (ha : DpAll K H0 xs ds) (hl8 : ds.length ≤ 8) (ho : ∀ d ∈ ds, okW d) (nD : H D = none) (hd : ∀ H', Same H H' → H' D = some (.lst ((ds.map strD).map V.str)) → Qd H') :
    ∃ W : Nat → Nat → Hp → Prop, (∃ m, W 0 m (upd H D (.lst []))) ∧ ∀ i m H, W i m H →
      ((Itt K a).stop i H ∧ Qd H) ∨ ((Itt K a).go i H ∧ ∃ Nx : Hp → Prop, (∀ H', Nx H' → ∃ m', m' < m ∧ W (i + 1) m' H') ∧ ∀ x H', (Itt K a).yld i H x H' → (gName j) x (wipe σ [j]) H' fun σ2 H2 => wipe σ2 [j] = wipe σ [j] ∧ tYes σ2 H2 fun b H3 =>
        if b = true then (tCB rStrW (tCons (tVar j) tNil)) σ2 H3 fun y H4 => ∃ acc, H4 D = some (.lst acc) ∧ acc.length < sizeLine ∧ Nx (upd H4 D (.lst (acc ++ [y]))) else Nx H3) := by
  have hl := dpAll_len ha
  refine lc_tup (K := K) (a := a) (xs := xs) (fun i H' => Same H H' ∧ H' D = some (.lst (((ds.take i).map strD).map V.str))) ⟨same_new nD _, upd_same⟩ (fun i H' _ ⟨s1, _⟩ => Same.tup s1 hs) ?_ ?_
  · rintro i x H1 hx ⟨s1, h1⟩
    obtain ⟨di, hdi, hxd⟩ := dpAll_get ha hx
    have mdi := List.mem_of_getElem? hdi
    refine ⟨(hw x).1, ?_⟩
    dsimp only [tYes]
    rw [if_pos rfl]
    refine ⟨_, (hw x).2, ?_⟩
    dsimp only [tNil]
    refine rStrW_of (K := K) hxd (ho _ mdi) ⟨_, h1, ?_, same_upd s1 nD _, ?_⟩
    · rw [List.length_map, List.length_map]
      refine Nat.lt_of_le_of_lt (m := 8) ?_ (by decide)
      exact Nat.le_trans (by rw [List.length_take]; omega) hl8
    · rw [upd_same, take_snoc hdi]
      simp
  · rintro H1 ⟨s1, h1⟩
    rw [hl, List.take_length] at h1
    exact hd _ s1 h1
theorem app_assoc (a b c : Str) : a ++ b ++ c = a ++ (b ++ c) := by
  show Str.mk ((a.cps ++ b.cps) ++ c.cps) = Str.mk (a.cps ++ (b.cps ++ c.cps))
  rw [Array.append_assoc]
theorem join3 (s a b c : Str) : Txt.join s [a, b, c] = a ++ s ++ b ++ s ++ c := rfl
theorem ask_word : ("ask " : Str) = "ask" ++ " " := by decide +kernel
theorem ask_line {g : Str} {t : PyData} {z : Str} : ("ask " : Str) ++ strD (askW g t) ++ " " ++ z = joinD [.str "ask", askW g t, .str z] := by
  show _ = Txt.join " " ["ask", strD (askW g t), z]
  rw [join3, ask_word]
theorem join_bound {ds : List PyData} (hl8 : ds.length ≤ 8) (hw : ∀ d ∈ ds, okW d) : ((ds.map strD).map (·.length)).sum + (ds.map strD).length * (PySem.Str.ofString " ").length ≤ 16777216 := by
  have := sum_len hw
  have e : (PySem.Str.ofString " ").length = 1 := by decide
  rw [e, List.length_map]
  omega
theorem small {n : Nat} (h : n ≤ 1000) : n ≤ sizeLine := Nat.le_of_lt (Nat.lt_of_le_of_lt h (by decide))
theorem small' {n : Nat} (h : n ≤ 1000) : n < sizeLine := Nat.lt_of_le_of_lt h (by decide)
theorem catTwo {H' : Hp} {p b : Addr} {ys zs : List V} {Q : VK} (hp : H' p = some (.lst ys)) (hb : H' b = some (.lst zs)) (hsz : ys.length + zs.length ≤ 1000) (q : ∀ H2 r, Same H' H2 → H' r = none → H2 r = some (.lst (ys ++ zs)) → Q (.ref r) H2) : rCat (.ref p) (.ref b) H' Q :=
  ⟨p, b, ys, zs, rfl, rfl, hp, hb, small hsz, fun r nr => q _ r (same_new nr _) nr upd_same⟩
theorem catOne {H' : Hp} {p : Addr} {ys : List V} {x : V} {Q : VK} (hp : H' p = some (.lst ys)) (hsz : ys.length + 1 ≤ 1000) (q : ∀ H2 r, Same H' H2 → H' r = none → H2 r = some (.lst (ys ++ [x])) → Q (.ref r) H2) : ∀ l, H' l = none → rCat (.ref p) (.ref l) (upd H' l (.lst [x])) Q :=
  fun l nl => catTwo (same_new nl _ _ _ hp) upd_same hsz fun H2 r s nr e => q H2 r ((same_new nl _).trans s) ((same_new nl _).free nr) e
def spLL (K : PySem.W.Frag) (n : Nat) : Sp := fun vs H Q _ => ∃ (v : V) (d : PyData) (k : Str) (c : Nat), vs = [v] ∧ n ≤ 4 ∧ Dp K H v d ∧ Lay d ∧ bodyN k n d = some c ∧ c ≤ 24 ∧
  ∀ H' p, Same H H' → H p = none → H' p = some (.lst ((bodyT n d).map V.str)) → Q (.ref p) H'
section
variable {P : Program} {w : World} {K : PySem.W.Frag} {mg : Str → Option Value} {base : Heap}
theorem scLL : FnScope ["_law_body_here", "_law_found", "_law_statement_here", "_law_place", "_law_part"] ["_law_body_here"] (defScope sLL) := ⟨rfl, rfl, rfl, by decide +kernel, rfl, by decide +kernel, by decide +kernel⟩
theorem ok_LL {f : Addr} {fd : FuncData} {lv n : Nat} (F : Fun K "_law_lines" "_law_lines" sLL f fd) (T : Gs K mg) (CC : Cal P w K mg base lv "_law_lines" ["_law_body_here"] (fun vs H Q E => n ≠ 0 ∧ spLL K (n - 1) vs H Q E)) :
    FnOk P w K mg base CX0 (lv + 1) f fd ["_law_body_here"] (spLL K n) := by
  refine F.ok scLL (fun vs H Q E h => ?_) (fun cdv A outer s H vs Q E hr h => ?_)
  · obtain ⟨v, d, k, c, rfl, _⟩ := h
    rfl
  obtain ⟨v, d, k, c, rfl, hn4, hd, ld, hbc, hc, q⟩ := h
  refine ⟨_, pss_cons (ps_set (i := 1) scLL.nd rfl (.inl rfl) (pe_lst pa_nil))
    (pss_cons (ps_for PassesOwn.never rfl (pi_tup (pv 0)) (pg_name (i := 2) scLL.nd rfl (.inl rfl))
      (pss_one (ps_if (pt_cmpR op_eq (pe_ix ix_tup (pv 2) pe_int (fun _ _ => rfl)) pe_str (nomark _))
        (pss_cons (ps_set (i := 1) scLL.nd rfl (.inl rfl) (pe_op op_cat (pv 1) (pe_lst (pa_cons (pe_join pe_str (pe_op op_cat (pe_lst (pa_cons pe_str pa_nil)) (pe_lc (own := [("_law_part", 4)]) (g := gName 4) (tt := tYes) (te := tCB rStrW (tCons (tVar 4) tNil)) rfl scLL.nd (pi_tup (pe_ix ix_tup (pv 2) pe_int (fun _ _ => rfl)))
            (blkOk_by (N := ["_law_body_here", "_law_found", "_law_statement_here", "_law_place", "_law_part"]) (sc := defScope sLL) (by decide +kernel))
            (fun _ _ _ _ _ => pg_name (i := 4) scLL.nd rfl (.inl rfl)) (fun _ _ _ _ _ => pts_nil)
            (fun _ _ _ _ _ => pe_callTy call_strW (by rfl) T.str (by decide +kernel) (pa_cons (pv 4) pa_nil))))) pa_nil))))
        (pss_one (ps_set (i := 1) scLL.nd rfl (.inl rfl) (pe_op op_cat (pe_op op_cat (pv 1) (pe_call CC.G hr rfl CC.m CC.kp CC.b .nil pass0 (pa_cons (pe_ix ix_tup (pv 2) pe_int (fun _ _ => rfl)) pa_nil))) (pe_lst (pa_cons pe_str pa_nil))))))
        (pss_one (ps_if (pt_cmpR op_eq (pe_ix ix_tup (pv 2) pe_int (fun _ _ => rfl)) pe_str (nomark _))
          (pss_cons (ps_set (i := 1) scLL.nd rfl (.inl rfl) (pe_op op_cat (pe_op op_cat (pv 1) (pe_lst (pa_cons (pe_join pe_str (pe_op op_cat (pe_lst (pa_cons pe_str pa_nil)) (pe_lc (own := [("_law_part", 4)]) (g := gName 4) (tt := tYes) (te := tCB rStrW (tCons (tVar 4) tNil)) rfl scLL.nd (pi_tup (pe_ix ix_tup (pv 2) pe_int (fun _ _ => rfl)))
            (blkOk_by (N := ["_law_body_here", "_law_found", "_law_statement_here", "_law_place", "_law_part"]) (sc := defScope sLL) (by decide +kernel))
            (fun _ _ _ _ _ => pg_name (i := 4) scLL.nd rfl (.inl rfl)) (fun _ _ _ _ _ => pts_nil)
            (fun _ _ _ _ _ => pe_callTy call_strW (by rfl) T.str (by decide +kernel) (pa_cons (pv 4) pa_nil))))) pa_nil))) (pe_call CC.G hr rfl CC.m CC.kp CC.b .nil pass0 (pa_cons (pe_ix ix_tup (pv 2) pe_int (fun _ _ => rfl)) pa_nil))))
          (pss_cons (ps_if (pt_cmpR (op_neD hr.units) (pe_ix ix_tup (pv 2) pe_int (fun _ _ => rfl)) (pe_tup pa_nil) (nomark _))
              (pss_one (ps_set (i := 1) scLL.nd rfl (.inl rfl) (pe_op op_cat (pe_op op_cat (pv 1) (pe_lst (pa_cons pe_str pa_nil))) (pe_call CC.G hr rfl CC.m CC.kp CC.b .nil pass0 (pa_cons (pe_ix ix_tup (pv 2) pe_int (fun _ _ => rfl)) pa_nil))))) pss_nil)
          (pss_one (ps_set (i := 1) scLL.nd rfl (.inl rfl) (pe_op op_cat (pv 1) (pe_lst (pa_cons pe_str pa_nil)))))))
          (pss_one (ps_if (pt_cmpR op_eq (pe_ix ix_tup (pv 2) pe_int (fun _ _ => rfl)) pe_str (nomark _))
            (pss_cons (ps_set (i := 3) scLL.nd rfl (.inl rfl) (pe_callTy call_strW (by rfl) T.str (by decide +kernel) (pa_cons (pe_ix ix_tup (pv 2) pe_int (fun _ _ => rfl)) pa_nil)))
            (pss_cons (ps_if (pt_cmpR op_ne (pe_ix ix_tup (pv 2) pe_int (fun _ _ => rfl)) pe_str (nomark _)) (pss_one (ps_set (i := 3) scLL.nd rfl (.inl rfl) (pe_op op_add_str (pe_op op_add_str pe_str (pe_ix ix_tup (pv 2) pe_int (fun _ _ => rfl))) (pv 3)))) pss_nil)
            (pss_one (ps_expr (pe_bm PySem.F.plainAttrs_list PySem.F.slot_list_append PySem.F.type_list_append mt_append (pv 1) (pa_cons (pe_op op_add_str (pe_op op_add_str (pe_op op_add_str pe_str (pv 3)) pe_str) (pe_ix ix_tup (pv 2) pe_int (fun _ _ => rfl))) pa_nil))))))
            (pss_one (ps_expr (pe_bm PySem.F.plainAttrs_list PySem.F.slot_list_append PySem.F.type_list_append mt_append (pv 1) (pa_cons (pe_join pe_str (pe_lc (own := [("_law_part", 4)]) (g := gName 4) (tt := tYes) (te := tCB rStrW (tCons (tVar 4) tNil)) rfl scLL.nd (pi_tup (pv 2))
            (blkOk_by (N := ["_law_body_here", "_law_found", "_law_statement_here", "_law_place", "_law_part"]) (sc := defScope sLL) (by decide +kernel))
            (fun _ _ _ _ _ => pg_name (i := 4) scLL.nd rfl (.inl rfl)) (fun _ _ _ _ _ => pts_nil)
            (fun _ _ _ _ _ => pe_callTy call_strW (by rfl) T.str (by decide +kernel) (pa_cons (pv 4) pa_nil)))) pa_nil)))))))))))
    (pss_one (ps_ret (pv 1)))), ?_⟩
  obtain ⟨ss, rfl⟩ := body_tuple hbc
  obtain ⟨a, xs, rfl, hs, ha⟩ := dp_tup_inv hd
  have hl := dpAll_len ha
  have lm := lay_mem (lay_tup ld)
  refine ⟨(by show 0 ≤ sizeLine; decide), fun l nl => ?_⟩
  have s0 : Same H (upd H l (.lst [])) := same_new nl _
  refine ⟨_, rfl, a, rfl, ⟨_, Same.tup s0 hs⟩, for_tup (K := K) (a := a) (xs := xs) (fun i σ H' => ∃ (p : Addr) (s2 s3 s4 : Option V), σ = [some (.ref a), some (.ref p), s2, s3, s4] ∧ Same H H' ∧ H p = none ∧ H' p = some (.lst ((bodyT n (.tuple (ss.take i))).map V.str)))
    ⟨l, none, none, none, rfl, s0, nl, by rw [upd_same]; cases n <;> rfl⟩ (fun i σ H' _ ⟨_, _, _, _, _, s1, _⟩ => Same.tup s1 hs) ?_ ?_⟩
  · rintro i x σ H1 hx ⟨p, s2, s3, s4, rfl, s1, np, hp⟩
    obtain ⟨si, hsi, hxd⟩ := dpAll_get ha hx
    have msi := List.mem_of_getElem? hsi
    cases n with
    | zero =>
      cases ss with
      | nil => cases msi
      | cons _ _ => cases hbc
    | succ n =>
      obtain ⟨ai, hai, lai⟩ := sum_le hbc msi
      have one := body_take hbc (i + 1)
      have esn : bodyT (n + 1) (.tuple (ss.take (i + 1))) = bodyT (n + 1) (.tuple (ss.take i)) ++ stT (bodyT n) si := flat_snoc hsi
      rw [esn] at one ⊢
      have ltot := one.1
      rw [List.length_append] at ltot
      generalize hX : bodyT (n + 1) (.tuple (ss.take i)) = X at hp ltot ⊢
      have xl : (X.map V.str).length = X.length := List.length_map _
      have lsi := lm _ msi
      rcases st_shape hai with ⟨z, ps, rfl, h1, h2, hpl, rfl⟩ | ⟨co, bb, c', rfl, hco, hb, rfl⟩ | ⟨co, b1, b2, c1, c2, rfl, hco, hb1, hb2, rfl⟩
      · rw [stT_plain h1 h2] at ltot ⊢
        have l1 : X.length + 1 ≤ 3 * c := ltot
        obtain ⟨ax, xx, rfl, hsx, hax⟩ := dp_tup_inv hxd
        have hsx1 := Same.tup s1 hsx
        rcases plain_cases hpl with ⟨z', ps', e, hz, lz, lp, hps⟩ | ⟨g, t, x, e, lg, ht, hx'⟩
        · injection e with e; injection e with e e2; injection e with e
          subst e e2
          obtain ⟨xr, rfl⟩ : ∃ xr, xx = .str z :: xr := by
            cases hax with
            | cons hz _ => cases hz; exact ⟨_, rfl⟩
          have okA : ∀ d ∈ PyData.str z :: ps, okW d := by
            intro d m
            rcases List.mem_cons.mp m with rfl | m
            · exact .inl ⟨z, rfl, by omega⟩
            · exact okP_W (hps d m)
          have l8 : (PyData.str z :: ps).length ≤ 8 := by rw [List.length_cons]; omega
          rw [plainT_no hz]
          refine ⟨_, rfl, ax, _, _, _, rfl, rfl, hsx1, atI_nat (j := 0) rfl, rfl, _, rfl, strF h2 ?_⟩
          refine ⟨_, rfl, ax, _, _, _, rfl, rfl, hsx1, atI_nat (j := 0) rfl, rfl, _, rfl, strF h1 ?_⟩
          refine ⟨_, rfl, ax, _, _, _, rfl, rfl, hsx1, atI_nat (j := 0) rfl, rfl, _, rfl, strF hz ?_⟩
          refine ⟨_, rfl, .inl ⟨rfl, _, SqL.of hp⟩, ⟨_, rfl⟩, _, rfl, ax, rfl, ⟨_, hsx1⟩, fun D nD => lc_strW (fun _ => ⟨rfl, rfl⟩) hsx1 hax l8 okA nD fun H2 s2' e2 => ?_⟩
          refine ⟨_, D, _, rfl, rfl, .inl (SqL.of e2), join_bound l8 okA, ?_⟩
          refine ⟨p, _, _, rfl, rfl, s2' _ _ hp, small' (by rw [xl]; omega), p, _, _, _, rfl, same_upd (s1.trans s2') np _, np, ?_⟩
          rw [upd_same, List.map_append]
          rfl
        · injection e with e; injection e with e e2; injection e with e
          subst e e2
          obtain ⟨x0, x1, x2, x3, rfl, h0, hx1, hx2, hx3⟩ := dp_four hax
          cases h0
          cases hx1
          have hxv : ∃ zx, x = .str zx := by
            obtain ⟨z9, ps9, rs9, e9, hz9, hl9, hp9⟩ := plain_inv hpl
            injection e9 with e9; injection e9 with e9 e8; injection e9 with e9
            subst e9 e8
            have e7 := word_ask hz9
            subst e7
            have h' : isPart (.str g) "sign" = true ∧ isPart t "term" = true ∧ isPart x "variable" = true := by simpa [allParts] using hp9
            have h9 : inS x vars = true := by
              have := h'.2.2
              unfold isPart at this
              rwa [if_pos rfl] at this
            obtain ⟨zx, rfl, _⟩ := inS_short h9 (by decide)
            exact ⟨zx, rfl⟩
          obtain ⟨zx, rfl⟩ := hxv
          cases hx3
          have lzx : zx.length ≤ 9 := by
            rcases hx' with ⟨z', e, h⟩ | ⟨i', e, _⟩
            · cases e; exact h
            · cases e
          rw [plainT_ask]
          have lst' := strD_short ht
          refine ⟨_, rfl, ax, _, _, _, rfl, rfl, hsx1, atI_nat (j := 0) rfl, rfl, _, rfl, strF h2 ?_⟩
          refine ⟨_, rfl, ax, _, _, _, rfl, rfl, hsx1, atI_nat (j := 0) rfl, rfl, _, rfl, strF h1 ?_⟩
          refine ⟨_, rfl, ax, _, _, _, rfl, rfl, hsx1, atI_nat (j := 0) rfl, rfl, _, rfl, strT ?_⟩
          refine ⟨_, rfl, ax, _, _, _, rfl, rfl, hsx1, atI_nat (j := 2) rfl, ?_⟩
          dsimp only [tNil]
          refine rStrW_of (K := K) hx2 (okP_W ht) ?_
          refine ⟨_, rfl, ax, _, _, _, rfl, rfl, hsx1, atI_nat (j := 1) rfl, rfl, _, rfl, ?_⟩
          have lx : ("x" : Str).length = 1 := by decide +kernel
          have la : ("ask " : Str).length = 4 := by decide +kernel
          have lb : (" " : Str).length = 1 := by decide +kernel
          by_cases hg : g = "="
          · subst hg
            refine ite2 (fun c => absurd c (by rw [decide_eq_true rfl]; decide)) (fun _ => ?_)
            refine ⟨_, rfl, .inl ⟨rfl, _, SqL.of hp⟩, _, rfl, _, _, rfl, rfl, small (by rw [la]; omega), _, _, rfl, rfl, small (by rw [len_app, la, lb]; omega), _, rfl, ax, _, _, _, rfl, rfl, hsx1, atI_nat (j := 3) rfl, _, _, rfl, rfl, small (by rw [len_app, len_app, la, lb]; omega), ?_⟩
            refine ⟨p, _, _, rfl, rfl, hp, small' (by rw [xl]; omega), p, _, _, _, rfl, same_upd s1 np _, np, ?_⟩
            have e := ask_line (g := "=") (t := t) (z := zx)
            rw [upd_same, List.map_append, ← e, show askW "=" t = t from if_pos rfl]
            rfl
          · have eA : askW g t = .str ((("x" : Str) ++ g) ++ strD t) := if_neg hg
            refine ite2 (fun _ => ?_) (fun c => absurd (by rw [decide_eq_false (fun e => hg (by injection e))]; rfl) c)
            refine ⟨_, rfl, ax, _, _, _, rfl, rfl, hsx1, atI_nat (j := 1) rfl, _, _, rfl, rfl, small (by rw [lx]; omega), _, rfl, _, _, rfl, rfl, small (by rw [len_app, lx]; omega), ?_⟩
            have l50 : ((("x" : Str) ++ g) ++ strD t).length ≤ 50 := by rw [len_app, len_app, lx]; omega
            refine ⟨_, rfl, .inl ⟨rfl, _, SqL.of hp⟩, _, rfl, _, _, rfl, rfl, small (by rw [la]; omega), _, _, rfl, rfl, small (by rw [len_app, la, lb]; omega), _, rfl, ax, _, _, _, rfl, rfl, hsx1, atI_nat (j := 3) rfl, _, _, rfl, rfl, small (by rw [len_app, len_app, la, lb]; omega), ?_⟩
            refine ⟨p, _, _, rfl, rfl, hp, small' (by rw [xl]; omega), p, _, _, _, rfl, same_upd s1 np _, np, ?_⟩
            have e := ask_line (g := g) (t := t) (z := zx)
            rw [upd_same, List.map_append, ← e, eA]
            rfl
      · rw [stT_while] at ltot ⊢
        simp only [List.length_cons, List.length_append, List.length_nil] at ltot
        obtain ⟨ax, xx, rfl, hsx, hax⟩ := dp_tup_inv hxd
        obtain ⟨x0, x1, x2, d0, d1, d2, rfl, e3, h0, hx1, hx2⟩ := dp_three hax rfl
        injection e3 with e3 e4
        injection e4 with e4 e5
        injection e5 with e5 _
        subst e3 e4 e5
        cases h0
        have hsx1 := Same.tup s1 hsx
        obtain ⟨cx, cy, cz, rfl, o1, o2, o3⟩ := cond_three hco
        obtain ⟨ca, cxs, rfl, hcs, hca⟩ := dp_tup_inv hx1
        have okC := cond_okW (w := "while") (by decide) o1 o2 o3
        have okC3 : ∀ d ∈ [cx, cy, cz], okW d := fun d m => okC d (List.mem_cons_of_mem _ m)
        refine ⟨_, rfl, ax, _, _, _, rfl, rfl, hsx1, atI_nat (j := 0) rfl, rfl, _, rfl, strT ?_⟩
        refine ⟨_, rfl, ⟨_, rfl⟩, (by show 1 ≤ sizeLine; decide), fun l2 nl2 => ?_⟩
        have sA : Same H1 (upd H1 l2 (.lst [.str "while"])) := same_new nl2 _
        have eA : (upd H1 l2 (.lst [.str "while"])) l2 = some (.lst [.str "while"]) := upd_same
        generalize upd H1 l2 (.lst [.str "while"]) = H2 at sA eA ⊢
        have s12 := s1.trans sA
        refine ⟨_, rfl, ax, _, _, _, rfl, rfl, Same.tup s12 hsx, atI_nat (j := 1) rfl, ca, rfl, ⟨_, Same.tup s12 hcs⟩, fun D nD => lc_strW (fun _ => ⟨rfl, rfl⟩) (Same.tup s12 hcs) hca (by show 3 ≤ 8; decide) okC3 nD fun H3 s3' e3 => ?_⟩
        refine catTwo (s3' _ _ eA) e3 (by show 1 + 3 ≤ 1000; decide) fun H4 r s4' nr e4 => ?_
        refine ⟨_, r, (PyData.str "while" :: [cx, cy, cz]).map strD, rfl, rfl, .inl (SqL.of e4), join_bound (by show 4 ≤ 8; decide) okC, ?_⟩
        have s14 := sA.trans (s3'.trans s4')
        refine ⟨(by show 1 ≤ sizeLine; decide), catOne (s14 _ _ hp) (by rw [xl]; omega) fun H5 r5 s5' nr5 e5 => ?_⟩
        have s15 := s1.trans (s14.trans s5')
        refine ⟨_, rfl, _, rfl, ax, _, _, _, rfl, rfl, Same.tup s15 hsx, atI_nat (j := 2) rfl, by omega, x2, bb, k, c', rfl, by omega, dp_mono s15 _ _ hx2, lay_mem (lay_tup lsi) _ (by simp), hb, by omega, fun H6 p6 s6' np6 e6 => ?_⟩
        have e6' : H6 p6 = some (.lst ((bodyT n bb).map V.str)) := e6
        refine catTwo (s6' _ _ e5) e6' (by simp only [List.length_append, List.length_map, List.length_cons, List.length_nil]; omega) fun H7 r7 s7' nr7 e7 => ?_
        refine ⟨(by show 1 ≤ sizeLine; decide), catOne e7 (by simp only [List.length_append, List.length_map, List.length_cons, List.length_nil]; omega) fun H8 r8 s8' nr8 e8 => ?_⟩
        have s18 := s15.trans (s6'.trans (s7'.trans s8'))
        refine ⟨r8, _, _, _, rfl, s18, (s15.trans (s6'.trans s7')).free nr8, ?_⟩
        rw [e8]
        simp [condT, joinD]
      · rw [stT_if] at ltot ⊢
        obtain ⟨ax, xx, rfl, hsx, hax⟩ := dp_tup_inv hxd
        obtain ⟨x0, x1, x2, x3, rfl, h0, hx1, hx2, hx3⟩ := dp_four hax
        cases h0
        have hsx1 := Same.tup s1 hsx
        obtain ⟨cx, cy, cz, rfl, o1, o2, o3⟩ := cond_three hco
        obtain ⟨ca, cxs, rfl, hcs, hca⟩ := dp_tup_inv hx1
        have okC := cond_okW (w := "if") (by decide) o1 o2 o3
        have okC3 : ∀ d ∈ [cx, cy, cz], okW d := fun d m => okC d (List.mem_cons_of_mem _ m)
        have lmm := lay_mem (lay_tup lsi)
        refine ⟨_, rfl, ax, _, _, _, rfl, rfl, hsx1, atI_nat (j := 0) rfl, rfl, _, rfl, strF (by decide +kernel) ?_⟩
        refine ⟨_, rfl, ax, _, _, _, rfl, rfl, hsx1, atI_nat (j := 0) rfl, rfl, _, rfl, strT ?_⟩
        have l1 : X.length + (1 + (bodyT n b1).length + 1) ≤ 1000 := by
          simp only [List.length_cons, List.length_append, List.length_nil] at ltot
          omega
        refine ⟨_, rfl, ⟨_, rfl⟩, (by show 1 ≤ sizeLine; decide), fun l2 nl2 => ?_⟩
        have sA : Same H1 (upd H1 l2 (.lst [.str "if"])) := same_new nl2 _
        have eA : (upd H1 l2 (.lst [.str "if"])) l2 = some (.lst [.str "if"]) := upd_same
        generalize upd H1 l2 (.lst [.str "if"]) = H2 at sA eA ⊢
        have s12 := s1.trans sA
        refine ⟨_, rfl, ax, _, _, _, rfl, rfl, Same.tup s12 hsx, atI_nat (j := 1) rfl, ca, rfl, ⟨_, Same.tup s12 hcs⟩, fun D nD => lc_strW (fun _ => ⟨rfl, rfl⟩) (Same.tup s12 hcs) hca (by show 3 ≤ 8; decide) okC3 nD fun H3 s3' e3 => ?_⟩
        refine catTwo (s3' _ _ eA) e3 (by show 1 + 3 ≤ 1000; decide) fun H4 r s4' nr e4 => ?_
        refine ⟨_, r, (PyData.str "if" :: [cx, cy, cz]).map strD, rfl, rfl, .inl (SqL.of e4), join_bound (by show 4 ≤ 8; decide) okC, ?_⟩
        have s14 := sA.trans (s3'.trans s4')
        refine ⟨(by show 1 ≤ sizeLine; decide), catOne (s14 _ _ hp) (by rw [xl]; omega) fun H5 r5 s5' nr5 e5 => ?_⟩
        have s15 := s1.trans (s14.trans s5')
        refine ⟨_, rfl, ax, _, _, _, rfl, rfl, Same.tup s15 hsx, atI_nat (j := 2) rfl, by omega, x2, b1, k, c1, rfl, by omega, dp_mono s15 _ _ hx2, lmm _ (by simp), hb1, by omega, fun H6 p6 s6' np6 e6 => ?_⟩
        have e6' : H6 p6 = some (.lst ((bodyT n b1).map V.str)) := e6
        refine catTwo (s6' _ _ e5) e6' (by simp only [List.length_append, List.length_map, List.length_cons, List.length_nil]; omega) fun H7 r7 s7' nr7 e7 => ?_
        have s17 := s15.trans (s6'.trans s7')
        have nr7H := (s15.trans s6').free nr7
        obtain ⟨ss2, rfl⟩ := body_tuple hb2
        refine ⟨_, rfl, ax, _, _, _, rfl, rfl, Same.tup s17 hsx, atI_nat (j := 3) rfl, (by show 0 ≤ sizeLine; decide), fun e0 ne0 => ?_⟩
        have sE0 := same_new ne0 (.tup [])
        have ee0 : (upd H7 e0 (.tup [])) e0 = some (.tup []) := upd_same
        generalize upd H7 e0 (.tup []) = H8 at sE0 ee0 ⊢
        have s18 := s17.trans sE0
        have e78 := sE0 _ _ e7
        have sh2 : SeqAt.shaped (.tuple ss2) = true := by
          show ((PyData.tuple ss2).canLay0 && decide ((PyData.tuple ss2).depth ≤ 64)) = true
          rw [Bool.and_eq_true]
          exact ⟨lmm _ (by simp), decide_eq_true (by have := body_depth hb2; omega)⟩
        refine ⟨.tuple ss2, .tuple [], dp_mono s18 _ _ hx3, .tup (SqT.of ee0) .nil, sh2, by decide +kernel, _, rfl, ?_⟩
        rw [eqv_nil]
        cases hnil : isNil (.tuple ss2) with
        | true =>
          refine iteF ⟨_, rfl, (by show 1 ≤ sizeLine; decide), catOne e78 (by simp only [List.length_append, List.length_map, List.length_cons, List.length_nil]; omega) fun H9 r9 s9' nr9 e9 => ?_⟩
          refine ⟨r9, _, _, _, rfl, s18.trans s9', s18.free nr9, ?_⟩
          rw [e9]
          simp [condT, joinD]
        | false =>
          rw [if_neg (by rw [hnil]; decide)] at ltot
          simp only [List.length_cons, List.length_append, List.length_nil] at ltot
          refine iteT ⟨_, rfl, (by show 1 ≤ sizeLine; decide), catOne e78 (by simp only [List.length_append, List.length_map, List.length_cons, List.length_nil]; omega) fun H9 r9 s9' nr9 e9 => ?_⟩
          have s19 := s18.trans s9'
          refine ⟨_, rfl, ax, _, _, _, rfl, rfl, Same.tup s19 hsx, atI_nat (j := 3) rfl, by omega, x3, .tuple ss2, k, c2, rfl, by omega, dp_mono s19 _ _ hx3, lmm _ (by simp), hb2, by omega, fun H10 p10 s10 np10 e10 => ?_⟩
          have e10' : H10 p10 = some (.lst ((bodyT n (.tuple ss2)).map V.str)) := e10
          refine catTwo (s10 _ _ e9) e10' (by simp only [List.length_append, List.length_map, List.length_cons, List.length_nil]; omega) fun H11 r11 s11 nr11 e11 => ?_
          refine ⟨_, rfl, (by show 1 ≤ sizeLine; decide), catOne e11 (by simp only [List.length_append, List.length_map, List.length_cons, List.length_nil]; omega) fun H12 r12 s12' nr12 e12 => ?_⟩
          refine ⟨r12, _, _, _, rfl, s19.trans (s10.trans (s11.trans s12')), (s19.trans (s10.trans s11)).free nr12, ?_⟩
          rw [e12]
          simp [condT, joinD]
  · rintro σ H1 ⟨p, s2, s3, s4, rfl, s1, np, hp⟩
    rw [hl, List.take_length] at hp
    exact ⟨_, rfl, q _ _ s1 np hp⟩
theorem none_LL {f : Addr} {fd : FuncData} (lv : Nat) : FnOk P w K mg base CX0 lv f fd ["_law_body_here"] (fun vs H Q E => 0 ≠ 0 ∧ spLL K (0 - 1) vs H Q E) :=
  ⟨fun vs H Q E h => absurd rfl h.1, fun A outer s H args us vs Q E _ _ _ _ h => absurd rfl h.1⟩
theorem recLL {f : Addr} {fd : FuncData} (F : Fun K "_law_lines" "_law_lines" sLL f fd) (bF : Binds K fd ["_law_body_here"] []) (mF : mg "_law_lines" = some (.ref f)) (T : Gs K mg) :
    ∀ n : Nat, FnOk P w K mg base CX0 (2 + n) f fd ["_law_body_here"] (spLL K n)
  | 0 => ok_LL (lv := 1) F T ⟨f, fd, none_LL 1, bF, F.kp, mF⟩
  | n + 1 => by
    have ih := recLL F bF mF T n
    have c2 : FnOk P w K mg base CX0 (2 + n) f fd ["_law_body_here"] (fun vs H Q E => n + 1 ≠ 0 ∧ spLL K (n + 1 - 1) vs H Q E) :=
      ⟨fun vs H Q E h => ih.len vs H Q E h.2, fun A outer s H args us vs Q E h1 h2 h3 h4 h => ih.run A outer s H args us vs Q E h1 h2 h3 h4 h.2⟩
    exact ok_LL (lv := 2 + n) (n := n + 1) F T ⟨f, fd, c2, bF, F.kp, mF⟩
end
end My

namespace My
open PySem L2 PySem.Spec PyProof.Rows
abbrev sText : Stmt := top 52
abbrev sSaid : Stmt := top 62
def spText (K : PySem.W.Frag) : Sp := fun vs H Q _ => ∃ (v : V) (k : Str) (d : PyData) (c : Nat), vs = [v] ∧ Dp K H v (.tuple [.str k, d]) ∧ Lay (.tuple [.str k, d]) ∧ k.length ≤ 9 ∧ bodyN k 4 d = some c ∧ c ≤ 24 ∧
  ∀ H', Same H H' → Q (.str (textT k d)) H'
/-- show, whatever the thing is -/
def spShowX (K : PySem.W.Frag) (C : Addr) : Sp := fun vs H Q E => ∃ (v : V) (d : PyData), vs = [v] ∧ Dp K H v d ∧ Lay d ∧ (∀ k b, d = .tuple [.str k, b] → isProg d = true → ∀ H', Same H H' → Q (.str (textT k b)) H') ∧ (isProg d = false → ∀ H', Same H H' → E (.ref C) none H')
def spSaid (K : PySem.W.Frag) : Sp := fun vs H Q _ => ∃ (v : V) (d : PyData), vs = [v] ∧ Dp K H v d ∧ Lay d ∧ (∀ k b, d = .tuple [.str k, b] → isProg d = true → ∀ H' p, Same H H' → H p = none → H' p = some (.tup [.str "text", .str (textT k b)]) → Q (.ref p) H') ∧ (isProg d = false → ∀ H' p, Same H H' → H p = none → H' p = some (.tup [.str "error", .bl true]) → Q (.ref p) H')
theorem prog_shape {d : PyData} (h : isProg d = true) : ∃ k b, d = .tuple [.str k, b] := by
  unfold isProg at h
  split at h
  · rename_i k b
    exact ⟨k, b, rfl⟩
  · cases h
section
variable {X : Cx}
theorem call_isG {a : Addr} {cls : Value} {d : Option Addr} {oe : Obj} {pn : List (Addr × Obj)} (hz : Zc cls d oe) (hf : ∃ vs, oe.data = .fields vs) :
    CallR (X.suite a ((a, oe) :: pn)) (.builtin "isinstance") (fun xs H Q => ∃ D, cls = .ref D ∧ d = none ∧ ExcC X.K D ∧ rIsE X.K D a xs H Q) := by
  intro pins s σ H xs us Q I r h
  obtain ⟨D, rfl, rfl, C, h⟩ := h
  exact call_isE C hz hf pins s σ H xs us Q I r h
def rIsET (K : PySem.W.Frag) (D a : Addr) : List V → Hp → VK → Prop := fun xs H Q => ∃ (tp : Addr) (cs : List V) (ws : List Value) (b : Bool), xs = [.ref a, .ref tp] ∧ H tp = some (.tup cs) ∧ Paired ClsV cs ws ∧ PySem.W.kitAny K (.ref D) ws = some b ∧ Q (.bl b) H
theorem call_isGT {a : Addr} {cls : Value} {d : Option Addr} {oe : Obj} {pn : List (Addr × Obj)} (hz : Zc cls d oe) (hf : ∃ vs, oe.data = .fields vs) :
    CallR (X.suite a ((a, oe) :: pn)) (.builtin "isinstance") (fun xs H Q => ∃ D, cls = .ref D ∧ d = none ∧ ExcC X.K D ∧ rIsET X.K D a xs H Q) := by
  intro pins s σ H xs us Q I r h
  obtain ⟨D, rfl, rfl, C, tp, cs, ws, b, rfl, hT, k, e, q⟩ := h
  obtain ⟨u1, u2, rfl, r1, r2⟩ := vals2 r
  cases (show u2 = Value.ref tp from r2)
  cases (show u1 = Value.ref a from r1)
  obtain ⟨hget, _⟩ := I.pin (a, oe) (List.mem_append.mpr (.inl List.mem_cons_self))
  obtain ⟨vs, hv⟩ := hf
  have J : PySem.W.InstAt s.heap a oe D none := by
    obtain ⟨oc, od, oda, osl⟩ := oe
    obtain ⟨h1, h2⟩ := hz
    dsimp only at h1 h2 hv
    subst h1 h2 hv
    exact ⟨hget, rfl, rfl, trivial⟩
  obtain ⟨_, its, rv, o, h1, h2, n, h3⟩ := (show ObjOk X.prog X.w H s.heap tp (.tup cs) from I.hok tp _ hT)
  have e3 := ClsV.all k rv
  subst e3
  obtain ⟨oc, od, dt, sl⟩ := o
  simp only at h2 h3
  subst h2 h3
  exact PySem.W.kia_tup (PySem.W.handS_kitx_exc C.hg C.hk C.hs C.hd C.ha C.hn C.ht C.hm) I.kIn J h1 e (fun z => nomatch z) fun tk => ⟨.bl b, H, I.kept (t' := tk) fun _ _ z => z, rfl, q⟩
end
/-- what the top has written of the errors -/
structure Er (K : PySem.W.Frag) (mg : Str → Option Value) where
  cP : Addr
  cH : Addr
  c1 : Addr
  c2 : Addr
  c3 : Addr
  c4 : Addr
  c5 : Addr
  gP : mg "BadProgram" = some (.ref cP)
  gH : mg "HouseError" = some (.ref cH)
  g1 : mg "BadHistory" = some (.ref c1)
  g2 : mg "BadRow" = some (.ref c2)
  g3 : mg "BadSide" = some (.ref c3)
  g4 : mg "BadSteps" = some (.ref c4)
  g5 : mg "BadText" = some (.ref c5)
  xP : PySem.W.excIn K cP [.type "ValueError", .type "Exception", .type "BaseException", .type "object"] "ValueError.__new__" = true
  kP : PySem.W.keepIn K (.ref cP) = true
  bP : PySem.W.subIn K (.ref cP) (.type "BaseException") = some true
  tP : PySem.W.typeIn K (.ref cP) = some (.type "type")
  eP : PySem.W.exmOne K (.ref cP) (.ref cH) = some true
  eC : ExcC K cP
  k1 : PySem.W.kitOne K (.ref cP) (.ref cP) = some true
  k5 : PySem.W.kitAny K (.ref cP) [.ref c1, .ref c2, .ref c3, .ref c4, .ref c5] = some false
section
variable {P : Program} {w : World} {K : PySem.W.Frag} {mg : Str → Option Value} {base : Heap}
theorem scText : FnScope ["_law_program_here"] ["_law_program_here"] (defScope sText) := ⟨rfl, rfl, rfl, by decide +kernel, rfl, by decide +kernel, by decide +kernel⟩
theorem ok_text {f : Addr} {fd : FuncData} (F : Fun K "_law_text" "_law_text" sText f fd) (CL : Cal P w K mg base 6 "_law_lines" ["_law_body_here"] (spLL K 4)) : FnOk P w K mg base CX0 7 f fd ["_law_program_here"] (spText K) := by
  refine F.ok scText (fun vs H Q E h => ?_) (fun cdv A outer s H vs Q E hr h => ?_)
  · obtain ⟨v, k, d, c, rfl, _⟩ := h
    rfl
  obtain ⟨v, k, d, c, rfl, hd, ld, hk, hb, hc, q⟩ := h
  refine ⟨_, pss_one (ps_ret (pe_join pe_str (pe_op op_cat (pe_lst (pa_cons (pe_ix ix_tup (pv 0) pe_int (fun _ _ => rfl)) pa_nil)) (pe_call CL.G hr rfl CL.m CL.kp CL.b .nil pass0 (pa_cons (pe_ix ix_tup (pv 0) pe_int (fun _ _ => rfl)) pa_nil))))), ?_⟩
  obtain ⟨a, xs, rfl, hs, ha⟩ := dp_tup_inv hd
  obtain ⟨x0, x1, d0, d1, rfl, e, hx0, hx1⟩ := dp_two ha rfl
  injection e with e0 e
  injection e with e1 e
  subst e0 e1
  cases hx0
  refine ⟨⟨_, rfl⟩, _, rfl, a, _, _, _, rfl, rfl, hs, atI_nat (j := 0) rfl, (by show 1 ≤ sizeLine; decide), fun l nl => ?_⟩
  have s2 : Same H (upd H l (.lst [V.str k])) := same_new nl _
  have el : (upd H l (.lst [V.str k])) l = some (.lst [V.str k]) := upd_same
  generalize upd H l (.lst [V.str k]) = H2 at s2 el ⊢
  refine ⟨_, rfl, a, _, _, _, rfl, rfl, Same.tup s2 hs, atI_nat (j := 1) rfl, x1, d, k, c, rfl, by decide, dp_mono s2 _ _ hx1, lay_mem (lay_tup ld) _ (by simp), hb, hc, fun H3 p s3 np hp3 => ?_⟩
  obtain ⟨m1, m2⟩ := body_okT 4 _ _ hb
  refine catTwo (s3 _ _ el) hp3 (by rw [List.length_map]; show 1 + _ ≤ 1000; omega) fun H4 r s4 nr e4 => ?_
  exact ⟨_, r, k :: bodyT 4 d, rfl, rfl, .inl (SqL.of e4), text_ok hk hb hc, q _ (s2.trans (s3.trans s4))⟩
theorem ok_showX {f : Addr} {fd : FuncData} (F : Fun K "show" "show" sShow f fd) (R : Er K mg) (CP : Cal P w K mg base 7 "is_program" ["thing"] (spProg K)) (CB : Cal P w K mg base 10 "body_lines" ["body"] (spBL K 4)) : FnOk P w K mg base (L2.CX P w) 11 f fd ["program"] (spShowX K R.cP) := by
  refine F.okX scShow (fun vs H Q E h => ?_) (fun cdv A outer s H vs Q E hr h => ?_)
  · obtain ⟨v, d, rfl, _⟩ := h
    rfl
  obtain ⟨v, d, rfl, hd, ld, q, qE⟩ := h
  have hr7 : Room 7 _ := hr.mono (by decide)
  refine ⟨_, pss_cons (ps_if (pt_not (pt_val (pe_call CP.G hr7 rfl CP.m CP.kp CP.b .nil pass0 (pa_cons (pv 0) pa_nil)))) (pss_one (ps_raise rfl (takes_of rfl rfl rfl rfl) (pmk_own PySem.F.excBase_ValueError R.xP R.gP R.kP (raises_own R.bP R.tP) rfl))) pss_nil)
    (pss_cons (ps_asg (pv 0) (pg_tup (by rfl) (pgs_cons (pg_name (i := 1) scShow.nd rfl (.inl rfl)) (pgs_cons (pg_name (i := 2) scShow.nd rfl (.inl rfl)) pgs_nil))))
    (pss_one (ps_ret (pe_join pe_str (pe_op op_cat (pe_lst (pa_cons (pv 1) pa_nil)) (pe_call CB.G hr rfl CB.m CB.kp CB.b .nil pass0 (pa_cons (pv 2) pa_nil))))))), ?_⟩
  refine ⟨_, rfl, v, _, rfl, hd, ld, fun H1 s1 => ⟨_, rfl, ?_⟩⟩
  cases hp : isProg d with
  | false => exact iteT (qE hp _ s1)
  | true =>
    obtain ⟨k, b, rfl⟩ := prog_shape hp
    obtain ⟨a, xs, rfl, hs, ha⟩ := dp_tup_inv hd
    obtain ⟨x0, x1, d0, d1, rfl, e, hx0, hx1⟩ := dp_two ha rfl
    injection e with e0 e
    injection e with e1 e
    subst e0 e1
    cases hx0
    obtain ⟨c, hb, hc, hk⟩ := prog_body hp
    refine iteF ⟨_, rfl, a, _, rfl, Same.tup s1 hs, rfl, _, _, rfl, _, _, rfl, rfl, ?_⟩
    refine ⟨⟨_, rfl⟩, _, rfl, (by show 1 ≤ sizeLine; decide), fun l nl => ?_⟩
    have s2 : Same H1 (upd H1 l (.lst [V.str k])) := same_new nl _
    have el : (upd H1 l (.lst [V.str k])) l = some (.lst [V.str k]) := upd_same
    generalize upd H1 l (.lst [V.str k]) = H2 at s2 el ⊢
    refine ⟨_, rfl, x1, b, k, c, rfl, dp_mono (s1.trans s2) _ _ hx1, hb, hc, fun H3 p s3 np hp3 => ?_⟩
    obtain ⟨m1, m2⟩ := body_okT 4 _ _ hb
    refine catTwo (s3 _ _ el) hp3 (by rw [List.length_map]; show 1 + _ ≤ 1000; omega) fun H4 r s4 nr e4 => ?_
    exact ⟨_, r, k :: bodyT 4 b, rfl, rfl, .inl (SqL.of e4), text_ok (kind_len hk) hb hc, q k b rfl hp _ (s1.trans (s2.trans (s3.trans s4)))⟩
theorem scSaid : FnScope ["_law_thing", "e", "_law_others"] ["_law_thing"] (defScope sSaid) := ⟨rfl, rfl, rfl, by decide +kernel, rfl, by decide +kernel, by decide +kernel⟩
theorem ok_said {f fA : Addr} {fd dA : FuncData} (F : Fun K "_law_said" "_law_said" sSaid f fd) (T : Gs K mg) (R : Er K mg) (mV : mg "ValueError" = none) (kV : PySem.W.kitOne K (.ref R.cP) (.type "ValueError") = some true) (GA : FnOk P w K mg base (L2.CX P w) 11 fA dA ["program"] (spShowX K R.cP)) (bA : Binds K dA ["program"] []) (kA : PySem.W.keepIn K (.ref fA) = true) (mA : mg "show" = some (.ref fA)) :
    FnOk P w K mg base CX0 12 f fd ["_law_thing"] (spSaid K) := by
  refine F.ok scSaid (fun vs H Q E h => ?_) (fun cdv A outer s H vs Q E hr h => ?_)
  · obtain ⟨v, d, rfl, _⟩ := h
    rfl
  obtain ⟨v, d, rfl, hd, ld, q, qE⟩ := h
  refine ⟨_, pss_one (ps_try_as (i := 1) (tb := fun W => tRet (tTup (tCons (tC (.str "text")) (tCons (tCallS (spShowX K R.cP) (WE W) (tCons (tVar 0) tNil)) tNil))))
      (ts := fun a cls d => tSeq (tAsg (tCB (fun xs H Q => ∃ D, cls = .ref D ∧ d = none ∧ ExcC K D ∧ rIsET K D a xs H Q) (tCons (tVar 1) (tCons (tTup (tCons (tC (.ref R.c1)) (tCons (tC (.ref R.c2)) (tCons (tC (.ref R.c3)) (tCons (tC (.ref R.c4)) (tCons (tC (.ref R.c5)) tNil)))))) tNil))) (gName 2))
        (tRet (tTup (tCons (tC (.str "error")) (tCons (tAndV (tCB (fun xs H Q => ∃ D, cls = .ref D ∧ d = none ∧ ExcC K D ∧ rIsE K D a xs H Q) (tCons (tVar 1) (tCons (tC (.ref R.cP)) tNil))) (tAndV (tCB (fun xs H Q => ∃ D, cls = .ref D ∧ d = none ∧ ExcC K D ∧ rIsE K D a xs H Q) (tCons (tVar 1) (tCons (tC (.ty "ValueError")) tNil))) (tNotV (tVar 2)))) tNil)))))
      (Wout := fun _ _ _ _ => False) rfl rfl scSaid.nd rfl rfl ⟨rfl, by decide, .inl R.gH⟩ takes0
      (fun W pn xe tk _ => pss_one (ps_ret (pe_tup (pa_cons pe_str (pa_cons (by exact (pe_callS GA hr rfl mA kA bA (fun σ => passAt tk σ) (by exact (pa_cons (pv 0) pa_nil)))) pa_nil)))))
      (fun a oe cls d pn hz hf => pss_cons (ps_set (i := 2) scSaid.nd rfl (.inl rfl) (by exact pe_callB (call_isGT hz hf) (by rfl) T.isi (by decide +kernel) (pa_cons (pv 1) (pa_cons (pe_tup (pa_cons (pe_gref rfl R.g1) (pa_cons (pe_gref rfl R.g2) (pa_cons (pe_gref rfl R.g3) (pa_cons (pe_gref rfl R.g4) (pa_cons (pe_gref rfl R.g5) pa_nil)))))) pa_nil))))
        (pss_one (ps_ret (pe_tup (pa_cons pe_str (pa_cons (by exact (pe_and (pe_callB (call_isG hz hf) (by rfl) T.isi (by decide +kernel) (pa_cons (pv 1) (pa_cons (pe_gref rfl R.gP) pa_nil))) (pe_and (pe_callB (call_isG hz hf) (by rfl) T.isi (by decide +kernel) (pa_cons (pv 1) (pa_cons (pe_bltn (v := .ty "ValueError") (by rfl) mV (by decide +kernel) rfl) pa_nil))) (pe_one (pe_not (pv 2)))))) pa_nil))))))), ?_⟩
  refine ⟨_, rfl, v, d, rfl, hd, ld, fun k b e hp H1 s1 => ⟨(by show 2 ≤ sizeLine; decide), fun p np => ?_⟩, fun hp H1 s1 => ⟨true, R.eP, fun _ a na => ?_, fun z => nomatch z⟩⟩
  · exact q k b e hp _ p (s1.trans (same_new np _)) (s1.free np) upd_same
  · refine ⟨_, rfl, (by show 5 ≤ sizeLine; decide), fun tp ntp => ⟨R.cP, rfl, rfl, R.eC, tp, _, _, false, rfl, upd_same, ?_, R.k5, ?_⟩⟩
    · exact .cons (.own _) (.cons (.own _) (.cons (.own _) (.cons (.own _) (.cons (.own _) .nil))))
    have s2 := s1.trans (same_new ntp (.tup [.ref R.c1, .ref R.c2, .ref R.c3, .ref R.c4, .ref R.c5]))
    refine ⟨_, rfl, R.cP, rfl, rfl, R.eC, .ref R.cP, .ref R.cP, true, rfl, fun u h => h, R.k1, _, rfl, iteT ?_⟩
    refine ⟨_, rfl, R.cP, rfl, rfl, R.eC, .ty "ValueError", .type "ValueError", true, rfl, fun u h => h, kV, _, rfl, iteT ?_⟩
    refine ⟨_, rfl, _, rfl, (by show 2 ≤ sizeLine; decide), fun p np => ?_⟩
    exact qE hp _ p (s2.trans (same_new np _)) (s2.free np) upd_same
end
abbrev okS (z : Str) : Prop := PyData.strOk z = true
theorem okS_iff {z : Str} : okS z ↔ ∀ n ∈ z.cps.toList, n < 0x110000 := by
  show z.cps.all (· < 0x110000) = true ↔ _
  rw [← Array.all_toList, List.all_eq_true]
  simp
theorem okS_app {a b : Str} (ha : okS a) (hb : okS b) : okS (a ++ b) := by
  rw [okS_iff] at ha hb ⊢
  intro n m
  have m' : n ∈ (a.cps ++ b.cps).toList := m
  rw [Array.toList_append, List.mem_append] at m'
  exact m'.elim (ha n) (hb n)
theorem okS_of (s : String) : okS (Str.ofString s) := by
  rw [okS_iff, Str.ofString_eq_toList]
  intro n m
  have m' : n ∈ s.toList.map Char.toNat := by simpa using m
  obtain ⟨c, _, rfl⟩ := List.mem_map.mp m'
  rcases c.valid with h | h
  · exact Nat.lt_trans h (by decide)
  · exact h.2
theorem okS_lit (s : String) : okS (s : Str) := okS_of s
theorem okS_glue {sep : Str} (hs : okS sep) : ∀ {ys : List Str} {acc : Array Nat}, (∀ n ∈ acc.toList, n < 0x110000) → (∀ y ∈ ys, okS y) → ∀ n ∈ (List.foldl (fun acc (p : Str) => acc ++ sep.cps ++ p.cps) acc ys).toList, n < 0x110000
  | [], acc, ha, _ => ha
  | y :: r, acc, ha, hy => by
    rw [List.foldl_cons]
    refine okS_glue hs (fun n m => ?_) (fun z m => hy z (List.mem_cons_of_mem _ m))
    rw [Array.toList_append, Array.toList_append, List.mem_append, List.mem_append] at m
    rcases m with (m | m) | m
    · exact ha n m
    · exact (okS_iff.mp hs) n m
    · exact (okS_iff.mp (hy y (by simp))) n m
theorem okS_join {sep : Str} {ys : List Str} (hs : okS sep) (hy : ∀ y ∈ ys, okS y) : okS (Txt.join sep ys) := by
  rw [okS_iff]
  show ∀ n ∈ (List.foldl (fun acc (p : Str) => acc ++ sep.cps ++ p.cps) ((ys.headD Str.empty).cps) (ys.drop 1)).toList, n < 0x110000
  refine okS_glue hs (fun n m => ?_) (fun y m => hy y (List.mem_of_mem_drop m))
  cases ys with
  | nil => simp [Str.empty] at m
  | cons y r => exact (okS_iff.mp (hy y (by simp))) n m
theorem okS_empty : okS Str.empty := by decide +kernel
theorem strD_okS {d : PyData} (h : Lay d) : okS (strD d) := by
  cases d with
  | str z =>
    unfold Lay at h
    simp only [PyData.canLay0] at h
    exact h
  | int i => exact okS_of _
  | _ => exact okS_empty
theorem joinD_okS {ds : List PyData} (h : ∀ d ∈ ds, Lay d) : okS (joinD ds) := by
  refine okS_join (okS_lit " ") fun y m => ?_
  obtain ⟨d, md, rfl⟩ := List.mem_map.mp m
  exact strD_okS (h d md)
theorem plainT_okS {s : PyData} (h : Lay s) : okS (plainT s) := by
  unfold plainT
  split
  · rename_i z g t x
    have lm := lay_mem (lay_tup h)
    split
    · refine okS_join (okS_lit " ") fun y m => ?_
      simp only [List.map_cons, List.map_nil, List.mem_cons, List.not_mem_nil, or_false] at m
      rcases m with e | e | e
      · rw [e]; exact strD_okS (lm (.str z) (by simp))
      · rw [e]
        unfold askW
        split
        · exact strD_okS (lm t (by simp))
        · exact okS_app (okS_app (okS_lit "x") (strD_okS (lm (.str g) (by simp)))) (strD_okS (lm t (by simp)))
      · rw [e]; exact strD_okS (lm x (by simp))
    · exact joinD_okS lm
  · exact joinD_okS (lay_mem (lay_tup h))
  · exact okS_empty
theorem condT_okS {w : Str} {co : PyData} (hw : okS w) (h : Lay co) : okS (condT w co) := by
  unfold condT
  split
  · refine okS_join (okS_lit " ") fun y m => ?_
    obtain ⟨d, md, rfl⟩ := List.mem_map.mp m
    rcases List.mem_cons.mp md with rfl | md
    · exact hw
    · exact strD_okS (lay_mem (lay_tup h) d md)
  · exact okS_empty
theorem stT_okS {g : PyData → List Str} (hg : ∀ d, Lay d → ∀ y ∈ g d, okS y) {s : PyData} (h : Lay s) : ∀ y ∈ stT g s, okS y := by
  have one : ∀ y ∈ [plainT s], okS y := fun y m => by rw [List.mem_singleton.mp m]; exact plainT_okS h
  unfold stT
  split
  · rename_i z c b
    have lm := lay_mem (lay_tup h)
    split
    · intro y m
      simp only [List.mem_cons, List.mem_append, List.not_mem_nil, or_false] at m
      rcases m with rfl | m | rfl
      · exact condT_okS (strD_okS (lm (.str z) (by simp))) (lm c (by simp))
      · exact hg b (lm b (by simp)) y m
      · exact okS_lit "end"
    · exact one
  · rename_i z c b1 b2
    have lm := lay_mem (lay_tup h)
    split
    · intro y m
      simp only [List.mem_cons, List.mem_append, List.not_mem_nil, or_false] at m
      rcases m with rfl | (m | m) | rfl
      · exact condT_okS (strD_okS (lm (.str z) (by simp))) (lm c (by simp))
      · exact hg b1 (lm b1 (by simp)) y m
      · split at m
        · cases m
        · rcases List.mem_cons.mp m with rfl | m
          · exact okS_lit "else"
          · exact hg b2 (lm b2 (by simp)) y m
      · exact okS_lit "end"
    · exact one
  · exact one
theorem bodyT_okS : ∀ (n : Nat) (d : PyData), Lay d → ∀ y ∈ bodyT n d, okS y
  | 0, _, _ => fun y m => nomatch m
  | n + 1, .tuple ss, h => by
    intro y m
    have m' : y ∈ (ss.map (stT (bodyT n))).flatten := m
    obtain ⟨ys, my, m2⟩ := List.mem_flatten.mp m'
    obtain ⟨s, ms, rfl⟩ := List.mem_map.mp my
    exact stT_okS (bodyT_okS n) (lay_mem (lay_tup h) s ms) y m2
  | _ + 1, .none, _ => fun y m => nomatch m
  | _ + 1, .bool _, _ => fun y m => nomatch m
  | _ + 1, .int _, _ => fun y m => nomatch m
  | _ + 1, .str _, _ => fun y m => nomatch m
  | _ + 1, .list _, _ => fun y m => nomatch m
  | _ + 1, .dict _, _ => fun y m => nomatch m
theorem textT_okS {k : Str} {d : PyData} (hk : okS k) (h : Lay d) : okS (textT k d) := by
  refine okS_join (okS_lit "\n") fun y m => ?_
  rcases List.mem_cons.mp m with rfl | m
  · exact hk
  · exact bodyT_okS 4 d h y m
abbrev sLaw : Stmt := top 63
theorem prog_depth {k : Str} {b : PyData} (h : isProg (.tuple [.str k, b]) = true) : (PyData.tuple [.str k, b]).depth ≤ 10 := by
  obtain ⟨c, hb, _, _⟩ := prog_body h
  have := body_depth hb
  simp only [PyData.depth, PyData.depthAll]
  omega
theorem shaped_pair {a b : PyData} (ha : Lay a) (hb : Lay b) (da : a.depth = 0) (db : b.depth = 0) : SeqAt.shaped (.tuple [a, b]) = true := by
  show ((PyData.tuple [a, b]).canLay0 && decide ((PyData.tuple [a, b]).depth ≤ 64)) = true
  rw [Bool.and_eq_true]
  refine ⟨lay2 ha hb, decide_eq_true ?_⟩
  simp only [PyData.depth, PyData.depthAll, da, db]
  decide
theorem lay_bool (b : Bool) : Lay (.bool b) := by unfold Lay; simp only [PyData.canLay0]
/-- a pair that is told against the same pair that is written: not unlike -/
theorem ne_same {K : PySem.W.Frag} {H : Hp} {p r : Addr} {x1 x2 : V} {d1 d2 : PyData} {Q : VK} (hp : H p = some (.tup [x1, x2])) (hr : H r = some (.tup [x1, x2])) (h1 : Dp K H x1 d1) (h2 : Dp K H x2 d2) (sh : SeqAt.shaped (.tuple [d1, d2]) = true) (q : Q (.bl false) H) : rNeD K (.ref p) (.ref r) H Q := by
  refine ⟨.tuple [d1, d2], .tuple [d1, d2], .tup (SqT.of hp) (.cons h1 (.cons h2 .nil)), .tup (SqT.of hr) (.cons h1 (.cons h2 .nil)), sh, sh, ?_⟩
  rw [SeqAt.eqv_refl _ (SeqAt.canLay_of_shaped sh)]
  exact q
theorem eq_same {K : PySem.W.Frag} {H : Hp} {p r : Addr} {x1 x2 : V} {d1 d2 : PyData} {Q : VK} (hp : H p = some (.tup [x1, x2])) (hr : H r = some (.tup [x1, x2])) (h1 : Dp K H x1 d1) (h2 : Dp K H x2 d2) (sh : SeqAt.shaped (.tuple [d1, d2]) = true) (q : Q (.bl true) H) : rEqD K (.ref p) (.ref r) H Q := by
  refine ⟨.tuple [d1, d2], .tuple [d1, d2], .tup (SqT.of hp) (.cons h1 (.cons h2 .nil)), .tup (SqT.of hr) (.cons h1 (.cons h2 .nil)), sh, sh, ?_⟩
  rw [SeqAt.eqv_refl _ (SeqAt.canLay_of_shaped sh)]
  exact q
theorem sh_text {z : Str} (h : okS z) : SeqAt.shaped (.tuple [.str "text", .str z]) = true := shaped_pair (lay_str (by decide +kernel)) (lay_str h) (by simp only [PyData.depth]) (by simp only [PyData.depth])
theorem sh_err : SeqAt.shaped (.tuple [.str "error", .bool true]) = true := shaped_pair (lay_str (by decide +kernel)) (lay_bool _) (by simp only [PyData.depth]) (by simp only [PyData.depth])
def spLaw (K : PySem.W.Frag) : Sp := fun vs H Q _ => ∃ (a : Addr) (ns : List Int), vs = [.ref a] ∧ SqL K H a (ns.map V.int) ∧ ns.length ≤ 63 ∧ ∀ H', Q (.bl true) H'
section
variable {P : Program} {w : World} {K : PySem.W.Frag} {mg : Str → Option Value} {base : Heap}
theorem scLaw : FnScope ["_law_script", "_law_k", "_law_bag_here", "_law_program_here", "_law_due", "_law_thing"] ["_law_script"] (defScope sLaw) := ⟨rfl, rfl, rfl, by decide +kernel, rfl, by decide +kernel, by decide +kernel⟩
theorem ok_law {f : Addr} {fd : FuncData} (F : Fun K "law" "law" sLaw f fd) (T : Gs K mg) (T2 : G2 mg)
    (CB : Cal P w K mg base 1 "_law_bag" ["_law_script", "_law_k"] (spBag K)) (CK : Cal P w K mg base 2 "_law_kind" ["_law_bag_here"] spKind)
    (CG : Cal P w K mg base 14 "_law_program" ["_law_bag_here", "_law_kind_here", "_law_most"] (spProgL K)) (CT : Cal P w K mg base 7 "_law_text" ["_law_program_here"] (spText K)) (CW : Cal P w K mg base 11 "show" ["program"] (spShow K))
    (CA : Cal P w K mg base 12 "_law_said" ["_law_thing"] (spSaid K)) (CS : Cal P w K mg base 13 "_law_spoilt" ["_law_bag_here", "_law_thing"] (spSpoilt K 10)) (CL : Cal P w K mg base 14 "_law_is_program" ["_law_thing"] (spProgC K)) : FnOk P w K mg base CX0 15 f fd ["_law_script"] (spLaw K) := by
  refine F.ok scLaw (fun vs H Q E h => ?_) (fun cdv A outer s H vs Q E hr h => ?_)
  · obtain ⟨a, ns, rfl, _⟩ := h
    rfl
  obtain ⟨a, ns, rfl, hS, h63, q⟩ := h
  have hr1 : Room 1 _ := hr.mono (by decide)
  have hr2 : Room 2 _ := hr.mono (by decide)
  have hr7 : Room 7 _ := hr.mono (by decide)
  have hr11 : Room 11 _ := hr.mono (by decide)
  have hr12 : Room 12 _ := hr.mono (by decide)
  have hr13 : Room 13 _ := hr.mono (by decide)
  refine ⟨_, pss_cons (ps_for PassesOwn.never rfl (pi_range1 (by rfl) T2.range (pa_cons (pe_callB (call_max2 rfl) (by rfl) T2.max (by decide +kernel) (pa_cons pe_int (pa_cons (pe_callB (call_min2 rfl) (by rfl) T2.min (by decide +kernel) (pa_cons pe_int (pa_cons (pe_callB call_len_seq (by rfl) T.len PySem.boot_len (pa_cons (pv 0) pa_nil)) pa_nil))) pa_nil))) pa_nil)) (pg_name (i := 1) scLaw.nd rfl (.inl rfl))
      (pss_cons (ps_set (i := 2) scLaw.nd rfl (.inl rfl) (pe_call CB.G hr1 rfl CB.m CB.kp CB.b .nil pass0 (pa_cons (pv 0) (pa_cons (pv 1) pa_nil))))
      (pss_cons (ps_set (i := 3) scLaw.nd rfl (.inl rfl) (pe_call CG.G hr rfl CG.m CG.kp CG.b .nil pass0 (pa_cons (pv 2) (pa_cons (pe_call CK.G hr2 rfl CK.m CK.kp CK.b .nil pass0 (pa_cons (pv 2) pa_nil)) (pa_cons pe_int pa_nil)))))
      (pss_cons (ps_set (i := 4) scLaw.nd rfl (.inl rfl) (pe_call CT.G hr7 rfl CT.m CT.kp CT.b .nil pass0 (pa_cons (pv 3) pa_nil)))
      (pss_cons (ps_if (PW.pt (pw_or (pt_cmpR (op_neD hr.units) (pe_call CA.G hr12 rfl CA.m CA.kp CA.b .nil pass0 (pa_cons (pv 3) pa_nil)) (pe_tup (pa_cons pe_str (pa_cons (pv 4) pa_nil))) (nomark _)) (pw_or1 (pt_cmpR (op_neD hr.units) (pe_call CA.G hr12 rfl CA.m CA.kp CA.b .nil pass0 (pa_cons (pv 3) pa_nil)) (pe_tup (pa_cons pe_str (pa_cons (pv 4) pa_nil))) (nomark _))))) (pss_one (ps_ret pe_bl)) pss_nil)
      (pss_cons (ps_set (i := 5) scLaw.nd rfl (.inl rfl) (pe_call CS.G hr13 rfl CS.m CS.kp CS.b .nil pass0 (pa_cons (pv 2) (pa_cons (pv 3) pa_nil))))
      (pss_cons (ps_if (PW.pt (pw_and (pt_not (pt_val (pe_call CL.G hr rfl CL.m CL.kp CL.b .nil pass0 (pa_cons (pv 5) pa_nil)))) (pw_and1 (pt_cmpR (op_neD hr.units) (pe_call CA.G hr12 rfl CA.m CA.kp CA.b .nil pass0 (pa_cons (pv 5) pa_nil)) (pe_tup (pa_cons pe_str (pa_cons pe_bl pa_nil))) (nomark _))))) (pss_one (ps_ret pe_bl)) pss_nil)
      (pss_one (ps_if (PW.pt (pw_and (pt_val (pe_call CL.G hr rfl CL.m CL.kp CL.b .nil pass0 (pa_cons (pv 5) pa_nil))) (pw_and1 (pt_cmpR (op_neD hr.units) (pe_call CA.G hr12 rfl CA.m CA.kp CA.b .nil pass0 (pa_cons (pv 5) pa_nil)) (pe_tup (pa_cons pe_str (pa_cons (pe_call CT.G hr7 rfl CT.m CT.kp CT.b .nil pass0 (pa_cons (pv 5) pa_nil)) pa_nil))) (nomark _))))) (pss_one (ps_ret pe_bl)) pss_nil)))))))))
    (pss_one (ps_ret (pe_and (pe_cmpR op_eq (pe_call CW.G hr11 rfl CW.m CW.kp CW.b .nil pass0 (pa_cons (pe_tup (pa_cons pe_str (pa_cons (pe_tup pa_nil) pa_nil))) pa_nil)) pe_str (nomark _)) (pe_one (pe_cmpR (op_eqD hr.units) (pe_call CA.G hr12 rfl CA.m CA.kp CA.b .nil pass0 (pa_cons (pe_call CT.G hr7 rfl CT.m CT.kp CT.b .nil pass0 (pa_cons (pe_tup (pa_cons pe_str (pa_cons (pe_tup pa_nil) pa_nil))) pa_nil)) pa_nil)) (pe_tup (pa_cons pe_str (pa_cons pe_bl pa_nil))) (nomark _)))))), ?_⟩
  refine ⟨_, rfl, a, _, rfl, .inl hS, _, _, rfl, _, _, rfl, _, rfl, ?_, ?_, ?_⟩
  · split <;> split <;> omega
  · split <;> split <;> omega
  rw [show (ns.map V.int).length = ns.length from List.length_map _]
  have h12 : (if (if ((ns.length : Nat) : Int) < 10 then ((ns.length : Nat) : Int) else 10) > 2 then (if ((ns.length : Nat) : Int) < 10 then ((ns.length : Nat) : Int) else 10) else 2).toNat ≤ 12 := by
    split <;> split <;> omega
  generalize (if (if ((ns.length : Nat) : Int) < 10 then ((ns.length : Nat) : Int) else 10) > 2 then (if ((ns.length : Nat) : Int) < 10 then ((ns.length : Nat) : Int) else 10) else 2).toNat = turns at h12 ⊢
  refine for_range (lo := 0) (n := turns) (fun i σ H' => ∃ (s1 s2 s3 s4 s5 : Option V), σ = [some (.ref a), s1, s2, s3, s4, s5] ∧ Same H H') ⟨none, none, none, none, none, rfl, Same.refl H⟩ ?_ ?_
  · rintro i σ H1 hi ⟨s1, s2, s3, s4, s5, rfl, sH1⟩
    refine ⟨_, rfl, _, rfl, a, ns, i, (by rw [Int.zero_add]; rfl), sH1.seq hS, h63, by omega, fun H2 b sH2 nb bag2 => ?_⟩
    have nHb : H b = none := sH1.free nb
    have sHb : ∀ H', Fr b H2 H' → Same H H' := fun H' f x o hx => f x o (fun e => by rw [e] at hx; have := sH1 _ _ hx; rw [nb] at this; cases this) (sH2 _ _ (sH1 _ _ hx))
    refine ⟨_, rfl, _, rfl, b, rfl, bag2, fun H3 k f3 bag3 hk => ⟨b, k, rfl, bag3, hk, fun H4 t v d f4 bag4 et ntb hd hp hl nd => ?_⟩⟩
    have lk : Lay (.str k) := lay_str (strOk_kind hk)
    have hP : Da K b H4 (.ref t) (.tuple [.str k, d]) := da_tup ntb et (.cons (.str _) (.cons hd .nil))
    have sH4 : Same H H4 := sHb _ (f3.trans f4)
    obtain ⟨c, hb, hc, hki⟩ := prog_body hp
    have oT : okS (textT k d) := textT_okS (strOk_kind hk) hl
    -- due
    refine ⟨_, rfl, .ref t, k, d, c, rfl, hP.dp, lay2 lk hl, kind_len hki, hb, hc, fun H5 s5' => ?_⟩
    -- said, twice
    refine ⟨_, rfl, .ref t, _, rfl, dp_mono s5' _ _ hP.dp, lay2 lk hl, fun k' b' e' _ H6 p6 s6 np6 e6 => ?_, fun hf => absurd hp (by rw [hf]; decide)⟩
    injection e' with e'; injection e' with e1 e2; injection e1 with e1; injection e2 with e2
    subst e1 e2
    refine ⟨_, rfl, (by show 2 ≤ sizeLine; decide), fun t6 nt6 => ?_⟩
    have s7 := same_new nt6 (.tup [.str "text", .str (textT k d)])
    refine ne_same (s7 _ _ e6) upd_same (.str _) (.str _) (sh_text oT) ⟨_, rfl, iteF ?_⟩
    have s47 := s5'.trans (s6.trans s7)
    generalize upd H6 t6 (.tup [.str "text", .str (textT k d)]) = H7 at s7 s47 ⊢
    refine ⟨_, rfl, .ref t, _, rfl, dp_mono s47 _ _ hP.dp, lay2 lk hl, fun k' b' e' _ H8 p8 s8 np8 e8 => ?_, fun hf => absurd hp (by rw [hf]; decide)⟩
    injection e' with e'; injection e' with e1 e2; injection e1 with e1; injection e2 with e2
    subst e1 e2
    refine ⟨_, rfl, (by show 2 ≤ sizeLine; decide), fun t8 nt8 => ?_⟩
    have s9 := same_new nt8 (.tup [.str "text", .str (textT k d)])
    refine ne_same (s9 _ _ e8) upd_same (.str _) (.str _) (sh_text oT) ⟨_, rfl, iteF ?_⟩
    have s49 := s47.trans (s8.trans s9)
    generalize upd H8 t8 (.tup [.str "text", .str (textT k d)]) = H9 at s9 s49 ⊢
    -- spoilt
    refine ⟨_, rfl, _, rfl, b, .ref t, _, rfl, bag4.keep s49, hP.fr (Fr.of s49), lay2 lk hl, prog_wd hp, prog_depth hp, fun H10 v10 d10 f10 bag10 h10 l10 w10 => ?_⟩
    have fin : ∀ H', Same H10 H' → Same H H' := fun H' s' x o hx => s' x o (f10 x o (fun e => by rw [e, nHb] at hx; cases hx) (s49 x o (sH4 x o hx)))
    refine ⟨_, rfl, v10, d10, rfl, h10.dp, l10, w10, fun H11 s11 => ⟨_, rfl, ?_⟩⟩
    cases hi10 : isProg d10 with
    | true =>
      obtain ⟨k2, b2, rfl⟩ := prog_shape hi10
      obtain ⟨c2, hb2, hc2, hki2⟩ := prog_body hi10
      refine iteF (iteF ⟨_, rfl, v10, _, rfl, dp_mono s11 _ _ h10.dp, l10, w10, fun H12 s12 => ⟨_, rfl, ?_⟩⟩)
      rw [hi10]
      have s1012 := s11.trans s12
      refine iteT ⟨_, rfl, v10, _, rfl, dp_mono s1012 _ _ h10.dp, l10, fun k' b' e' _ H13 p13 s13 np13 e13 => ?_, fun hf => absurd hi10 (by rw [hf]; decide)⟩
      injection e' with e'; injection e' with e1 e2; injection e1 with e1; injection e2 with e2
      subst e1 e2
      have s1013 := s1012.trans s13
      have lm10 := lay_mem (lay_tup l10)
      refine ⟨_, rfl, v10, k2, b2, c2, rfl, dp_mono s1013 _ _ h10.dp, l10, kind_len hki2, hb2, hc2, fun H14 s14 => ⟨(by show 2 ≤ sizeLine; decide), fun t14 nt14 => ?_⟩⟩
      have s15 := same_new nt14 (.tup [.str "text", .str (textT k2 b2)])
      have ok2 : okS k2 := strD_okS (lm10 (.str k2) (by simp))
      refine ne_same (s15 _ _ (s14 _ _ e13)) upd_same (.str _) (.str _) (sh_text (textT_okS ok2 (lm10 b2 (by simp)))) ⟨_, rfl, iteF ?_⟩
      exact ⟨_, _, _, _, _, rfl, fin _ (s1013.trans (s14.trans s15))⟩
    | false =>
      refine iteT ⟨_, rfl, v10, d10, rfl, dp_mono s11 _ _ h10.dp, l10, fun _ _ _ ht => absurd ht (by rw [hi10]; decide), fun _ H12 p12 s12 np12 e12 => ⟨(by show 2 ≤ sizeLine; decide), fun t12 nt12 => ?_⟩⟩
      have s13 := same_new nt12 (.tup [.str "error", .bl true])
      refine ne_same (s13 _ _ e12) upd_same (.str _) (.bl _) sh_err ⟨_, rfl, iteF ?_⟩
      have s1013 := s11.trans (s12.trans s13)
      generalize upd H12 t12 (.tup [.str "error", .bl true]) = H13 at s13 s1013 ⊢
      refine ⟨_, rfl, v10, d10, rfl, dp_mono s1013 _ _ h10.dp, l10, w10, fun H14 s14 => ⟨_, rfl, ?_⟩⟩
      rw [hi10]
      exact iteF (iteF ⟨_, _, _, _, _, rfl, fin _ (s1013.trans s14)⟩)
  · rintro σ H1 ⟨s1, s2, s3, s4, s5, rfl, sH1⟩
    refine ⟨(by show 0 ≤ sizeLine; decide), fun e1 n1 => ⟨(by show 2 ≤ sizeLine; decide), fun p1 m1 => ⟨.ref p1, "collector", .tuple [], rfl, .tup (SqT.of upd_same) (.cons (.str _) (.cons (.tup (SqT.of (same_new m1 _ _ _ upd_same)) .nil) .nil)), lay2 (lay_str (by decide +kernel)) lay_nil, by decide +kernel, fun H2 s2 => ?_⟩⟩⟩
    refine ⟨rfl, _, rfl, ?_⟩
    have e0 : textT "collector" (.tuple []) = "collector" := by decide +kernel
    rw [e0]
    refine strT ?_
    refine ⟨(by show 0 ≤ sizeLine; decide), fun e2 n2 => ⟨(by show 2 ≤ sizeLine; decide), fun p2 m2 => ⟨.ref p2, "teller", .tuple [], 0, rfl, .tup (SqT.of upd_same) (.cons (.str _) (.cons (.tup (SqT.of (same_new m2 _ _ _ upd_same)) .nil) .nil)), lay2 (lay_str (by decide +kernel)) lay_nil, by decide, by decide +kernel, by decide, fun H4 s4 => ?_⟩⟩⟩
    refine ⟨_, _, rfl, .str _, lay_str (textT_okS (by decide +kernel) lay_nil), fun _ _ e => absurd e (fun z => PyData.noConfusion z), fun _ H5 p5 s5 np5 e5 => ⟨(by show 2 ≤ sizeLine; decide), fun t5 nt5 => ?_⟩⟩
    exact eq_same (same_new nt5 _ _ _ e5) upd_same (.str _) (.bl _) sh_err (q _)
end
theorem sqt_of {K : PySem.W.Frag} {a : Addr} {od : Option Addr} {sl : Array (Option Value)} {n : Nat} {its : Array Value} {xs : List V} (h : K.lookup a = some ⟨.type "tuple", od, .seq its n, sl⟩) (hz : its.size ≤ sizeLine) (r : Vals xs its.toList) : ∀ H, SqT K H a xs := fun H => .inr ⟨_, its, n, h, rfl, rfl, hz, r⟩
theorem kit_self {K : PySem.W.Frag} {D : Addr} : PySem.W.kitOne K (.ref D) (.ref D) = some true := by
  unfold PySem.W.kitOne
  rw [if_pos (beq_self_eq_true _)]
theorem kit_type {K : PySem.W.Frag} {D : Addr} {T : String} {b : Bool} (hm : PySem.W.kitMeta T = true) (hs : PySem.W.subIn K (.ref D) (.type T) = some b) : PySem.W.kitOne K (.ref D) (.type T) = some b := by
  unfold PySem.W.kitOne
  have hn : ¬ (Value.ref D == Value.type T) = true := fun q => by have e := beq_iff_eq.mp q; cases e
  rw [if_neg hn]
  show (if PySem.W.kitMeta T = true then PySem.W.subIn K (.ref D) (.type T) else none) = some b
  rw [if_pos hm]
  exact hs
theorem kit_no {K : PySem.W.Frag} {D C : Addr} (hs : PySem.W.subIn K (.ref D) (.ref D) = some true) (hd : PySem.W.hasDictIn K C = true) (ht : PySem.W.typeIn K (.ref C) = some (.type "type")) (hf : PySem.W.subIn K (.ref D) (.ref C) = some false) : PySem.W.kitOne K (.ref D) (.ref C) = some false := by
  obtain ⟨cd, hc, _⟩ := PySem.W.any_some hd
  unfold PySem.W.kitOne
  rw [if_neg (fun q => by have e := Value.ref.inj (beq_iff_eq.mp q); subst e; rw [hs] at hf; cases hf)]
  have e2 : ((PySem.W.clsIn K C).isSome && PySem.W.typeIn K (.ref C) == some (.type "type")) = true := by rw [hc, ht] <;> rfl
  show (if ((PySem.W.clsIn K C).isSome && PySem.W.typeIn K (.ref C) == some (.type "type")) = true then PySem.W.subIn K (.ref D) (.ref C) else none) = some false
  rw [if_pos e2]
  exact hf
theorem kit_none5 {K : PySem.W.Frag} {t c1 c2 c3 c4 c5 : Value} (h1 : PySem.W.kitOne K t c1 = some false) (h2 : PySem.W.kitOne K t c2 = some false) (h3 : PySem.W.kitOne K t c3 = some false) (h4 : PySem.W.kitOne K t c4 = some false) (h5 : PySem.W.kitOne K t c5 = some false) : PySem.W.kitAny K t [c1, c2, c3, c4, c5] = some false := by
  simp only [PySem.W.kitAny, h1, h2, h3, h4, h5]
theorem all_mk {l : PySem.W.OpenLaw} {w : World} {K : PySem.W.Frag} {h : Heap} {mg : Str → Option Value} {fa : Addr} (X : K.In h) (G : h.Ns mainGlobals mg) (hfa : mg "law" = some (.ref fa))
    {fFrom : Addr} {odFrom anFrom : Option Addr} {slFrom : Array (Option Value)} {ocFrom kVFrom dcFrom pmFrom cdFrom ctFrom : Value}
    {fInt : Addr} {odInt anInt : Option Addr} {slInt : Array (Option Value)} {ocInt kVInt dcInt pmInt cdInt ctInt : Value}
    {fTerm : Addr} {odTerm anTerm : Option Addr} {slTerm : Array (Option Value)} {ocTerm kVTerm dcTerm pmTerm cdTerm ctTerm : Value}
    {fCond : Addr} {odCond anCond : Option Addr} {slCond : Array (Option Value)} {ocCond kVCond dcCond pmCond cdCond ctCond : Value}
    {fPart : Addr} {odPart anPart : Option Addr} {slPart : Array (Option Value)} {ocPart kVPart dcPart pmPart cdPart ctPart : Value}
    {fWord : Addr} {odWord anWord : Option Addr} {slWord : Array (Option Value)} {ocWord kVWord dcWord pmWord cdWord ctWord : Value}
    {fRoles : Addr} {odRoles anRoles : Option Addr} {slRoles : Array (Option Value)} {ocRoles kVRoles dcRoles pmRoles cdRoles ctRoles : Value}
    {fPlain : Addr} {odPlain anPlain : Option Addr} {slPlain : Array (Option Value)} {ocPlain kVPlain dcPlain pmPlain cdPlain ctPlain : Value}
    {fOut : Addr} {odOut anOut : Option Addr} {slOut : Array (Option Value)} {ocOut kVOut dcOut pmOut cdOut ctOut : Value}
    {fBodies : Addr} {odBodies anBodies : Option Addr} {slBodies : Array (Option Value)} {ocBodies kVBodies dcBodies pmBodies cdBodies ctBodies : Value}
    {fProg : Addr} {odProg anProg : Option Addr} {slProg : Array (Option Value)} {ocProg kVProg dcProg pmProg cdProg ctProg : Value}
    {fShow : Addr} {odShow anShow : Option Addr} {slShow : Array (Option Value)} {ocShow kVShow dcShow pmShow cdShow ctShow : Value}
    {fBL : Addr} {odBL anBL : Option Addr} {slBL : Array (Option Value)} {ocBL kVBL dcBL pmBL cdBL ctBL : Value}
    {fSL : Addr} {odSL anSL : Option Addr} {slSL : Array (Option Value)} {ocSL kVSL dcSL pmSL cdSL ctSL : Value}
    {fPL : Addr} {odPL anPL : Option Addr} {slPL : Array (Option Value)} {ocPL kVPL dcPL pmPL cdPL ctPL : Value}
    {fJn : Addr} {odJn anJn : Option Addr} {slJn : Array (Option Value)} {ocJn kVJn dcJn pmJn cdJn ctJn : Value}
    {fBag : Addr} {odBag anBag : Option Addr} {slBag : Array (Option Value)} {ocBag kVBag dcBag pmBag cdBag ctBag : Value}
    {fDraw : Addr} {odDraw anDraw : Option Addr} {slDraw : Array (Option Value)} {ocDraw kVDraw dcDraw pmDraw cdDraw ctDraw : Value}
    {fLarge : Addr} {odLarge anLarge : Option Addr} {slLarge : Array (Option Value)} {ocLarge kVLarge dcLarge pmLarge cdLarge ctLarge : Value}
    {fSteps : Addr} {odSteps anSteps : Option Addr} {slSteps : Array (Option Value)} {ocSteps kVSteps dcSteps pmSteps cdSteps ctSteps : Value}
    {fTermL : Addr} {odTermL anTermL : Option Addr} {slTermL : Array (Option Value)} {ocTermL kVTermL dcTermL pmTermL cdTermL ctTermL : Value}
    {fCondL : Addr} {odCondL anCondL : Option Addr} {slCondL : Array (Option Value)} {ocCondL kVCondL dcCondL pmCondL cdCondL ctCondL : Value}
    {fSimple : Addr} {odSimple anSimple : Option Addr} {slSimple : Array (Option Value)} {ocSimple kVSimple dcSimple pmSimple cdSimple ctSimple : Value}
    {fKind : Addr} {odKind anKind : Option Addr} {slKind : Array (Option Value)} {ocKind kVKind dcKind pmKind cdKind ctKind : Value}
    {fStmt : Addr} {odStmt anStmt : Option Addr} {slStmt : Array (Option Value)} {ocStmt kVStmt dcStmt pmStmt cdStmt ctStmt : Value}
    {fBody : Addr} {odBody anBody : Option Addr} {slBody : Array (Option Value)} {ocBody kVBody dcBody pmBody cdBody ctBody : Value}
    {fProgL : Addr} {odProgL anProgL : Option Addr} {slProgL : Array (Option Value)} {ocProgL kVProgL dcProgL pmProgL cdProgL ctProgL : Value}
    {fWhole : Addr} {odWhole anWhole : Option Addr} {slWhole : Array (Option Value)} {ocWhole kVWhole dcWhole pmWhole cdWhole ctWhole : Value}
    {fIsTermL : Addr} {odIsTermL anIsTermL : Option Addr} {slIsTermL : Array (Option Value)} {ocIsTermL kVIsTermL dcIsTermL pmIsTermL cdIsTermL ctIsTermL : Value}
    {fIsVar : Addr} {odIsVar anIsVar : Option Addr} {slIsVar : Array (Option Value)} {ocIsVar kVIsVar dcIsVar pmIsVar cdIsVar ctIsVar : Value}
    {fIsCondL : Addr} {odIsCondL anIsCondL : Option Addr} {slIsCondL : Array (Option Value)} {ocIsCondL kVIsCondL dcIsCondL pmIsCondL cdIsCondL ctIsCondL : Value}
    {fIsSimple : Addr} {odIsSimple anIsSimple : Option Addr} {slIsSimple : Array (Option Value)} {ocIsSimple kVIsSimple dcIsSimple pmIsSimple cdIsSimple ctIsSimple : Value}
    {fOne : Addr} {odOne anOne : Option Addr} {slOne : Array (Option Value)} {ocOne kVOne dcOne pmOne cdOne ctOne : Value}
    {fCnt : Addr} {odCnt anCnt : Option Addr} {slCnt : Array (Option Value)} {ocCnt kVCnt dcCnt pmCnt cdCnt ctCnt : Value}
    {fIsProgL : Addr} {odIsProgL anIsProgL : Option Addr} {slIsProgL : Array (Option Value)} {ocIsProgL kVIsProgL dcIsProgL pmIsProgL cdIsProgL ctIsProgL : Value}
    {fLL : Addr} {odLL anLL : Option Addr} {slLL : Array (Option Value)} {ocLL kVLL dcLL pmLL cdLL ctLL : Value}
    {fText : Addr} {odText anText : Option Addr} {slText : Array (Option Value)} {ocText kVText dcText pmText cdText ctText : Value}
    {fOdd : Addr} {odOdd anOdd : Option Addr} {slOdd : Array (Option Value)} {ocOdd kVOdd dcOdd pmOdd cdOdd ctOdd : Value}
    {fSpoilt : Addr} {odSpoilt anSpoilt : Option Addr} {slSpoilt : Array (Option Value)} {ocSpoilt kVSpoilt dcSpoilt pmSpoilt cdSpoilt ctSpoilt : Value}
    {fSaid : Addr} {odSaid anSaid : Option Addr} {slSaid : Array (Option Value)} {ocSaid kVSaid dcSaid pmSaid cdSaid ctSaid : Value}
    {fLaw : Addr} {odLaw anLaw : Option Addr} {slLaw : Array (Option Value)} {ocLaw kVLaw dcLaw pmLaw cdLaw ctLaw : Value}
    {tG : Tok}
    {tL : Tok}
    {tS : Tok}
    {tD : Tok}
    {aV : Addr} {odV : Option Addr} {slV : Array (Option Value)} {nV : Nat} {tV0 tV1 : Tok}
    {aC : Addr} {odC : Option Addr} {slC : Array (Option Value)} {nC : Nat} {tC0 tC1 tC2 : Tok}
    {aA : Addr} {odA : Option Addr} {slA : Array (Option Value)} {nA : Nat} {tA0 tA1 tA2 : Tok}
    {aK : Addr} {odK : Option Addr} {slK : Array (Option Value)} {nK : Nat} {tK0 tK1 : Tok}
    {aB : Addr} {nB : Nat} {hB0 hB1 : Int} {tB0 tB1 tB2 tB3 : Tok}
    {aSh : Addr} {nSh : Nat} {hSh0 hSh1 hSh2 : Int} {tSh0 tSh1 tSh2 : Tok}
    {aSh0 : Addr} {odSh0 : Option Addr} {slSh0 : Array (Option Value)} {nSh0 : Nat} {tSh00 tSh01 : Tok}
    {aSh1 : Addr} {odSh1 : Option Addr} {slSh1 : Array (Option Value)} {nSh1 : Nat} {tSh10 tSh11 : Tok}
    {aSh2 : Addr} {odSh2 : Option Addr} {slSh2 : Array (Option Value)} {nSh2 : Nat} {tSh20 : Tok}
    {aTe : Addr} {nTe : Nat} {hTe0 hTe1 : Int} {tTe0 tTe1 : Tok}
    {aTe0 : Addr} {odTe0 : Option Addr} {slTe0 : Array (Option Value)} {nTe0 : Nat} {tTe00 tTe01 tTe02 : Tok}
    {aTe1 : Addr} {odTe1 : Option Addr} {slTe1 : Array (Option Value)} {nTe1 : Nat} {tTe10 : Tok}
    {aCo : Addr} {nCo : Nat} {hCo0 hCo1 : Int} {tCo0 tCo1 : Tok}
    {aCo0 : Addr} {odCo0 : Option Addr} {slCo0 : Array (Option Value)} {nCo0 : Nat} {tCo00 : Tok}
    {aCo1 : Addr} {odCo1 : Option Addr} {slCo1 : Array (Option Value)} {nCo1 : Nat} {tCo10 : Tok}
    {cP cH c1 c2 c3 c4 c5 : Addr}
    (aFrom : PySem.W.nsIn K mainGlobals "is_integer_from" = some (some (.ref fFrom)))
    (lFrom : K.lookup fFrom = some ⟨ocFrom, odFrom, .func (PySem.W.fnOf "is_integer_from" "is_integer_from" (defArgs sFrom) (defBody sFrom) (defScope sFrom) .none kVFrom dcFrom pmFrom anFrom cdFrom ctFrom), slFrom⟩)
    (cFrom : PySem.W.codeIn K cdFrom "is_integer_from" = true)
    (kFrom : PySem.W.keepIn K (.ref fFrom) = true)
    (aInt : PySem.W.nsIn K mainGlobals "is_integer_from_to" = some (some (.ref fInt)))
    (lInt : K.lookup fInt = some ⟨ocInt, odInt, .func (PySem.W.fnOf "is_integer_from_to" "is_integer_from_to" (defArgs sInt) (defBody sInt) (defScope sInt) .none kVInt dcInt pmInt anInt cdInt ctInt), slInt⟩)
    (cInt : PySem.W.codeIn K cdInt "is_integer_from_to" = true)
    (kInt : PySem.W.keepIn K (.ref fInt) = true)
    (aTerm : PySem.W.nsIn K mainGlobals "is_term" = some (some (.ref fTerm)))
    (lTerm : K.lookup fTerm = some ⟨ocTerm, odTerm, .func (PySem.W.fnOf "is_term" "is_term" (defArgs sTerm) (defBody sTerm) (defScope sTerm) .none kVTerm dcTerm pmTerm anTerm cdTerm ctTerm), slTerm⟩)
    (cTerm : PySem.W.codeIn K cdTerm "is_term" = true)
    (kTerm : PySem.W.keepIn K (.ref fTerm) = true)
    (aCond : PySem.W.nsIn K mainGlobals "is_condition" = some (some (.ref fCond)))
    (lCond : K.lookup fCond = some ⟨ocCond, odCond, .func (PySem.W.fnOf "is_condition" "is_condition" (defArgs sCond) (defBody sCond) (defScope sCond) .none kVCond dcCond pmCond anCond cdCond ctCond), slCond⟩)
    (cCond : PySem.W.codeIn K cdCond "is_condition" = true)
    (kCond : PySem.W.keepIn K (.ref fCond) = true)
    (aPart : PySem.W.nsIn K mainGlobals "is_part" = some (some (.ref fPart)))
    (lPart : K.lookup fPart = some ⟨ocPart, odPart, .func (PySem.W.fnOf "is_part" "is_part" (defArgs sPart) (defBody sPart) (defScope sPart) .none kVPart dcPart pmPart anPart cdPart ctPart), slPart⟩)
    (cPart : PySem.W.codeIn K cdPart "is_part" = true)
    (kPart : PySem.W.keepIn K (.ref fPart) = true)
    (aWord : PySem.W.nsIn K mainGlobals "word_of" = some (some (.ref fWord)))
    (lWord : K.lookup fWord = some ⟨ocWord, odWord, .func (PySem.W.fnOf "word_of" "word_of" (defArgs sWord) (defBody sWord) (defScope sWord) .none kVWord dcWord pmWord anWord cdWord ctWord), slWord⟩)
    (cWord : PySem.W.codeIn K cdWord "word_of" = true)
    (kWord : PySem.W.keepIn K (.ref fWord) = true)
    (aRoles : PySem.W.nsIn K mainGlobals "roles_of" = some (some (.ref fRoles)))
    (lRoles : K.lookup fRoles = some ⟨ocRoles, odRoles, .func (PySem.W.fnOf "roles_of" "roles_of" (defArgs sRoles) (defBody sRoles) (defScope sRoles) .none kVRoles dcRoles pmRoles anRoles cdRoles ctRoles), slRoles⟩)
    (cRoles : PySem.W.codeIn K cdRoles "roles_of" = true)
    (kRoles : PySem.W.keepIn K (.ref fRoles) = true)
    (aPlain : PySem.W.nsIn K mainGlobals "is_plain_statement" = some (some (.ref fPlain)))
    (lPlain : K.lookup fPlain = some ⟨ocPlain, odPlain, .func (PySem.W.fnOf "is_plain_statement" "is_plain_statement" (defArgs sPlain) (defBody sPlain) (defScope sPlain) .none kVPlain dcPlain pmPlain anPlain cdPlain ctPlain), slPlain⟩)
    (cPlain : PySem.W.codeIn K cdPlain "is_plain_statement" = true)
    (kPlain : PySem.W.keepIn K (.ref fPlain) = true)
    (aOut : PySem.W.nsIn K mainGlobals "is_outside_of_statement" = some (some (.ref fOut)))
    (lOut : K.lookup fOut = some ⟨ocOut, odOut, .func (PySem.W.fnOf "is_outside_of_statement" "is_outside_of_statement" (defArgs sOut) (defBody sOut) (defScope sOut) .none kVOut dcOut pmOut anOut cdOut ctOut), slOut⟩)
    (cOut : PySem.W.codeIn K cdOut "is_outside_of_statement" = true)
    (kOut : PySem.W.keepIn K (.ref fOut) = true)
    (aBodies : PySem.W.nsIn K mainGlobals "bodies_of" = some (some (.ref fBodies)))
    (lBodies : K.lookup fBodies = some ⟨ocBodies, odBodies, .func (PySem.W.fnOf "bodies_of" "bodies_of" (defArgs sBodies) (defBody sBodies) (defScope sBodies) .none kVBodies dcBodies pmBodies anBodies cdBodies ctBodies), slBodies⟩)
    (cBodies : PySem.W.codeIn K cdBodies "bodies_of" = true)
    (kBodies : PySem.W.keepIn K (.ref fBodies) = true)
    (aProg : PySem.W.nsIn K mainGlobals "is_program" = some (some (.ref fProg)))
    (lProg : K.lookup fProg = some ⟨ocProg, odProg, .func (PySem.W.fnOf "is_program" "is_program" (defArgs sProg) (defBody sProg) (defScope sProg) .none kVProg dcProg pmProg anProg cdProg ctProg), slProg⟩)
    (cProg : PySem.W.codeIn K cdProg "is_program" = true)
    (kProg : PySem.W.keepIn K (.ref fProg) = true)
    (aShow : PySem.W.nsIn K mainGlobals "show" = some (some (.ref fShow)))
    (lShow : K.lookup fShow = some ⟨ocShow, odShow, .func (PySem.W.fnOf "show" "show" (defArgs sShow) (defBody sShow) (defScope sShow) .none kVShow dcShow pmShow anShow cdShow ctShow), slShow⟩)
    (cShow : PySem.W.codeIn K cdShow "show" = true)
    (kShow : PySem.W.keepIn K (.ref fShow) = true)
    (aBL : PySem.W.nsIn K mainGlobals "body_lines" = some (some (.ref fBL)))
    (lBL : K.lookup fBL = some ⟨ocBL, odBL, .func (PySem.W.fnOf "body_lines" "body_lines" (defArgs sBL) (defBody sBL) (defScope sBL) .none kVBL dcBL pmBL anBL cdBL ctBL), slBL⟩)
    (cBL : PySem.W.codeIn K cdBL "body_lines" = true)
    (kBL : PySem.W.keepIn K (.ref fBL) = true)
    (aSL : PySem.W.nsIn K mainGlobals "statement_lines" = some (some (.ref fSL)))
    (lSL : K.lookup fSL = some ⟨ocSL, odSL, .func (PySem.W.fnOf "statement_lines" "statement_lines" (defArgs sSL) (defBody sSL) (defScope sSL) .none kVSL dcSL pmSL anSL cdSL ctSL), slSL⟩)
    (cSL : PySem.W.codeIn K cdSL "statement_lines" = true)
    (kSL : PySem.W.keepIn K (.ref fSL) = true)
    (aPL : PySem.W.nsIn K mainGlobals "plain_line" = some (some (.ref fPL)))
    (lPL : K.lookup fPL = some ⟨ocPL, odPL, .func (PySem.W.fnOf "plain_line" "plain_line" (defArgs sPL) (defBody sPL) (defScope sPL) .none kVPL dcPL pmPL anPL cdPL ctPL), slPL⟩)
    (cPL : PySem.W.codeIn K cdPL "plain_line" = true)
    (kPL : PySem.W.keepIn K (.ref fPL) = true)
    (aJn : PySem.W.nsIn K mainGlobals "joined" = some (some (.ref fJn)))
    (lJn : K.lookup fJn = some ⟨ocJn, odJn, .func (PySem.W.fnOf "joined" "joined" (defArgs sJn) (defBody sJn) (defScope sJn) .none kVJn dcJn pmJn anJn cdJn ctJn), slJn⟩)
    (cJn : PySem.W.codeIn K cdJn "joined" = true)
    (kJn : PySem.W.keepIn K (.ref fJn) = true)
    (aBag : PySem.W.nsIn K mainGlobals "_law_bag" = some (some (.ref fBag)))
    (lBag : K.lookup fBag = some ⟨ocBag, odBag, .func (PySem.W.fnOf "_law_bag" "_law_bag" (defArgs sBag) (defBody sBag) (defScope sBag) .none kVBag dcBag pmBag anBag cdBag ctBag), slBag⟩)
    (cBag : PySem.W.codeIn K cdBag "_law_bag" = true)
    (kBag : PySem.W.keepIn K (.ref fBag) = true)
    (aDraw : PySem.W.nsIn K mainGlobals "_law_draw" = some (some (.ref fDraw)))
    (lDraw : K.lookup fDraw = some ⟨ocDraw, odDraw, .func (PySem.W.fnOf "_law_draw" "_law_draw" (defArgs sDraw) (defBody sDraw) (defScope sDraw) .none kVDraw dcDraw pmDraw anDraw cdDraw ctDraw), slDraw⟩)
    (cDraw : PySem.W.codeIn K cdDraw "_law_draw" = true)
    (kDraw : PySem.W.keepIn K (.ref fDraw) = true)
    (aLarge : PySem.W.nsIn K mainGlobals "_law_large" = some (some (.ref fLarge)))
    (lLarge : K.lookup fLarge = some ⟨ocLarge, odLarge, .func (PySem.W.fnOf "_law_large" "_law_large" (defArgs sLarge) (defBody sLarge) (defScope sLarge) .none kVLarge dcLarge pmLarge anLarge cdLarge ctLarge), slLarge⟩)
    (cLarge : PySem.W.codeIn K cdLarge "_law_large" = true)
    (kLarge : PySem.W.keepIn K (.ref fLarge) = true)
    (aSteps : PySem.W.nsIn K mainGlobals "_law_steps" = some (some (.ref fSteps)))
    (lSteps : K.lookup fSteps = some ⟨ocSteps, odSteps, .func (PySem.W.fnOf "_law_steps" "_law_steps" (defArgs sSteps) (defBody sSteps) (defScope sSteps) .none kVSteps dcSteps pmSteps anSteps cdSteps ctSteps), slSteps⟩)
    (cSteps : PySem.W.codeIn K cdSteps "_law_steps" = true)
    (kSteps : PySem.W.keepIn K (.ref fSteps) = true)
    (aTermL : PySem.W.nsIn K mainGlobals "_law_term" = some (some (.ref fTermL)))
    (lTermL : K.lookup fTermL = some ⟨ocTermL, odTermL, .func (PySem.W.fnOf "_law_term" "_law_term" (defArgs sTermL) (defBody sTermL) (defScope sTermL) .none kVTermL dcTermL pmTermL anTermL cdTermL ctTermL), slTermL⟩)
    (cTermL : PySem.W.codeIn K cdTermL "_law_term" = true)
    (kTermL : PySem.W.keepIn K (.ref fTermL) = true)
    (aCondL : PySem.W.nsIn K mainGlobals "_law_condition" = some (some (.ref fCondL)))
    (lCondL : K.lookup fCondL = some ⟨ocCondL, odCondL, .func (PySem.W.fnOf "_law_condition" "_law_condition" (defArgs sCondL) (defBody sCondL) (defScope sCondL) .none kVCondL dcCondL pmCondL anCondL cdCondL ctCondL), slCondL⟩)
    (cCondL : PySem.W.codeIn K cdCondL "_law_condition" = true)
    (kCondL : PySem.W.keepIn K (.ref fCondL) = true)
    (aSimple : PySem.W.nsIn K mainGlobals "_law_simple" = some (some (.ref fSimple)))
    (lSimple : K.lookup fSimple = some ⟨ocSimple, odSimple, .func (PySem.W.fnOf "_law_simple" "_law_simple" (defArgs sSimple) (defBody sSimple) (defScope sSimple) .none kVSimple dcSimple pmSimple anSimple cdSimple ctSimple), slSimple⟩)
    (cSimple : PySem.W.codeIn K cdSimple "_law_simple" = true)
    (kSimple : PySem.W.keepIn K (.ref fSimple) = true)
    (aKind : PySem.W.nsIn K mainGlobals "_law_kind" = some (some (.ref fKind)))
    (lKind : K.lookup fKind = some ⟨ocKind, odKind, .func (PySem.W.fnOf "_law_kind" "_law_kind" (defArgs sKind) (defBody sKind) (defScope sKind) .none kVKind dcKind pmKind anKind cdKind ctKind), slKind⟩)
    (cKind : PySem.W.codeIn K cdKind "_law_kind" = true)
    (kKind : PySem.W.keepIn K (.ref fKind) = true)
    (aStmt : PySem.W.nsIn K mainGlobals "_law_statement" = some (some (.ref fStmt)))
    (lStmt : K.lookup fStmt = some ⟨ocStmt, odStmt, .func (PySem.W.fnOf "_law_statement" "_law_statement" (defArgs sStmt) (defBody sStmt) (defScope sStmt) .none kVStmt dcStmt pmStmt anStmt cdStmt ctStmt), slStmt⟩)
    (cStmt : PySem.W.codeIn K cdStmt "_law_statement" = true)
    (kStmt : PySem.W.keepIn K (.ref fStmt) = true)
    (aBody : PySem.W.nsIn K mainGlobals "_law_body" = some (some (.ref fBody)))
    (lBody : K.lookup fBody = some ⟨ocBody, odBody, .func (PySem.W.fnOf "_law_body" "_law_body" (defArgs sBody) (defBody sBody) (defScope sBody) .none kVBody dcBody pmBody anBody cdBody ctBody), slBody⟩)
    (cBody : PySem.W.codeIn K cdBody "_law_body" = true)
    (kBody : PySem.W.keepIn K (.ref fBody) = true)
    (aProgL : PySem.W.nsIn K mainGlobals "_law_program" = some (some (.ref fProgL)))
    (lProgL : K.lookup fProgL = some ⟨ocProgL, odProgL, .func (PySem.W.fnOf "_law_program" "_law_program" (defArgs sProgL) (defBody sProgL) (defScope sProgL) .none kVProgL dcProgL pmProgL anProgL cdProgL ctProgL), slProgL⟩)
    (cProgL : PySem.W.codeIn K cdProgL "_law_program" = true)
    (kProgL : PySem.W.keepIn K (.ref fProgL) = true)
    (aWhole : PySem.W.nsIn K mainGlobals "_law_whole" = some (some (.ref fWhole)))
    (lWhole : K.lookup fWhole = some ⟨ocWhole, odWhole, .func (PySem.W.fnOf "_law_whole" "_law_whole" (defArgs sWhole) (defBody sWhole) (defScope sWhole) .none kVWhole dcWhole pmWhole anWhole cdWhole ctWhole), slWhole⟩)
    (cWhole : PySem.W.codeIn K cdWhole "_law_whole" = true)
    (kWhole : PySem.W.keepIn K (.ref fWhole) = true)
    (aIsTermL : PySem.W.nsIn K mainGlobals "_law_is_term" = some (some (.ref fIsTermL)))
    (lIsTermL : K.lookup fIsTermL = some ⟨ocIsTermL, odIsTermL, .func (PySem.W.fnOf "_law_is_term" "_law_is_term" (defArgs sIsTermL) (defBody sIsTermL) (defScope sIsTermL) .none kVIsTermL dcIsTermL pmIsTermL anIsTermL cdIsTermL ctIsTermL), slIsTermL⟩)
    (cIsTermL : PySem.W.codeIn K cdIsTermL "_law_is_term" = true)
    (kIsTermL : PySem.W.keepIn K (.ref fIsTermL) = true)
    (aIsVar : PySem.W.nsIn K mainGlobals "_law_is_variable" = some (some (.ref fIsVar)))
    (lIsVar : K.lookup fIsVar = some ⟨ocIsVar, odIsVar, .func (PySem.W.fnOf "_law_is_variable" "_law_is_variable" (defArgs sIsVar) (defBody sIsVar) (defScope sIsVar) .none kVIsVar dcIsVar pmIsVar anIsVar cdIsVar ctIsVar), slIsVar⟩)
    (cIsVar : PySem.W.codeIn K cdIsVar "_law_is_variable" = true)
    (kIsVar : PySem.W.keepIn K (.ref fIsVar) = true)
    (aIsCondL : PySem.W.nsIn K mainGlobals "_law_is_condition" = some (some (.ref fIsCondL)))
    (lIsCondL : K.lookup fIsCondL = some ⟨ocIsCondL, odIsCondL, .func (PySem.W.fnOf "_law_is_condition" "_law_is_condition" (defArgs sIsCondL) (defBody sIsCondL) (defScope sIsCondL) .none kVIsCondL dcIsCondL pmIsCondL anIsCondL cdIsCondL ctIsCondL), slIsCondL⟩)
    (cIsCondL : PySem.W.codeIn K cdIsCondL "_law_is_condition" = true)
    (kIsCondL : PySem.W.keepIn K (.ref fIsCondL) = true)
    (aIsSimple : PySem.W.nsIn K mainGlobals "_law_is_simple" = some (some (.ref fIsSimple)))
    (lIsSimple : K.lookup fIsSimple = some ⟨ocIsSimple, odIsSimple, .func (PySem.W.fnOf "_law_is_simple" "_law_is_simple" (defArgs sIsSimple) (defBody sIsSimple) (defScope sIsSimple) .none kVIsSimple dcIsSimple pmIsSimple anIsSimple cdIsSimple ctIsSimple), slIsSimple⟩)
    (cIsSimple : PySem.W.codeIn K cdIsSimple "_law_is_simple" = true)
    (kIsSimple : PySem.W.keepIn K (.ref fIsSimple) = true)
    (aOne : PySem.W.nsIn K mainGlobals "_law_count_one" = some (some (.ref fOne)))
    (lOne : K.lookup fOne = some ⟨ocOne, odOne, .func (PySem.W.fnOf "_law_count_one" "_law_count_one" (defArgs sOne) (defBody sOne) (defScope sOne) .none kVOne dcOne pmOne anOne cdOne ctOne), slOne⟩)
    (cOne : PySem.W.codeIn K cdOne "_law_count_one" = true)
    (kOne : PySem.W.keepIn K (.ref fOne) = true)
    (aCnt : PySem.W.nsIn K mainGlobals "_law_count" = some (some (.ref fCnt)))
    (lCnt : K.lookup fCnt = some ⟨ocCnt, odCnt, .func (PySem.W.fnOf "_law_count" "_law_count" (defArgs sCnt) (defBody sCnt) (defScope sCnt) .none kVCnt dcCnt pmCnt anCnt cdCnt ctCnt), slCnt⟩)
    (cCnt : PySem.W.codeIn K cdCnt "_law_count" = true)
    (kCnt : PySem.W.keepIn K (.ref fCnt) = true)
    (aIsProgL : PySem.W.nsIn K mainGlobals "_law_is_program" = some (some (.ref fIsProgL)))
    (lIsProgL : K.lookup fIsProgL = some ⟨ocIsProgL, odIsProgL, .func (PySem.W.fnOf "_law_is_program" "_law_is_program" (defArgs sIsProgL) (defBody sIsProgL) (defScope sIsProgL) .none kVIsProgL dcIsProgL pmIsProgL anIsProgL cdIsProgL ctIsProgL), slIsProgL⟩)
    (cIsProgL : PySem.W.codeIn K cdIsProgL "_law_is_program" = true)
    (kIsProgL : PySem.W.keepIn K (.ref fIsProgL) = true)
    (aLL : PySem.W.nsIn K mainGlobals "_law_lines" = some (some (.ref fLL)))
    (lLL : K.lookup fLL = some ⟨ocLL, odLL, .func (PySem.W.fnOf "_law_lines" "_law_lines" (defArgs sLL) (defBody sLL) (defScope sLL) .none kVLL dcLL pmLL anLL cdLL ctLL), slLL⟩)
    (cLL : PySem.W.codeIn K cdLL "_law_lines" = true)
    (kLL : PySem.W.keepIn K (.ref fLL) = true)
    (aText : PySem.W.nsIn K mainGlobals "_law_text" = some (some (.ref fText)))
    (lText : K.lookup fText = some ⟨ocText, odText, .func (PySem.W.fnOf "_law_text" "_law_text" (defArgs sText) (defBody sText) (defScope sText) .none kVText dcText pmText anText cdText ctText), slText⟩)
    (cText : PySem.W.codeIn K cdText "_law_text" = true)
    (kText : PySem.W.keepIn K (.ref fText) = true)
    (aOdd : PySem.W.nsIn K mainGlobals "_law_odd" = some (some (.ref fOdd)))
    (lOdd : K.lookup fOdd = some ⟨ocOdd, odOdd, .func (PySem.W.fnOf "_law_odd" "_law_odd" (defArgs sOdd) (defBody sOdd) (defScope sOdd) .none kVOdd dcOdd pmOdd anOdd cdOdd ctOdd), slOdd⟩)
    (cOdd : PySem.W.codeIn K cdOdd "_law_odd" = true)
    (kOdd : PySem.W.keepIn K (.ref fOdd) = true)
    (aSpoilt : PySem.W.nsIn K mainGlobals "_law_spoilt" = some (some (.ref fSpoilt)))
    (lSpoilt : K.lookup fSpoilt = some ⟨ocSpoilt, odSpoilt, .func (PySem.W.fnOf "_law_spoilt" "_law_spoilt" (defArgs sSpoilt) (defBody sSpoilt) (defScope sSpoilt) .none kVSpoilt dcSpoilt pmSpoilt anSpoilt cdSpoilt ctSpoilt), slSpoilt⟩)
    (cSpoilt : PySem.W.codeIn K cdSpoilt "_law_spoilt" = true)
    (kSpoilt : PySem.W.keepIn K (.ref fSpoilt) = true)
    (aSaid : PySem.W.nsIn K mainGlobals "_law_said" = some (some (.ref fSaid)))
    (lSaid : K.lookup fSaid = some ⟨ocSaid, odSaid, .func (PySem.W.fnOf "_law_said" "_law_said" (defArgs sSaid) (defBody sSaid) (defScope sSaid) .none kVSaid dcSaid pmSaid anSaid cdSaid ctSaid), slSaid⟩)
    (cSaid : PySem.W.codeIn K cdSaid "_law_said" = true)
    (kSaid : PySem.W.keepIn K (.ref fSaid) = true)
    (aLaw : PySem.W.nsIn K mainGlobals "law" = some (some (.ref fLaw)))
    (lLaw : K.lookup fLaw = some ⟨ocLaw, odLaw, .func (PySem.W.fnOf "law" "law" (defArgs sLaw) (defBody sLaw) (defScope sLaw) .none kVLaw dcLaw pmLaw anLaw cdLaw ctLaw), slLaw⟩)
    (cLaw : PySem.W.codeIn K cdLaw "law" = true)
    (kLaw : PySem.W.keepIn K (.ref fLaw) = true)
    (zisinstance : PySem.W.nsIn K mainGlobals "isinstance" = some none)
    (zint : PySem.W.nsIn K mainGlobals "int" = some none)
    (zbool : PySem.W.nsIn K mainGlobals "bool" = some none)
    (zstr : PySem.W.nsIn K mainGlobals "str" = some none)
    (ztuple : PySem.W.nsIn K mainGlobals "tuple" = some none)
    (zlen : PySem.W.nsIn K mainGlobals "len" = some none)
    (zzip : PySem.W.nsIn K mainGlobals "zip" = some none)
    (zall : PySem.W.nsIn K mainGlobals "all" = some none)
    (zabs : PySem.W.nsIn K mainGlobals "abs" = some none)
    (zmax : PySem.W.nsIn K mainGlobals "max" = some none)
    (zmin : PySem.W.nsIn K mainGlobals "min" = some none)
    (zrange : PySem.W.nsIn K mainGlobals "range" = some none)
    (zsum : PySem.W.nsIn K mainGlobals "sum" = some none)
    (zlist : PySem.W.nsIn K mainGlobals "list" = some none)
    (zValueError : PySem.W.nsIn K mainGlobals "ValueError" = some none)
    (gG : PySem.W.nsIn K mainGlobals "GREATEST_VALUE" = some (some (.int 15 tG)))
    (gL : PySem.W.nsIn K mainGlobals "LONGEST_WAIT" = some (some (.int longest tL)))
    (gS : PySem.W.nsIn K mainGlobals "MOST_STATEMENTS" = some (some (.int 24 tS)))
    (gD : PySem.W.nsIn K mainGlobals "MOST_DEPTH" = some (some (.int 4 tD)))
    (mV : PySem.W.nsIn K mainGlobals "VARIABLES" = some (some (.ref aV)))
    (qV : K.lookup aV = some ⟨.type "tuple", odV, .seq #[.str "a" tV0, .str "b" tV1] nV, slV⟩)
    (mC : PySem.W.nsIn K mainGlobals "CONDITION_SIGNS" = some (some (.ref aC)))
    (qC : K.lookup aC = some ⟨.type "tuple", odC, .seq #[.str "==" tC0, .str "!=" tC1, .str "<" tC2] nC, slC⟩)
    (mA : PySem.W.nsIn K mainGlobals "ASK_SIGNS" = some (some (.ref aA)))
    (qA : K.lookup aA = some ⟨.type "tuple", odA, .seq #[.str "+" tA0, .str "-" tA1, .str "=" tA2] nA, slA⟩)
    (mK : PySem.W.nsIn K mainGlobals "KINDS" = some (some (.ref aK)))
    (qK : K.lookup aK = some ⟨.type "tuple", odK, .seq #[.str "teller" tK0, .str "collector" tK1] nK, slK⟩)
    (mB : PySem.W.nsIn K mainGlobals "BODIES" = some (some (.ref aB)))
    (qB : K.lookup aB = some ⟨.type "dict", none, .dict #[⟨hB0, .str "if" tB0, .int 2 tB2⟩, ⟨hB1, .str "while" tB1, .int 1 tB3⟩] nB, #[]⟩)
    (yB : PySem.W.KeysLit w.params (#[⟨hB0, .str "if" tB0, .int 2 tB2⟩, ⟨hB1, .str "while" tB1, .int 1 tB3⟩] : Array DictEntry).toList)
    (wB : (aB == sysModules) = false)
    (mSh : PySem.W.nsIn K mainGlobals "SHARED_ROLES" = some (some (.ref aSh)))
    (qSh : K.lookup aSh = some ⟨.type "dict", none, .dict #[⟨hSh0, .str "set" tSh0, .ref aSh0⟩, ⟨hSh1, .str "add" tSh1, .ref aSh1⟩, ⟨hSh2, .str "wait" tSh2, .ref aSh2⟩] nSh, #[]⟩)
    (ySh : PySem.W.KeysLit w.params (#[⟨hSh0, .str "set" tSh0, .ref aSh0⟩, ⟨hSh1, .str "add" tSh1, .ref aSh1⟩, ⟨hSh2, .str "wait" tSh2, .ref aSh2⟩] : Array DictEntry).toList)
    (wSh : (aSh == sysModules) = false)
    (qSh0 : K.lookup aSh0 = some ⟨.type "tuple", odSh0, .seq #[.str "variable" tSh00, .str "value" tSh01] nSh0, slSh0⟩)
    (qSh1 : K.lookup aSh1 = some ⟨.type "tuple", odSh1, .seq #[.str "variable" tSh10, .str "term" tSh11] nSh1, slSh1⟩)
    (qSh2 : K.lookup aSh2 = some ⟨.type "tuple", odSh2, .seq #[.str "steps" tSh20] nSh2, slSh2⟩)
    (mTe : PySem.W.nsIn K mainGlobals "TELLER_ROLES" = some (some (.ref aTe)))
    (qTe : K.lookup aTe = some ⟨.type "dict", none, .dict #[⟨hTe0, .str "ask" tTe0, .ref aTe0⟩, ⟨hTe1, .str "answer" tTe1, .ref aTe1⟩] nTe, #[]⟩)
    (yTe : PySem.W.KeysLit w.params (#[⟨hTe0, .str "ask" tTe0, .ref aTe0⟩, ⟨hTe1, .str "answer" tTe1, .ref aTe1⟩] : Array DictEntry).toList)
    (wTe : (aTe == sysModules) = false)
    (qTe0 : K.lookup aTe0 = some ⟨.type "tuple", odTe0, .seq #[.str "sign" tTe00, .str "term" tTe01, .str "variable" tTe02] nTe0, slTe0⟩)
    (qTe1 : K.lookup aTe1 = some ⟨.type "tuple", odTe1, .seq #[.str "answer" tTe10] nTe1, slTe1⟩)
    (mCo : PySem.W.nsIn K mainGlobals "COLLECTOR_ROLES" = some (some (.ref aCo)))
    (qCo : K.lookup aCo = some ⟨.type "dict", none, .dict #[⟨hCo0, .str "grow" tCo0, .ref aCo0⟩, ⟨hCo1, .str "list" tCo1, .ref aCo1⟩] nCo, #[]⟩)
    (yCo : PySem.W.KeysLit w.params (#[⟨hCo0, .str "grow" tCo0, .ref aCo0⟩, ⟨hCo1, .str "list" tCo1, .ref aCo1⟩] : Array DictEntry).toList)
    (wCo : (aCo == sysModules) = false)
    (qCo0 : K.lookup aCo0 = some ⟨.type "tuple", odCo0, .seq #[.str "term" tCo00] nCo0, slCo0⟩)
    (qCo1 : K.lookup aCo1 = some ⟨.type "tuple", odCo1, .seq #[.str "term" tCo10] nCo1, slCo1⟩)
    (rcP : PySem.W.nsIn K mainGlobals "BadProgram" = some (some (.ref cP)))
    (rcH : PySem.W.nsIn K mainGlobals "HouseError" = some (some (.ref cH)))
    (rc1 : PySem.W.nsIn K mainGlobals "BadHistory" = some (some (.ref c1)))
    (rc2 : PySem.W.nsIn K mainGlobals "BadRow" = some (some (.ref c2)))
    (rc3 : PySem.W.nsIn K mainGlobals "BadSide" = some (some (.ref c3)))
    (rc4 : PySem.W.nsIn K mainGlobals "BadSteps" = some (some (.ref c4)))
    (rc5 : PySem.W.nsIn K mainGlobals "BadText" = some (some (.ref c5)))
    (xP : PySem.W.excIn K cP [.type "ValueError", .type "Exception", .type "BaseException", .type "object"] "ValueError.__new__" = true)
    (xk : PySem.W.keepIn K (.ref cP) = true)
    (xb : PySem.W.subIn K (.ref cP) (.type "BaseException") = some true)
    (xt : PySem.W.typeIn K (.ref cP) = some (.type "type"))
    (xe1 : PySem.W.subIn K (.ref cH) (.type "BaseException") = some true)
    (xe2 : PySem.W.hasDictIn K cH = true)
    (xe3 : PySem.W.typeIn K (.ref cH) = some (.type "type"))
    (xe4 : PySem.W.subIn K (.ref cP) (.ref cH) = some true)
    (x1 : PySem.W.findIn K (.ref cP) "__getattribute__" = some (some (.builtin "BaseException.__getattribute__")))
    (x2 : PySem.W.findIn K (.ref cP) "__getattr__" = some none)
    (x4 : PySem.W.hasDictIn K cP = true)
    (x5 : PySem.W.findIn K (.ref cP) "__class__" = some (some (.builtin "object.__class__")))
    (x6 : PySem.W.specialIn K (.builtin "object.__class__") "__get__" = some (some (.builtin "getset_descriptor.__get__")))
    (x7 : PySem.W.takesIn K (.builtin "object.__class__") = some true)
    (x8 : PySem.W.mroIn K cP (.type "object") = some true)
    (xs : PySem.W.subIn K (.ref cP) (.ref cP) = some true)
    (xv : PySem.W.subIn K (.ref cP) (.type "ValueError") = some true)
    (xd1 : PySem.W.hasDictIn K c1 = true)
    (xy1 : PySem.W.typeIn K (.ref c1) = some (.type "type"))
    (xn1 : PySem.W.subIn K (.ref cP) (.ref c1) = some false)
    (xd2 : PySem.W.hasDictIn K c2 = true)
    (xy2 : PySem.W.typeIn K (.ref c2) = some (.type "type"))
    (xn2 : PySem.W.subIn K (.ref cP) (.ref c2) = some false)
    (xd3 : PySem.W.hasDictIn K c3 = true)
    (xy3 : PySem.W.typeIn K (.ref c3) = some (.type "type"))
    (xn3 : PySem.W.subIn K (.ref cP) (.ref c3) = some false)
    (xd4 : PySem.W.hasDictIn K c4 = true)
    (xy4 : PySem.W.typeIn K (.ref c4) = some (.type "type"))
    (xn4 : PySem.W.subIn K (.ref cP) (.ref c4) = some false)
    (xd5 : PySem.W.hasDictIn K c5 = true)
    (xy5 : PySem.W.typeIn K (.ref c5) = some (.type "type"))
    (xn5 : PySem.W.subIn K (.ref cP) (.ref c5) = some false)
    : ∃ fd : FuncData, (∀ (s : Shared) (v : Value), BindsTo s fd ⟨[v], []⟩ [("_law_script", v)]) ∧ ∀ base : Heap, K.In base → base.Ns mainGlobals mg → FnOk l.prog w K mg base CX0 15 fa fd ["_law_script"] (spLaw K) := by
  have e := hfa.symm.trans (PySem.W.mg_of X G aLaw)
  cases e
  have FFrom := fun_mk (st := sFrom) lFrom cFrom kFrom
  have bFrom := FFrom.binds (ps := ["thing", "least"]) fun _ _ _ _ _ _ us hl => match us, hl with | [_, _], _ => rfl
  have FInt := fun_mk (st := sInt) lInt cInt kInt
  have bInt := FInt.binds (ps := ["thing", "least", "greatest"]) fun _ _ _ _ _ _ us hl => match us, hl with | [_, _, _], _ => rfl
  have FTerm := fun_mk (st := sTerm) lTerm cTerm kTerm
  have bTerm := FTerm.binds (ps := ["thing"]) fun _ _ _ _ _ _ us hl => match us, hl with | [_], _ => rfl
  have FCond := fun_mk (st := sCond) lCond cCond kCond
  have bCond := FCond.binds (ps := ["thing"]) fun _ _ _ _ _ _ us hl => match us, hl with | [_], _ => rfl
  have FPart := fun_mk (st := sPart) lPart cPart kPart
  have bPart := FPart.binds (ps := ["thing", "role"]) fun _ _ _ _ _ _ us hl => match us, hl with | [_, _], _ => rfl
  have FWord := fun_mk (st := sWord) lWord cWord kWord
  have bWord := FWord.binds (ps := ["thing"]) fun _ _ _ _ _ _ us hl => match us, hl with | [_], _ => rfl
  have FRoles := fun_mk (st := sRoles) lRoles cRoles kRoles
  have bRoles := FRoles.binds (ps := ["word", "kind"]) fun _ _ _ _ _ _ us hl => match us, hl with | [_, _], _ => rfl
  have FPlain := fun_mk (st := sPlain) lPlain cPlain kPlain
  have bPlain := FPlain.binds (ps := ["thing", "kind"]) fun _ _ _ _ _ _ us hl => match us, hl with | [_, _], _ => rfl
  have FOut := fun_mk (st := sOut) lOut cOut kOut
  have bOut := FOut.binds (ps := ["thing", "kind"]) fun _ _ _ _ _ _ us hl => match us, hl with | [_, _], _ => rfl
  have FBodies := fun_mk (st := sBodies) lBodies cBodies kBodies
  have bBodies := FBodies.binds (ps := ["statement"]) fun _ _ _ _ _ _ us hl => match us, hl with | [_], _ => rfl
  have FProg := fun_mk (st := sProg) lProg cProg kProg
  have bProg := FProg.binds (ps := ["thing"]) fun _ _ _ _ _ _ us hl => match us, hl with | [_], _ => rfl
  have FShow := fun_mk (st := sShow) lShow cShow kShow
  have bShow := FShow.binds (ps := ["program"]) fun _ _ _ _ _ _ us hl => match us, hl with | [_], _ => rfl
  have FBL := fun_mk (st := sBL) lBL cBL kBL
  have bBL := FBL.binds (ps := ["body"]) fun _ _ _ _ _ _ us hl => match us, hl with | [_], _ => rfl
  have FSL := fun_mk (st := sSL) lSL cSL kSL
  have bSL := FSL.binds (ps := ["statement"]) fun _ _ _ _ _ _ us hl => match us, hl with | [_], _ => rfl
  have FPL := fun_mk (st := sPL) lPL cPL kPL
  have bPL := FPL.binds (ps := ["statement"]) fun _ _ _ _ _ _ us hl => match us, hl with | [_], _ => rfl
  have FJn := fun_mk (st := sJn) lJn cJn kJn
  have bJn := FJn.binds (ps := ["parts"]) fun _ _ _ _ _ _ us hl => match us, hl with | [_], _ => rfl
  have FBag := fun_mk (st := sBag) lBag cBag kBag
  have bBag := FBag.binds (ps := ["_law_script", "_law_k"]) fun _ _ _ _ _ _ us hl => match us, hl with | [_, _], _ => rfl
  have FDraw := fun_mk (st := sDraw) lDraw cDraw kDraw
  have bDraw := FDraw.binds (ps := ["_law_bag_here", "_law_many"]) fun _ _ _ _ _ _ us hl => match us, hl with | [_, _], _ => rfl
  have FLarge := fun_mk (st := sLarge) lLarge cLarge kLarge
  have bLarge := FLarge.binds (ps := ["_law_bag_here", "_law_many"]) fun _ _ _ _ _ _ us hl => match us, hl with | [_, _], _ => rfl
  have FSteps := fun_mk (st := sSteps) lSteps cSteps kSteps
  have bSteps := FSteps.binds (ps := ["_law_bag_here"]) fun _ _ _ _ _ _ us hl => match us, hl with | [_], _ => rfl
  have FTermL := fun_mk (st := sTermL) lTermL cTermL kTermL
  have bTermL := FTermL.binds (ps := ["_law_bag_here"]) fun _ _ _ _ _ _ us hl => match us, hl with | [_], _ => rfl
  have FCondL := fun_mk (st := sCondL) lCondL cCondL kCondL
  have bCondL := FCondL.binds (ps := ["_law_bag_here"]) fun _ _ _ _ _ _ us hl => match us, hl with | [_], _ => rfl
  have FSimple := fun_mk (st := sSimple) lSimple cSimple kSimple
  have bSimple := FSimple.binds (ps := ["_law_bag_here", "_law_kind_here"]) fun _ _ _ _ _ _ us hl => match us, hl with | [_, _], _ => rfl
  have FKind := fun_mk (st := sKind) lKind cKind kKind
  have bKind := FKind.binds (ps := ["_law_bag_here"]) fun _ _ _ _ _ _ us hl => match us, hl with | [_], _ => rfl
  have FStmt := fun_mk (st := sStmt) lStmt cStmt kStmt
  have bStmt := FStmt.binds (ps := ["_law_bag_here", "_law_kind_here", "_law_room", "_law_depth"]) fun _ _ _ _ _ _ us hl => match us, hl with | [_, _, _, _], _ => rfl
  have FBody := fun_mk (st := sBody) lBody cBody kBody
  have bBody := FBody.binds (ps := ["_law_bag_here", "_law_kind_here", "_law_room", "_law_depth", "_law_most"]) fun _ _ _ _ _ _ us hl => match us, hl with | [_, _, _, _, _], _ => rfl
  have FProgL := fun_mk (st := sProgL) lProgL cProgL kProgL
  have bProgL := FProgL.binds (ps := ["_law_bag_here", "_law_kind_here", "_law_most"]) fun _ _ _ _ _ _ us hl => match us, hl with | [_, _, _], _ => rfl
  have FWhole := fun_mk (st := sWhole) lWhole cWhole kWhole
  have bWhole := FWhole.binds (ps := ["_law_thing"]) fun _ _ _ _ _ _ us hl => match us, hl with | [_], _ => rfl
  have FIsTermL := fun_mk (st := sIsTermL) lIsTermL cIsTermL kIsTermL
  have bIsTermL := FIsTermL.binds (ps := ["_law_thing"]) fun _ _ _ _ _ _ us hl => match us, hl with | [_], _ => rfl
  have FIsVar := fun_mk (st := sIsVar) lIsVar cIsVar kIsVar
  have bIsVar := FIsVar.binds (ps := ["_law_thing"]) fun _ _ _ _ _ _ us hl => match us, hl with | [_], _ => rfl
  have FIsCondL := fun_mk (st := sIsCondL) lIsCondL cIsCondL kIsCondL
  have bIsCondL := FIsCondL.binds (ps := ["_law_thing"]) fun _ _ _ _ _ _ us hl => match us, hl with | [_], _ => rfl
  have FIsSimple := fun_mk (st := sIsSimple) lIsSimple cIsSimple kIsSimple
  have bIsSimple := FIsSimple.binds (ps := ["_law_kind_here", "_law_thing"]) fun _ _ _ _ _ _ us hl => match us, hl with | [_, _], _ => rfl
  have FOne := fun_mk (st := sOne) lOne cOne kOne
  have bOne := FOne.binds (ps := ["_law_kind_here", "_law_thing", "_law_depth"]) fun _ _ _ _ _ _ us hl => match us, hl with | [_, _, _], _ => rfl
  have FCnt := fun_mk (st := sCnt) lCnt cCnt kCnt
  have bCnt := FCnt.binds (ps := ["_law_kind_here", "_law_body_here", "_law_depth"]) fun _ _ _ _ _ _ us hl => match us, hl with | [_, _, _], _ => rfl
  have FIsProgL := fun_mk (st := sIsProgL) lIsProgL cIsProgL kIsProgL
  have bIsProgL := FIsProgL.binds (ps := ["_law_thing"]) fun _ _ _ _ _ _ us hl => match us, hl with | [_], _ => rfl
  have FLL := fun_mk (st := sLL) lLL cLL kLL
  have bLL := FLL.binds (ps := ["_law_body_here"]) fun _ _ _ _ _ _ us hl => match us, hl with | [_], _ => rfl
  have FText := fun_mk (st := sText) lText cText kText
  have bText := FText.binds (ps := ["_law_program_here"]) fun _ _ _ _ _ _ us hl => match us, hl with | [_], _ => rfl
  have FOdd := fun_mk (st := sOdd) lOdd cOdd kOdd
  have bOdd := FOdd.binds (ps := ["_law_bag_here"]) fun _ _ _ _ _ _ us hl => match us, hl with | [_], _ => rfl
  have FSpoilt := fun_mk (st := sSpoilt) lSpoilt cSpoilt kSpoilt
  have bSpoilt := FSpoilt.binds (ps := ["_law_bag_here", "_law_thing"]) fun _ _ _ _ _ _ us hl => match us, hl with | [_, _], _ => rfl
  have FSaid := fun_mk (st := sSaid) lSaid cSaid kSaid
  have bSaid := FSaid.binds (ps := ["_law_thing"]) fun _ _ _ _ _ _ us hl => match us, hl with | [_], _ => rfl
  have FLaw := fun_mk (st := sLaw) lLaw cLaw kLaw
  let T : Gs K mg := ⟨PySem.W.mg_none_of X G zisinstance, PySem.W.mg_none_of X G zint, PySem.W.mg_none_of X G zbool, PySem.W.mg_none_of X G zstr, PySem.W.mg_none_of X G ztuple, PySem.W.mg_none_of X G zlen, PySem.W.mg_none_of X G zzip, PySem.W.mg_none_of X G zall,
    aV, PySem.W.mg_of X G mV, sqt_of qV (by show 2 ≤ sizeLine; decide) (.cons ⟨_, rfl⟩ (.cons ⟨_, rfl⟩ (.nil))), aC, PySem.W.mg_of X G mC, sqt_of qC (by show 3 ≤ sizeLine; decide) (.cons ⟨_, rfl⟩ (.cons ⟨_, rfl⟩ (.cons ⟨_, rfl⟩ (.nil)))), aA, PySem.W.mg_of X G mA, sqt_of qA (by show 3 ≤ sizeLine; decide) (.cons ⟨_, rfl⟩ (.cons ⟨_, rfl⟩ (.cons ⟨_, rfl⟩ (.nil)))), aK, PySem.W.mg_of X G mK, sqt_of qK (by show 2 ≤ sizeLine; decide) (.cons ⟨_, rfl⟩ (.cons ⟨_, rfl⟩ (.nil))),
    tG, PySem.W.mg_of X G gG, tL, PySem.W.mg_of X G gL, tS, PySem.W.mg_of X G gS, tD, PySem.W.mg_of X G gD⟩
  have T2 : G2 mg := ⟨PySem.W.mg_none_of X G zabs, PySem.W.mg_none_of X G zmax, PySem.W.mg_none_of X G zmin, PySem.W.mg_none_of X G zrange⟩
  have msum := PySem.W.mg_none_of X G zsum
  have mlist := PySem.W.mg_none_of X G zlist
  let D : Gd K w mg := ⟨aB, PySem.W.mg_of X G mB, ⟨⟨_, _, qB, yB, .cons ⟨_, rfl⟩ (.cons ⟨_, rfl⟩ (.nil))⟩, wB⟩,
    aSh, aSh0, aSh1, aSh2, PySem.W.mg_of X G mSh, ⟨⟨_, _, qSh, ySh, .cons rfl (.cons rfl (.cons rfl (.nil)))⟩, wSh⟩, sqt_of qSh0 (by show 2 ≤ sizeLine; decide) (.cons ⟨_, rfl⟩ (.cons ⟨_, rfl⟩ (.nil))), sqt_of qSh1 (by show 2 ≤ sizeLine; decide) (.cons ⟨_, rfl⟩ (.cons ⟨_, rfl⟩ (.nil))), sqt_of qSh2 (by show 1 ≤ sizeLine; decide) (.cons ⟨_, rfl⟩ (.nil)),
    aTe, aTe0, aTe1, PySem.W.mg_of X G mTe, ⟨⟨_, _, qTe, yTe, .cons rfl (.cons rfl (.nil))⟩, wTe⟩, sqt_of qTe0 (by show 3 ≤ sizeLine; decide) (.cons ⟨_, rfl⟩ (.cons ⟨_, rfl⟩ (.cons ⟨_, rfl⟩ (.nil)))), sqt_of qTe1 (by show 1 ≤ sizeLine; decide) (.cons ⟨_, rfl⟩ (.nil)),
    aCo, aCo0, aCo1, PySem.W.mg_of X G mCo, ⟨⟨_, _, qCo, yCo, .cons rfl (.cons rfl (.nil))⟩, wCo⟩, sqt_of qCo0 (by show 1 ≤ sizeLine; decide) (.cons ⟨_, rfl⟩ (.nil)), sqt_of qCo1 (by show 1 ≤ sizeLine; decide) (.cons ⟨_, rfl⟩ (.nil))⟩
  let R : Er K mg := ⟨cP, cH, c1, c2, c3, c4, c5, PySem.W.mg_of X G rcP, PySem.W.mg_of X G rcH, PySem.W.mg_of X G rc1, PySem.W.mg_of X G rc2, PySem.W.mg_of X G rc3, PySem.W.mg_of X G rc4, PySem.W.mg_of X G rc5, xP, xk, xb, xt, PySem.W.exm_ref xe1 xe2 xe3 xe4, ⟨x1, x2, xb, x4, x5, x6, x7, x8⟩, kit_self, kit_none5 (kit_no xs xd1 xy1 xn1) (kit_no xs xd2 xy2 xn2) (kit_no xs xd3 xy3 xn3) (kit_no xs xd4 xy4 xn4) (kit_no xs xd5 xy5 xn5)⟩
  have mVE := PySem.W.mg_none_of X G zValueError
  have kVE : PySem.W.kitOne K (.ref R.cP) (.type "ValueError") = some true := kit_type (by decide +kernel) xv
  refine ⟨PySem.W.fnOf "law" "law" (defArgs sLaw) (defBody sLaw) (defScope sLaw) .none kVLaw dcLaw pmLaw anLaw cdLaw ctLaw, fun s v => .of_eq rfl, fun base _ _ => ?_⟩
  let CFrom : Cal l.prog w K mg base 1 "is_integer_from" ["thing", "least"] (spFrom K) := ⟨_, _, ok_from FFrom T, bFrom, kFrom, PySem.W.mg_of X G aFrom⟩
  let CInt : Cal l.prog w K mg base 2 "is_integer_from_to" ["thing", "least", "greatest"] (spInt K) := ⟨_, _, ok_int FInt CFrom, bInt, kInt, PySem.W.mg_of X G aInt⟩
  let CTerm : Cal l.prog w K mg base 3 "is_term" ["thing"] (sp1 isTerm K) := ⟨_, _, ok_term FTerm T CInt, bTerm, kTerm, PySem.W.mg_of X G aTerm⟩
  let CCond : Cal l.prog w K mg base 4 "is_condition" ["thing"] (sp1 isCond K) := ⟨_, _, ok_cond FCond T CTerm, bCond, kCond, PySem.W.mg_of X G aCond⟩
  let CPart : Cal l.prog w K mg base 4 "is_part" ["thing", "role"] (spPart K) := ⟨_, _, ok_part FPart T CInt CTerm, bPart, kPart, PySem.W.mg_of X G aPart⟩
  let CWord : Cal l.prog w K mg base 1 "word_of" ["thing"] (spWord K) := ⟨_, _, ok_word FWord T, bWord, kWord, PySem.W.mg_of X G aWord⟩
  let CRoles : Cal l.prog w K mg base 1 "roles_of" ["word", "kind"] (spRoles K) := ⟨_, _, ok_roles FRoles D, bRoles, kRoles, PySem.W.mg_of X G aRoles⟩
  let CPlain : Cal l.prog w K mg base 5 "is_plain_statement" ["thing", "kind"] (sp2 isPlain K) := ⟨_, _, ok_plain FPlain T CWord CRoles CPart, bPlain, kPlain, PySem.W.mg_of X G aPlain⟩
  let COut : Cal l.prog w K mg base 6 "is_outside_of_statement" ["thing", "kind"] (sp2 isOut K) := ⟨_, _, ok_out FOut T D CWord CCond CPlain, bOut, kOut, PySem.W.mg_of X G aOut⟩
  let CBodies : Cal l.prog w K mg base 1 "bodies_of" ["statement"] (spBods K) := ⟨_, _, ok_bodies FBodies T D, bBodies, kBodies, PySem.W.mg_of X G aBodies⟩
  let CProg : Cal l.prog w K mg base 7 "is_program" ["thing"] (spProg K) := ⟨_, _, ok_prog FProg T COut CBodies, bProg, kProg, PySem.W.mg_of X G aProg⟩
  let CBag : Cal l.prog w K mg base 1 "_law_bag" ["_law_script", "_law_k"] (spBag K) := ⟨_, _, ok_bag FBag T T2, bBag, kBag, PySem.W.mg_of X G aBag⟩
  let CDraw : Cal l.prog w K mg base 1 "_law_draw" ["_law_bag_here", "_law_many"] spDraw := ⟨_, _, ok_draw FDraw, bDraw, kDraw, PySem.W.mg_of X G aDraw⟩
  let CLarge : Cal l.prog w K mg base 2 "_law_large" ["_law_bag_here", "_law_many"] spLarge := ⟨_, _, ok_large FLarge CDraw, bLarge, kLarge, PySem.W.mg_of X G aLarge⟩
  let CSteps : Cal l.prog w K mg base 3 "_law_steps" ["_law_bag_here"] spSteps := ⟨_, _, ok_steps FSteps CDraw CLarge, bSteps, kSteps, PySem.W.mg_of X G aSteps⟩
  let CTermL : Cal l.prog w K mg base 2 "_law_term" ["_law_bag_here"] (spTermL K) := ⟨_, _, ok_termL FTermL CDraw, bTermL, kTermL, PySem.W.mg_of X G aTermL⟩
  let CCondL : Cal l.prog w K mg base 3 "_law_condition" ["_law_bag_here"] (spCondL K) := ⟨_, _, ok_condL FCondL CDraw CTermL, bCondL, kCondL, PySem.W.mg_of X G aCondL⟩
  let CSimple : Cal l.prog w K mg base 4 "_law_simple" ["_law_bag_here", "_law_kind_here"] (spSimple K) := ⟨_, _, ok_simple FSimple CDraw CTermL CSteps, bSimple, kSimple, PySem.W.mg_of X G aSimple⟩
  let CKind : Cal l.prog w K mg base 2 "_law_kind" ["_law_bag_here"] spKind := ⟨_, _, ok_kind FKind CDraw, bKind, kKind, PySem.W.mg_of X G aKind⟩
  let CBody : Cal l.prog w K mg base 13 "_law_body" ["_law_bag_here", "_law_kind_here", "_law_room", "_law_depth", "_law_most"] (spBody K 4) := ⟨_, _, both FBody bBody (PySem.W.mg_of X G aBody) FStmt bStmt (PySem.W.mg_of X G aStmt) T T2 CDraw CSimple CCondL 4, bBody, kBody, PySem.W.mg_of X G aBody⟩
  let CProgL : Cal l.prog w K mg base 14 "_law_program" ["_law_bag_here", "_law_kind_here", "_law_most"] (spProgL K) := ⟨_, _, ok_progL FProgL CDraw CBody, bProgL, kProgL, PySem.W.mg_of X G aProgL⟩
  let CWhole : Cal l.prog w K mg base 1 "_law_whole" ["_law_thing"] (spL1 isInt K) := ⟨_, _, ok_whole FWhole T, bWhole, kWhole, PySem.W.mg_of X G aWhole⟩
  let CIsTermL : Cal l.prog w K mg base 2 "_law_is_term" ["_law_thing"] (spL1 isTerm K) := ⟨_, _, ok_isTermL FIsTermL T CWhole, bIsTermL, kIsTermL, PySem.W.mg_of X G aIsTermL⟩
  let CIsVar : Cal l.prog w K mg base 1 "_law_is_variable" ["_law_thing"] (spL1 isVar K) := ⟨_, _, ok_isVar FIsVar T, bIsVar, kIsVar, PySem.W.mg_of X G aIsVar⟩
  let CIsCondL : Cal l.prog w K mg base 3 "_law_is_condition" ["_law_thing"] (spL1 isCond K) := ⟨_, _, ok_isCondL FIsCondL T CIsVar CIsTermL, bIsCondL, kIsCondL, PySem.W.mg_of X G aIsCondL⟩
  let CIsSimple : Cal l.prog w K mg base 3 "_law_is_simple" ["_law_kind_here", "_law_thing"] (spSimpleL K) := ⟨_, _, ok_isSimple FIsSimple T CWhole CIsVar CIsTermL, bIsSimple, kIsSimple, PySem.W.mg_of X G aIsSimple⟩
  let CCnt : Cal l.prog w K mg base 13 "_law_count" ["_law_kind_here", "_law_body_here", "_law_depth"] (spCnt K 4) := ⟨_, _, bothC FCnt bCnt (PySem.W.mg_of X G aCnt) FOne bOne (PySem.W.mg_of X G aOne) T msum CIsSimple CIsCondL 4, bCnt, kCnt, PySem.W.mg_of X G aCnt⟩
  let CIsProgL : Cal l.prog w K mg base 14 "_law_is_program" ["_law_thing"] (spProgC K) := ⟨_, _, ok_isProgL FIsProgL T CCnt, bIsProgL, kIsProgL, PySem.W.mg_of X G aIsProgL⟩
  let COdd : Cal l.prog w K mg base 2 "_law_odd" ["_law_bag_here"] (spOdd K) := ⟨_, _, ok_odd FOdd CDraw, bOdd, kOdd, PySem.W.mg_of X G aOdd⟩
  let CSpoilt : Cal l.prog w K mg base 13 "_law_spoilt" ["_law_bag_here", "_law_thing"] (spSpoilt K 10) := ⟨_, _, recS FSpoilt bSpoilt (PySem.W.mg_of X G aSpoilt) T mlist CDraw COdd 10, bSpoilt, kSpoilt, PySem.W.mg_of X G aSpoilt⟩
  let CJn : Cal l.prog w K mg base 1 "joined" ["parts"] (spJn K) := ⟨_, _, ok_Jn FJn T, bJn, kJn, PySem.W.mg_of X G aJn⟩
  let CPL : Cal l.prog w K mg base 2 "plain_line" ["statement"] (spPL K) := ⟨_, _, ok_PL FPL CJn, bPL, kPL, PySem.W.mg_of X G aPL⟩
  let CBL : Cal l.prog w K mg base 10 "body_lines" ["body"] (spBL K 4) := ⟨_, _, recT FBL bBL (PySem.W.mg_of X G aBL) FSL bSL (PySem.W.mg_of X G aSL) T CBodies CPL CJn 4, bBL, kBL, PySem.W.mg_of X G aBL⟩
  let CShow : Cal l.prog w K mg base 11 "show" ["program"] (spShow K) := ⟨_, _, ok_show FShow CProg CBL, bShow, kShow, PySem.W.mg_of X G aShow⟩
  let CLL : Cal l.prog w K mg base 6 "_law_lines" ["_law_body_here"] (spLL K 4) := ⟨_, _, recLL FLL bLL (PySem.W.mg_of X G aLL) T 4, bLL, kLL, PySem.W.mg_of X G aLL⟩
  let CText : Cal l.prog w K mg base 7 "_law_text" ["_law_program_here"] (spText K) := ⟨_, _, ok_text FText CLL, bText, kText, PySem.W.mg_of X G aText⟩
  let CSaid : Cal l.prog w K mg base 12 "_law_said" ["_law_thing"] (spSaid K) := ⟨_, _, ok_said FSaid T R mVE kVE (ok_showX FShow R CProg CBL) bShow kShow (PySem.W.mg_of X G aShow), bSaid, kSaid, PySem.W.mg_of X G aSaid⟩
  exact ok_law FLaw T T2 CBag CKind CProgL CText CShow CSaid CSpoilt CIsProgL
theorem walk {l : PySem.W.OpenLaw} {q : Program} {loose : List Str} {XP : (Str → Option Value) → Heap → Prop} {YP : World → Heap → Prop} {d : DefRec} {K : Params → PySem.W.Frag} (hn : l.most = some 63) (hdf : d.params.defaults = [])
    (hY : ∀ (w : World) (h : Heap), YP w h → (K w.params).In h)
    (F : ∀ (w : World) (mg : Str → Option Value) (fa : Addr) (h : Heap), (K w.params).In h → h.Ns mainGlobals mg → mg d.name = some (.ref fa) →
      ∃ fd : FuncData, (∀ (s : Shared) (u : Value), BindsTo s fd ⟨[u], []⟩ [("_law_script", u)]) ∧ ∀ base : Heap, (K w.params).In base → base.Ns mainGlobals mg → FnOk l.prog w (K w.params) mg base CX0 15 fa fd ["_law_script"] (spLaw (K w.params))) :
    PySem.W.WalkO q loose XP YP l.row.toRowW d [] (fun f vs => PySem.call f vs) :=
  L2.walk_of (n := 63) (k := 15) (x := "_law_script") (CX := fun _ => CX0) (sp := fun w => spLaw (K w.params)) hn (by decide) hdf ⟨rfl, by decide, by decide⟩ hY F (fun _ _ a ns hl _ hS => ⟨a, ns, rfl, hS, hl, fun _ => rfl⟩) fun _ _ _ _ _ z => z
end My
open PySem PySem.W PyProof.Rows
set_option maxRecDepth 100000 in
set_option maxHeartbeats 0 in
theorem PySem.Challenge.cw_neithertells_k03_texts_shown_holds : PySem.Challenge.rw_neithertells_k03_texts_shown.Holds := by
  w_on; o_law; k_head; (case hw => w_witness2)
  k_fill
  refine My.walk (l := PySem.Challenge.rw_neithertells_k03_texts_shown) rfl rfl (fun w h Y => PySem.W.kIn_of Y) ?F
  case F =>
    intro w mg fa h KX G hmg
    refine' My.all_mk KX G hmg ?aFrom ?lFrom ?cFrom ?kFrom ?aInt ?lInt ?cInt ?kInt ?aTerm ?lTerm ?cTerm ?kTerm ?aCond ?lCond ?cCond ?kCond ?aPart ?lPart ?cPart ?kPart ?aWord ?lWord ?cWord ?kWord ?aRoles ?lRoles ?cRoles ?kRoles ?aPlain ?lPlain ?cPlain ?kPlain ?aOut ?lOut ?cOut ?kOut ?aBodies ?lBodies ?cBodies ?kBodies ?aProg ?lProg ?cProg ?kProg ?aShow ?lShow ?cShow ?kShow ?aBL ?lBL ?cBL ?kBL ?aSL ?lSL ?cSL ?kSL ?aPL ?lPL ?cPL ?kPL ?aJn ?lJn ?cJn ?kJn ?aBag ?lBag ?cBag ?kBag ?aDraw ?lDraw ?cDraw ?kDraw ?aLarge ?lLarge ?cLarge ?kLarge ?aSteps ?lSteps ?cSteps ?kSteps ?aTermL ?lTermL ?cTermL ?kTermL ?aCondL ?lCondL ?cCondL ?kCondL ?aSimple ?lSimple ?cSimple ?kSimple ?aKind ?lKind ?cKind ?kKind ?aStmt ?lStmt ?cStmt ?kStmt ?aBody ?lBody ?cBody ?kBody ?aProgL ?lProgL ?cProgL ?kProgL ?aWhole ?lWhole ?cWhole ?kWhole ?aIsTermL ?lIsTermL ?cIsTermL ?kIsTermL ?aIsVar ?lIsVar ?cIsVar ?kIsVar ?aIsCondL ?lIsCondL ?cIsCondL ?kIsCondL ?aIsSimple ?lIsSimple ?cIsSimple ?kIsSimple ?aOne ?lOne ?cOne ?kOne ?aCnt ?lCnt ?cCnt ?kCnt ?aIsProgL ?lIsProgL ?cIsProgL ?kIsProgL ?aLL ?lLL ?cLL ?kLL ?aText ?lText ?cText ?kText ?aOdd ?lOdd ?cOdd ?kOdd ?aSpoilt ?lSpoilt ?cSpoilt ?kSpoilt ?aSaid ?lSaid ?cSaid ?kSaid ?aLaw ?lLaw ?cLaw ?kLaw ?zisinstance ?zint ?zbool ?zstr ?ztuple ?zlen ?zzip ?zall ?zabs ?zmax ?zmin ?zrange ?zsum ?zlist ?zValueError ?gG ?gL ?gS ?gD ?mV ?qV ?mC ?qC ?mA ?qA ?mK ?qK ?mB ?qB ?yB ?wB ?mSh ?qSh ?ySh ?wSh ?qSh0 ?qSh1 ?qSh2 ?mTe ?qTe ?yTe ?wTe ?qTe0 ?qTe1 ?mCo ?qCo ?yCo ?wCo ?qCo0 ?qCo1 ?rcP ?rcH ?rc1 ?rc2 ?rc3 ?rc4 ?rc5 ?xP ?xk ?xb ?xt ?xe1 ?xe2 ?xe3 ?xe4 ?x1 ?x2 ?x4 ?x5 ?x6 ?x7 ?x8 ?xs ?xv ?xd1 ?xy1 ?xn1 ?xd2 ?xy2 ?xn2 ?xd3 ?xy3 ?xn3 ?xd4 ?xy4 ?xn4 ?xd5 ?xy5 ?xn5
    (case aFrom => k_is)
    (case lFrom => k_is)
    (case cFrom => k_is)
    (case kFrom => k_is)
    (case aInt => k_is)
    (case lInt => k_is)
    (case cInt => k_is)
    (case kInt => k_is)
    (case aTerm => k_is)
    (case lTerm => k_is)
    (case cTerm => k_is)
    (case kTerm => k_is)
    (case aCond => k_is)
    (case lCond => k_is)
    (case cCond => k_is)
    (case kCond => k_is)
    (case aPart => k_is)
    (case lPart => k_is)
    (case cPart => k_is)
    (case kPart => k_is)
    (case aWord => k_is)
    (case lWord => k_is)
    (case cWord => k_is)
    (case kWord => k_is)
    (case aRoles => k_is)
    (case lRoles => k_is)
    (case cRoles => k_is)
    (case kRoles => k_is)
    (case aPlain => k_is)
    (case lPlain => k_is)
    (case cPlain => k_is)
    (case kPlain => k_is)
    (case aOut => k_is)
    (case lOut => k_is)
    (case cOut => k_is)
    (case kOut => k_is)
    (case aBodies => k_is)
    (case lBodies => k_is)
    (case cBodies => k_is)
    (case kBodies => k_is)
    (case aProg => k_is)
    (case lProg => k_is)
    (case cProg => k_is)
    (case kProg => k_is)
    (case aShow => k_is)
    (case lShow => k_is)
    (case cShow => k_is)
    (case kShow => k_is)
    (case aBL => k_is)
    (case lBL => k_is)
    (case cBL => k_is)
    (case kBL => k_is)
    (case aSL => k_is)
    (case lSL => k_is)
    (case cSL => k_is)
    (case kSL => k_is)
    (case aPL => k_is)
    (case lPL => k_is)
    (case cPL => k_is)
    (case kPL => k_is)
    (case aJn => k_is)
    (case lJn => k_is)
    (case cJn => k_is)
    (case kJn => k_is)
    (case aBag => k_is)
    (case lBag => k_is)
    (case cBag => k_is)
    (case kBag => k_is)
    (case aDraw => k_is)
    (case lDraw => k_is)
    (case cDraw => k_is)
    (case kDraw => k_is)
    (case aLarge => k_is)
    (case lLarge => k_is)
    (case cLarge => k_is)
    (case kLarge => k_is)
    (case aSteps => k_is)
    (case lSteps => k_is)
    (case cSteps => k_is)
    (case kSteps => k_is)
    (case aTermL => k_is)
    (case lTermL => k_is)
    (case cTermL => k_is)
    (case kTermL => k_is)
    (case aCondL => k_is)
    (case lCondL => k_is)
    (case cCondL => k_is)
    (case kCondL => k_is)
    (case aSimple => k_is)
    (case lSimple => k_is)
    (case cSimple => k_is)
    (case kSimple => k_is)
    (case aKind => k_is)
    (case lKind => k_is)
    (case cKind => k_is)
    (case kKind => k_is)
    (case aStmt => k_is)
    (case lStmt => k_is)
    (case cStmt => k_is)
    (case kStmt => k_is)
    (case aBody => k_is)
    (case lBody => k_is)
    (case cBody => k_is)
    (case kBody => k_is)
    (case aProgL => k_is)
    (case lProgL => k_is)
    (case cProgL => k_is)
    (case kProgL => k_is)
    (case aWhole => k_is)
    (case lWhole => k_is)
    (case cWhole => k_is)
    (case kWhole => k_is)
    (case aIsTermL => k_is)
    (case lIsTermL => k_is)
    (case cIsTermL => k_is)
    (case kIsTermL => k_is)
    (case aIsVar => k_is)
    (case lIsVar => k_is)
    (case cIsVar => k_is)
    (case kIsVar => k_is)
    (case aIsCondL => k_is)
    (case lIsCondL => k_is)
    (case cIsCondL => k_is)
    (case kIsCondL => k_is)
    (case aIsSimple => k_is)
    (case lIsSimple => k_is)
    (case cIsSimple => k_is)
    (case kIsSimple => k_is)
    (case aOne => k_is)
    (case lOne => k_is)
    (case cOne => k_is)
    (case kOne => k_is)
    (case aCnt => k_is)
    (case lCnt => k_is)
    (case cCnt => k_is)
    (case kCnt => k_is)
    (case aIsProgL => k_is)
    (case lIsProgL => k_is)
    (case cIsProgL => k_is)
    (case kIsProgL => k_is)
    (case aLL => k_is)
    (case lLL => k_is)
    (case cLL => k_is)
    (case kLL => k_is)
    (case aText => k_is)
    (case lText => k_is)
    (case cText => k_is)
    (case kText => k_is)
    (case aOdd => k_is)
    (case lOdd => k_is)
    (case cOdd => k_is)
    (case kOdd => k_is)
    (case aSpoilt => k_is)
    (case lSpoilt => k_is)
    (case cSpoilt => k_is)
    (case kSpoilt => k_is)
    (case aSaid => k_is)
    (case lSaid => k_is)
    (case cSaid => k_is)
    (case kSaid => k_is)
    (case aLaw => k_is)
    (case lLaw => k_is)
    (case cLaw => k_is)
    (case kLaw => k_is)
    (case zisinstance => k_is)
    (case zint => k_is)
    (case zbool => k_is)
    (case zstr => k_is)
    (case ztuple => k_is)
    (case zlen => k_is)
    (case zzip => k_is)
    (case zall => k_is)
    (case zabs => k_is)
    (case zmax => k_is)
    (case zmin => k_is)
    (case zrange => k_is)
    (case zsum => k_is)
    (case zlist => k_is)
    (case zValueError => k_is)
    (case gG => k_is)
    (case gL => k_is)
    (case gS => k_is)
    (case gD => k_is)
    (case mV => k_is)
    (case qV => k_is)
    (case mC => k_is)
    (case qC => k_is)
    (case mA => k_is)
    (case qA => k_is)
    (case mK => k_is)
    (case qK => k_is)
    (case mB => k_is)
    (case qB => k_is)
    (case yB => first | k_is | (simp [PySem.W.KeysLit]))
    (case wB => first | rfl | decide | k_is)
    (case mSh => k_is)
    (case qSh => k_is)
    (case ySh => first | k_is | (simp [PySem.W.KeysLit]))
    (case wSh => first | rfl | decide | k_is)
    (case qSh0 => k_is)
    (case qSh1 => k_is)
    (case qSh2 => k_is)
    (case mTe => k_is)
    (case qTe => k_is)
    (case yTe => first | k_is | (simp [PySem.W.KeysLit]))
    (case wTe => first | rfl | decide | k_is)
    (case qTe0 => k_is)
    (case qTe1 => k_is)
    (case mCo => k_is)
    (case qCo => k_is)
    (case yCo => first | k_is | (simp [PySem.W.KeysLit]))
    (case wCo => first | rfl | decide | k_is)
    (case qCo0 => k_is)
    (case qCo1 => k_is)
    (case rcP => k_is)
    (case rcH => k_is)
    (case rc1 => k_is)
    (case rc2 => k_is)
    (case rc3 => k_is)
    (case rc4 => k_is)
    (case rc5 => k_is)
    (case xP => k_exc)
    (case xk => k_is)
    (case xb => k_is)
    (case xt => k_is)
    (case xe1 => k_is)
    (case xe2 => k_is)
    (case xe3 => k_is)
    (case xe4 => k_is)
    (case x1 => k_is)
    (case x2 => k_is)
    (case x4 => k_is)
    (case x5 => k_is)
    (case x6 => k_is)
    (case x7 => k_is)
    (case x8 => k_is)
    (case xs => k_is)
    (case xv => k_is)
    (case xd1 => k_is)
    (case xy1 => k_is)
    (case xn1 => k_is)
    (case xd2 => k_is)
    (case xy2 => k_is)
    (case xn2 => k_is)
    (case xd3 => k_is)
    (case xy3 => k_is)
    (case xn3 => k_is)
    (case xd4 => k_is)
    (case xy4 => k_is)
    (case xn4 => k_is)
    (case xd5 => k_is)
    (case xy5 => k_is)
    (case xn5 => k_is)

